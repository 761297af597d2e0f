import PyProof.Rows.All
import Wide.All
import OpenK.AllK
import Wide.FinOn
import Lean
import PyProof.EqAt
import PyProof.EqKinds
import PyProof.TupleCall
import PySem.Challenge.RW_ringmeet_k31_most_chalk
set_option Elab.async false
set_option compiler.extract_closed false
set_option linter.all false
set_option maxRecDepth 100000
set_option maxHeartbeats 4000000
open List renaming getElem?_eq_some_iff → gE1, getElem?_append_left → gL1, getElem?_eq_getElem → gG1, mem_of_getElem? → gM1, getElem?_set_ne → gS1, length_append → lA1, length_map → lM1, getElem?_cons_succ → gC1, mem_cons_of_mem → mC1, mem_cons_self → mS1, getElem?_map → gP1, getElem?_append_right → gR1, size_toArray → sT1, map_cons → mP1, length_cons → lC1, length_replicate → lR1, mem_append_right → mA1
open Option renaming bind_eq_some_iff → oB1, map_eq_some_iff → oM1, bind_some → oS1, map_some → oP1
open Nat renaming le_refl → nR1, lt_of_lt_of_le → nL1, ne_of_lt → nN1, ne_of_gt → nG1
open Bool renaming and_eq_true → bA1, false_eq_true → bF1
open Array renaming getElem?_eq_getElem → aG1, getElem?_toList → aT1
open PySem.W renaming Frag → Fg1, nsIn → wN1, keepIn → wK1, codeIn → wC1, fnOf → wF1, mg_of → wM1
open PySem.Heap renaming get?_push_of_some → hP1, get?_push_size → hS1, lt_size → hL1, size_push → hZ1, get?_update_ne → hU1, get?_update_self → hW1
open PySem renaming wpAny_bind → wB1, wpAny_pure → wP1, wpAny_setField_rec → wS1, wpAny_newObj_type → wO1, codeAny_builtin → wD1, wpAny_call_entry → wE1
open List renaming take_nil → av, drop_nil → aw, mem_filter → aA, mem_range → aB, filterMap_cons → aE, mem_cons → aF, mem_append → aG, mem_append_left → aH, getElem?_set_self → aI, mem_filterMap → aL, append_nil → aN, nodup_cons → aO, replicate → aP, length_take → aR, getElem?_replicate → aS, getElem?_take_of_lt → aT, take_sublist → aU, length_drop → aV, length_set → aW, length_singleton → aY, map_nil → aZ, find?_cons → a0, any_cons → bc, length_nil → bd, cons_append → bi, prefix_rfl → bm, nodup_nil → bn, getElem?_of_mem → bo, map_map → bt, prefix_append → bu, nodup_append → bw, all_eq_true → bB, drop_drop → bD, forIn_cons → bE, lookup_cons → bF, append_assoc → bG, getD_eq_getElem?_getD → bJ, zipIdx_cons → bK, not_mem_nil → bL, all_cons → bP, any_eq_true → bR, getElem_mem → bS, zip_cons_cons → bT, drop_eq_getElem_cons → bU, cons_prefix_cons → bW, drop_zero → bX, take_length → bY, ext_getElem? → bZ, getElem?_eq_none → b4, findIdx?_eq_some_iff_getElem → b6, take_of_length_le → b8, foldl_cons → b9, pairwise_cons → ca, mem_map → cc, getElem?_toArray → cg, mapM_toArray → cj, all_toArray → ck, length_eq_zero_iff → cm, pairwise_iff_getElem → cq, pairwise_append → cw, getElem?_drop → cy, drop_sublist → cA, pairwise_lt_range → cB, map_append → cC, take_succ → cD, length_eraseIdx_of_lt → cF, take_append_drop → cG, eraseIdx_eq_take_drop_succ → cH, getElem?_range → cI, length_pos_iff → cJ, mem_of_mem_take → cK, mem_of_mem_drop → cM, contains_iff_mem → cO, forall_mem_nil → cP, perm_append_comm → cQ, take_succ_cons → cR, take_zero → cS, extract_eq_take_drop → cU, mem_singleton → cV, mem_reverse → cW, nil_append → cX, set_append_right → cZ, set_cons_zero → c4, flatten_cons → c5, set_cons_succ → c6, flatten_append → c7, take_left → c8, map_congr_left → c9, filter_cons → da, pairwise_map → db, getElem?_cons_zero → de, length_filter_le → df, zipWith → di, zipWith_cons_cons → dj, all_append → dk, length_range → dq
open Option renaming some → ay, isSome_iff_exists → aQ, isSome_map → bf, getD_some → b7
open Nat renaming lt_irrefl → az, le_trans → aC, le_of_lt → aD, le_succ → aX, lt_trans → bg, zero_le → bh, add_assoc → bj, le_add_right → bq, add_sub_cancel_left → br, not_lt_zero → bv, min_eq_left → bA, lt_succ_self → bC, lt_of_le_of_lt → bH, le_of_succ_le → bI, zero_add → bN, lt_or_ge → bV, lt_succ_of_lt → cE, sub_self → cN, mul_le_mul_right → dg
open Array renaming length_toList → aJ, mem_toList_iff → aM, perm_iff_toList_perm → cb, mem_of_getElem? → cf, getElem?_eq_none → cp, toList_append → cr, toList_push → cu, toList_extract → cv, getElem_mem → cT, toList_reverse → cY
open Bool renaming false_ne_true → aK, and_true → bM, or_eq_true → bO, eq_iff_iff → bQ, not_true → b5, not_false → ci
open PySem renaming Value → dr, Shared → dw, Addr → dy, Program → dz, Around → dA, World → dB, mainGlobals → dD, starEach → dE, sizeLine → dF, wpAny → dG, Heap → dH, FuncData → dI, Stmt → dJ, Scope → dL
noncomputable section
namespace L2
open PySem PySem.Spec PyProof.Rows
abbrev Key:=Sum Int Str
noncomputable def om:Key->dr->Bool
 | .inl k,v=>Value.isInt k v
 | .inr x,v=>Value.isStrOf x v
noncomputable def Iy(w:dB):Key->Int
 | .inl k=>hashInt k
 | .inr x=>hashStr w x
theorem eR:∀{k:Key} {v:dr},om k v=true->(∃i t,k=Sum.inl i/\v=Value.int i t)\/(∃x t,k=Sum.inr x/\v=Value.str x t)
 | .inl i,v,h=>by
  obtain⟨t,e⟩:=Value.isInt_shape (k:=i) (v:=v) h;exact .inl ⟨i,t,rfl,e⟩
 | .inr x,v,h=>by
  obtain⟨t,e⟩:=Value.isStrOf_shape (x:=x) (v:=v) h;exact .inr ⟨x,t,rfl,e⟩
theorem wE(i:Int)(t:Tok):om (.inl i) (.int i t)=true:=by simp[om,Value.isInt]
theorem wD(x:Str)(t:Tok):om (.inr x) (.str x t)=true:=by simp[om,Value.isStrOf]
theorem EV(a b:Int):decide ((Sum.inl a:Key)=Sum.inl b)=(a == b):=by
 by_cases e:a=b
 ·subst e;simp
 ·have h:¬ (Sum.inl a:Key)=Sum.inl b:=fun q=>e (Sum.inl.inj q);rw[decide_eq_false h];exact(beq_eq_false_iff_ne.mpr e).symm
theorem ER(a b:Str):decide ((Sum.inr a:Key)=Sum.inr b)=decide (a=b):=by
 by_cases e:a=b
 ·subst e;simp
 ·have h:¬ (Sum.inr a:Key)=Sum.inr b:=fun q=>e (Sum.inr.inj q);rw[decide_eq_false h,decide_eq_false e]
theorem EU(a:Int)(b:Str):decide ((Sum.inl a:Key)=Sum.inr b)=false:=decide_eq_false (fun q=>nomatch q)
theorem ES(a:Str)(b:Int):decide ((Sum.inr a:Key)=Sum.inl b)=false:=decide_eq_false (fun q=>nomatch q)
noncomputable def eN(prog:dz)(w:dB):PySem.KeyKind prog w Key where
 is:=om
 hash:=Iy w
 inj:=fun v a b ha hb=>by
  rcases eR ha with⟨i,t,rfl,rfl⟩|⟨x,t,rfl,rfl⟩
  ·rcases eR hb with⟨j,u,rfl,e⟩|⟨y,u,rfl,e⟩
   ·injection e with e1 _;rw[e1]
   ·exact nomatch e
  ·rcases eR hb with⟨j,u,rfl,e⟩|⟨y,u,rfl,e⟩
   ·exact nomatch e
   ·injection e with e1 _;rw[e1]
 byValue:=fun k v h=>by
  rcases eR h with⟨i,t,rfl,rfl⟩|⟨x,t,rfl,rfl⟩<;>rfl
 pyHash:=fun hv h=>by
  rcases eR hv with⟨i,t,rfl,rfl⟩|⟨x,t,rfl,rfl⟩
  ·exact wpAny_pyHash_int h
  ·exact wpAny_pyHash_str h
 eqBool:=fun hu hv h=>by
  rcases eR hu with⟨i,t,rfl,rfl⟩|⟨x,t,rfl,rfl⟩
  ·rcases eR hv with⟨j,u,rfl,rfl⟩|⟨y,u,rfl,rfl⟩
   ·rw[EV]at h;exact wpAny_eqBool_int h
   ·rw[EU]at h;exact SeqAt.EqAt.int_str i t y u _ _ _ _ h
  ·rcases eR hv with⟨j,u,rfl,rfl⟩|⟨y,u,rfl,rfl⟩
   ·rw[ES]at h;exact SeqAt.EqAt.str_int x t j u _ _ _ _ h
   ·rw[ER]at h;exact wpAny_eqBool_str h
 «strs» :=fun k x t v h=>by
  rcases eR h with⟨i,u,rfl,e⟩|⟨y,u,rfl,e⟩
  ·exact nomatch e
  ·injection e with e1 _;subst e1;cases v<;>rfl
theorem rE(prog:dz)(w:dB)(i:Int)(t:Tok):(eN prog w).is (.inl i) (.int i t)=true:=wE i t
theorem rD(prog:dz)(w:dB)(x:Str)(t:Tok):(eN prog w).is (.inr x) (.str x t)=true:=wD x t
end L2
namespace L2
open PySem PySem.Spec PyProof.Rows
inductive V where
 |non|bl (b:Bool)|int (i:Int)|str (x:Str)|byt (b:Array UInt8)|flt (b:UInt64)|ref (a:dy)|ty (n:String)
 deriving DecidableEq
noncomputable def dX:V->dr->Prop
 | .non,u=>u=Value.none
 | .bl b,u=>u=Value.bool b
 | .int i,u=>∃t,u=Value.int i t
 | .str x,u=>∃t,u=Value.str x t
 | .byt b,u=>∃t,u=Value.bytes b t
 | .flt b,u=>∃t,u=Value.float b t
 | .ref a,u=>u=Value.ref a
 | .ty n,u=>u=Value.type n
abbrev ea:List V->List dr->Prop:=Paired dX
theorem ea.length{xs:List V}{a:List dr}(r:ea xs a):xs.length=a.length:=Paired.length r
theorem ea.get:∀{xs:List V} {a:List dr} {i:Nat} {x:V},ea xs a->xs[i]?=some x -> ∃u,a[i]?=some u/\dX x u:=by
 intro xs a i x h e
 induction h generalizing i with
 |nil=>cases e
 |cons r t ih=>cases i with
  |zero=>cases e;exact⟨_,rfl,r⟩
  |succ i=>exact ih (i:=i) e
theorem ea.set{x:V}{u:dr}(r:dX x u):∀{xs:List V} {a:List dr} (i:Nat),ea xs a->ea (xs.set i x) (a.set i u):=by
 intro xs a i h
 induction h generalizing i with
 |nil=>exact .nil
 |cons q t ih=>cases i with
  |zero=>exact .cons r t
  |succ i=>exact .cons q (ih i)
theorem ea.append:∀{xs ys:List V} {a ws:List dr},ea xs a->ea ys ws->ea (xs++ys) (a++ws):=by
 intro xs ys a ws h s
 induction h with
 |nil=>exact s
 |cons r t ih=>exact .cons r ih
theorem ea.take:∀{xs:List V} {a:List dr} (n:Nat),ea xs a->ea (xs.take n) (a.take n):=by
 intro xs a n h
 induction h generalizing n with
 |nil=>rw[av,av];exact .nil
 |cons r t ih=>cases n with
  |zero=>exact .nil
  |succ n=>exact .cons r (ih n)
theorem ea.drop:∀{xs:List V} {a:List dr} (n:Nat),ea xs a->ea (xs.drop n) (a.drop n):=by
 intro xs a n h
 induction h generalizing n with
 |nil=>rw[aw,aw];exact .nil
 |cons r t ih=>cases n with
  |zero=>exact .cons r t
  |succ n=>exact ih n
noncomputable def kZ:Option V->Option dr->Prop
 |some v,some u=>dX v u
 |none,none=>True
 |_,_=>False
noncomputable def KV{κ:Type}:List (κ×V)->List (κ×dr)->Prop:=Paired fun(p:κ×V) (q:κ×dr)=>p.1=q.1/\dX p.2 q.2
noncomputable def kV:Key->V
 | .inl i=>.int i
 | .inr x=>.str x
inductive HO where
 /-- a list -/
 |lst (xs:List V)
 /-- a tuple (never changes) -/
 |tup (xs:List V)
 /-- a dict whose keys are ints and texts; one whose keys are tuples of ints and texts (the empty one is both) -/
 |dK (kvs:List (Key×V))|dT (kvs:List (List Key×V))
 /-- a set of ints: its members, its size -/
 |set (S:Int->Bool) (n:Nat)
 /-- an instance of the class at C, its dict at dx, its attributes -/
 |ins (C dx:dy) (fs:List (Str×V))
 /-- the dict of the instance at x -/
 |own (x:dy)
 /-- the dict of an exception -/
 |xd (fs:List (Str×V))
 /-- a bound method, f of x -/
 |met (f x:dy)
 /-- a range object lo, lo + 1, .. below hi -/
 |rng (lo hi:Int)
 /-- a thing that is known to the object (the script; a dict while a loop walks it): read, never written while it is so -/
 |frz (o:Obj) (u:HO)
 /-- a code object's table -/
 |tbl (ps:Array dr)
 /-- any other thing, by what is true of its one object (a def of one's own: SetO a S n := HO.ext fun h => ..) -/
 |ext (φ:dH->Prop)
abbrev Hp:=dy->Option HO
noncomputable def upd(H:Hp)(a:dy)(o:HO):Hp:=fun b=>if b=a then some o else H b
theorem d2{H:Hp}{a:dy}{o:HO}:upd H a o a=some o:=by unfold upd;rw[if_pos rfl]
theorem dR{H:Hp}{a b:dy}{o:HO}(h:b≠a):upd H a o b=H b:=by unfold upd;rw[if_neg h]
theorem Gs{H:Hp}{a b:dy}{o u:HO}(h:H a=some o)(h':H b=some u)(d:o≠u):a≠b:=by
 intro e;subst e;rw[h]at h';exact d (Option.some.inj h')
theorem ei{H:Hp}{a b:dy}{o:HO}(h:H a=some o)(h':H b=none):a≠b:=by
 intro e;subst e;rw[h]at h';cases h'
section
variable(P:dz) (w:dB)
noncomputable def ew(H:Hp)(h:dH)(a:dy):HO->Prop
 | .lst xs=>xs.length<=dF /\ ∃(its:List dr) (n:Nat),ea xs its/\h.get? a=some {cls:=.type "list",data:=.seq its.toArray n}
 | .tup xs=>xs.length<=dF /\ ∃its:List dr,ea xs its/\IsTup h a its.toArray
 | .dK kvs=>kvs.length<=dF/\(a == sysModules)=false /\ ∃vs,KV kvs vs/\h.DictOf (eN P w) a vs
 | .dT kvs=>kvs.length<=dF/\(a == sysModules)=false /\ ∃ xs:List (List Key×dy×dr),
   Paired (fun(p:List Key×V) (q:List Key×dy×dr)=>p.1=q.1/\H q.2.1=some (.tup (p.1.map kV))/\dX p.2 q.2.2) kvs xs /\
   ∃o es ep,h.get? a=some o/\o.ExactDict/\o.data = .dict es ep/\es.toList=xs.map (entryOfKey (tupleKind (eN P w)))/\(xs.map (·.1)).Nodup
 | .set S n=>h.SetOf (intKind P w) a S n
 | .ins C dx fs=>H dx=some (.own a)/\fs.length<=1000/\dx≠a/\h.get? a=some (PySem.W.instObj C dx) /\
   ∃mA,h.Ns1 dx mA/\(∀f,kZ (fs.lookup f) (mA f))/\PySem.Within mA (fs.map (·.1))
 | .own _=>∃o,h.get? a=some o
 | .xd fs=>∃mA,h.Ns1 a mA /\ ∀f,kZ (fs.lookup f) (mA f)
 | .rng lo hi=>∃t u v,h.get? a=some {cls:=.type "range",data:=.fields #[.int lo t,.int hi u,.int 1 v]}
 | .frz o u=>h.get? a=some o/\ew H h a u
 | .tbl ps=>h.get? a=some {cls:=.none,data:=.fields ps}
 | .met f x=>h.get? a=some (PySem.W.methodObj (.ref f) (.ref x))
 | .ext φ=>φ h/\(∃o,h.get? a=some o) /\ ∀h1 h2:dH,φ h1->(∀o,h1.get? a=some o->h2.get? a=some o)->φ h2
noncomputable def jC(H:Hp)(h:dH):Prop:=∀a o,H a=some o->ew P w H h a o
end
section
variable{P:dz}{w:dB}{H H':Hp}{h h':dH}{a:dy}{o:HO}
theorem ew.lt(x:ew P w H h a o):a<h.objs.size:=by
 cases o with
 |lst xs=>obtain⟨_,_,_,_,e⟩:=x;exact hL1 e
 |tup xs=>obtain⟨_,_,_,p⟩:=x;exact p.lt
 |dK kvs=>obtain⟨_,_,_,_,o,_,_,e,_⟩:=x;exact hL1 e
 |dT kvs=>obtain⟨_,_,_,_,o,_,_,e,_⟩:=x;exact hL1 e
 |set S n=>obtain⟨o,_,_,_,e,_⟩:=x;exact hL1 e
 |ins C dx fs=>obtain⟨_,_,_,e,_⟩:=x;exact hL1 e
 |own y=>obtain⟨_,e⟩:=x;exact hL1 e
 |xd fs=>obtain⟨_,⟨_,_,_,e,_⟩,_⟩:=x;exact hL1 e
 |rng lo hi=>obtain⟨_,_,_,e⟩:=x;exact hL1 e
 |frz b u=>obtain⟨e,_⟩:=x;exact hL1 e
 |tbl ps=>exact hL1 (show h.get? a=some _ from x)
 |met f y=>exact hL1 (show h.get? a=some _ from x)
 |ext φ=>obtain⟨_,⟨_,e⟩,_⟩:=x;exact hL1 e
theorem Paired.mapP{α β:Type}{F G:α->β->Prop}:∀{l₁:List α} {l₂:List β},Paired F l₁ l₂->(∀a b,F a b->G a b)->Paired G l₁ l₂:=by
 intro a b h f
 induction h with
 |nil=>exact .nil
 |cons r t ih=>exact .cons (f _ _ r) ih
theorem ew.stay(x:ew P w H h a o)(k:∀ b u,(b=a\/H b=some (.own a))->h.get? b=some u->h'.get? b=some u)(ho:∀b,H b=some (.own a)->H' b=some (.own a))(ht:∀b xs,H b=some (.tup xs)->H' b=some (.tup xs)):ew P w H' h' a o:=by
 induction o with
 |lst xs=>obtain⟨z,i,n,r,e⟩:=x;exact⟨z,i,n,r,k _ _ (.inl rfl) e⟩
 |tup xs=>obtain⟨z,i,r,g,e,c⟩:=x;exact⟨z,i,r,g,k _ _ (.inl rfl) e,c⟩
 |dK kvs=>obtain⟨z,y,vs,r,g,es,ep,e,c⟩:=x;exact⟨z,y,vs,r,g,es,ep,k _ _ (.inl rfl) e,c⟩
 |dT kvs=>
  obtain⟨z,y,xs,r,g,es,ep,e,c⟩:=x;exact⟨z,y,xs,Paired.mapP r fun p q z=>⟨z.1,ht _ _ z.2.1,z.2.2⟩,g,es,ep,k _ _ (.inl rfl) e,c⟩
 |set S n=>obtain⟨g,es,ep,t,e,c⟩:=x;exact⟨g,es,ep,t,k _ _ (.inl rfl) e,c⟩
 |ins C dx fs=>
  obtain⟨d,z,ne,e,mA,⟨j,es,ep,l,c⟩,r⟩:=x;exact⟨ho _ d,z,ne,k _ _ (.inl rfl) e,mA,⟨j,es,ep,k _ _ (.inr d) l,c⟩,r⟩
 |own y=>obtain⟨g,e⟩:=x;exact⟨g,k _ _ (.inl rfl) e⟩
 |xd fs=>obtain⟨mA,⟨j,es,ep,e,c⟩,r⟩:=x;exact⟨mA,⟨j,es,ep,k _ _ (.inl rfl) e,c⟩,r⟩
 |rng lo hi=>obtain⟨t,u,v,e⟩:=x;exact⟨t,u,v,k _ _ (.inl rfl) e⟩
 |frz g u ih=>obtain⟨e,q⟩:=x;exact⟨k _ _ (.inl rfl) e,ih q⟩
 |tbl ps=>
  have e:h.get? a=some {cls:=.none,data:=.fields ps}:=x;show h'.get? a=some {cls:=.none,data:=.fields ps};exact k a _ (.inl rfl) e
 |met f y=>
  have e:h.get? a=some (PySem.W.methodObj (.ref f) (.ref y)):=x;show h'.get? a=some (PySem.W.methodObj (.ref f) (.ref y));exact k a _ (.inl rfl) e
 |ext φ=>obtain⟨p,⟨o,e⟩,st⟩:=x;exact⟨st _ _ p fun o q=>k _ _ (.inl rfl) q,⟨o,k _ _ (.inl rfl) e⟩,st⟩
theorem jC.lt(x:jC P w H h)(e:H a=some o):a<h.objs.size:=(x a o e).lt
theorem jC.fresh(x:jC P w H h)(e:h.objs.size<=a):H a=none:=by
 cases q:H a with
 |none=>rfl
 |some u=>exact absurd (nL1 (x.lt q) e) (az _)
theorem jC.kept(x:jC P w H h)(k:∀b u,h.get? b=some u->h'.get? b=some u):jC P w H h':=fun a o e=>
 (x a o e).stay (fun b u _ q=>k b u q) (fun _ q=>q) fun _ _ q=>q
theorem jC.laid(x:jC P w H h)(k:∀b u,h.get? b=some u->h'.get? b=some u)(hp:h.objs.size<=a)(new:ew P w (upd H a o) h' a o):jC P w (upd H a o) h':=fun b u e=>by
 have d:=x.fresh hp;by_cases f:b=a
 ·subst f;rw[d2]at e;cases e;exact new
 ·rw[dR f]at e;exact(x b u e).stay (fun c v _ q=>k c v q) (fun c q=>by rw[dR (ei q d)];exact q) fun c xs q=>by rw[dR (ei q d)];exact q
end
noncomputable def Rd(H:Hp)(a:dy)(u:HO):Prop:=H a=some u \/ ∃o,H a=some (.frz o u)
theorem Rd.ok{P:dz}{w:dB}{H:Hp}{h:dH}{a:dy}{u:HO}(r:Rd H a u)(x:jC P w H h):ew P w H h a u:=by
 rcases r with r|⟨o,r⟩
 ·exact x a u r
 ·obtain⟨_,q⟩:=x a _ r;exact q
noncomputable def Mut:Option HO->Prop
 |some (.lst _)=>True
 |some (.dK _)=>True
 |some (.dT _)=>True
 |some (.set _ _)=>True
 |some (.ins _ _ _)=>True
 |some (.ext _)=>True
 |_=>False
section
variable{P:dz}{w:dB}{H:Hp}{h h':dH}{x e:dy}{o':HO}
theorem jC.write(ok:jC P w H h)(mu:Mut (H x))(he:e=x\/H e=some (.own x))(k:∀ b u,b≠e->h.get? b=some u->h'.get? b=some u)(i:∃ u,h'.get? e=some u)(new:ew P w (upd H x o') h' x o'):jC P w (upd H x o') h':=fun b u q=>by
 have d:∀c y,H c=some (.own y)->c≠x:=fun c y r z=>by subst z;rw[r]at mu;exact mu
 have f:∀c xs,H c=some (.tup xs)->c≠x:=fun c xs r z=>by subst z;rw[r]at mu;exact mu
 by_cases g:b=x
 ·subst g;rw[d2]at q;cases q;exact new
 ·rw[dR g]at q;by_cases a:b=e
  ·have j:H b=some (.own x):=by
    rcases he with z|z
    ·exact absurd (a.trans z) g
    ·rw[a];exact z
   rw[q]at j;cases j;obtain⟨v,l⟩:=i;exact⟨v,by rw[a];exact l⟩
  ·refine(ok b u q).stay (fun c v hc r=>k c v ?_ r) (fun c r=>by rw[dR (d c b r)];exact r) fun c xs r=>by rw[dR (f c xs r)];exact r
   rcases hc with rfl|hc
   ·exact a
   ·rintro rfl;rcases he with z|z
    ·exact d c b hc z
    ·rw[hc]at z;cases z;exact g rfl
end
structure Un (fs ex:List dy)(H H':Hp)(h h':dH):Prop where
 keep:∀b o,h.get? b=some o->H b=none->b∉fs->b∉ex->h'.get? b=some o
 slot:∀b o,h.get? b=some o->H b=none->b∈fs->b∉ex -> ∃sl,h'.get? b=some {o with slots:=sl}
 free:∀b o,h.get? b=some o->H b=none->b∉ex->H' b=none
 there:∀b o,h.get? b=some o->b∉ex -> ∃o',h'.get? b=some o'
 tups:∀b xs,H b=some (.tup xs)->H' b=some (.tup xs)
 frzs:∀b o u,H b=some (.frz o u)->H' b=some (.frz o u)
 tbls:∀b ps,H b=some (.tbl ps) -> ∃more,H' b=some (.tbl (ps++more))
section
variable{fs fs' ex ex':List dy}{H H1 H2:Hp}{h h1 h2 h':dH}{a x e:dy}{o:HO}
theorem Un.any(u:Un fs ex H H1 h h1){b:dy}{a:Obj}(q:h.get? b=some a)(n:H b=none)(hx:b∉ex):∃sl,h1.get? b=some {a with slots:=sl}:=by
 by_cases c:b∈fs
 ·exact u.slot b a q n c hx
 ·exact⟨a.slots,u.keep b a q n c hx⟩
theorem Un.kept(k:∀b u,h.get? b=some u->h'.get? b=some u):Un fs ex H H h h':=
 ⟨fun b a q _ _ _=>k b a q,fun b a q _ _ _=>⟨a.slots,k b a q⟩,fun _ _ _ n _=>n,fun b a q _=>⟨a,k b a q⟩,fun _ _ q=>q,fun _ _ _ q=>q,fun _ ps q=>⟨#[],by rw[q];simp⟩⟩
theorem Un.refl:Un fs ex H H h h:=Un.kept fun _ _ q=>q
theorem Un.laid(k:∀b u,h.get? b=some u->h'.get? b=some u)(hp:h.objs.size<=a)(hn:H a=none):Un fs ex H (upd H a o) h h' where
 keep:=fun b u q _ _ _=>k b u q
 slot:=fun b u q _ _ _=>⟨u.slots,k b u q⟩
 free:=fun b u q n _=>by rw[dR (nN1 (nL1 (hL1 q) hp))];exact n
 there:=fun b u q _=>⟨u,k b u q⟩
 tups:=fun b xs q=>by rw[dR (ei q hn)];exact q
 frzs:=fun b u xs q=>by rw[dR (ei q hn)];exact q
 tbls:=fun b ps q=>⟨#[],by rw[dR (ei q hn),q];simp⟩
theorem Un.write(mu:Mut (H x))(he:e=x\/H e=some (.own x))(k:∀b u,b≠e->h.get? b=some u->h'.get? b=some u)(c:∃u,h'.get? e=some u):Un fs ex H (upd H x o) h h':=by
 have g:∀b,H b=none->b≠x:=fun b n z=>by subst z;rw[n]at mu;exact mu
 have f:∀b,H b=none->b≠e:=fun b n z=>by
  subst z;rcases he with r|r
  ·exact g b n r
  ·rw[n]at r;cases r
 have d:∀b u,H b=some u -> ¬ Mut (some u)->b≠x:=fun b u q nm z=>by subst z;rw[q]at mu;exact nm mu
 refine⟨fun b u q n _ _=>k b u (f b n) q,fun b u q n _ _=>⟨u.slots,k b u (f b n) q⟩,fun b u q n _=>by rw[dR (g b n)];exact n,fun b u q _=>?_,
  fun b xs q=>by rw[dR (d b _ q fun z=>z)];exact q,fun b u xs q=>by rw[dR (d b _ q fun z=>z)];exact q,fun b ps q=>⟨#[],by rw[dR (d b _ q fun z=>z),q];simp⟩⟩
 by_cases a:b=e
 ·subst a;exact c
 ·exact⟨u,k b u a q⟩
end
noncomputable def trk(h:dH)(H:Hp):List dy:=(List.range h.objs.size).filter fun a=>(H a).isSome
noncomputable def pY(h:dH)(H:Hp):dH:=PySem.W.hideAll h (trk h H)
theorem wO(h:dH)(H:Hp):(pY h H).objs.size=h.objs.size:=PySem.W.hideAll_size _ _
theorem zt{h:dH}{H:Hp}{b:dy}{o:Obj}(e:h.get? b=some o)(n:H b=none):(pY h H).get? b=some o:=
 PySem.W.hideAll_get _ e fun a=>by
  have q:(H b).isSome=true:=(aA.mp a).2;rw[n]at q;simp at q
theorem Bb{h:dH}{H:Hp}{b:dy}{o:Obj}(e:(pY h H).get? b=some o):h.get? b=some o/\H b=none:=by
 have a:h.get? b=some o:=PySem.W.of_hideAll (trk h H) e;refine⟨a,?_⟩;cases q:H b with
 |none=>rfl
 |some x=>
  have c:b∈trk h H:=aA.mpr ⟨aB.mpr (hL1 a),by simp[q]⟩;have z:(pY h H).get? b=none:=PySem.W.hideAll_none (trk h H) c;rw[z]at e;cases e
noncomputable def Cr(g h:dH)(L:dy):List (dy×Obj):=(List.range h.objs.size).filterMap fun a=>if a=L\/(g.get? a).isSome=true then none else(h.get? a).map fun o=>(a,o)
noncomputable def rest(g h:dH)(L d:dy):List (dy×Obj):=(Cr g h L).filter fun p=>decide (p.1≠d)
end L2
namespace L2
open PySem PySem.Spec PyProof.Rows
structure Mod (K:Fg1)(mg:Str->Option dr)(base:dH):Prop where
 kin:K.In base
 glob:base.Ns dD mg
 blt:∃mb,base.Ns builtinsNs mb /\ ∀x:Str,x≠"__name__"->mb x=bootBuiltins x
 nolimit:base.NoLimit
structure Cx where
 prog:dz
 w:dB
 K:Fg1
 mg:Str->Option dr
 base:dH
 A:dA
 N:List Str
 s₀:dw
 H₀:Hp
 env:Env
 outer:List Env
 stack:List Env
 ex:List dy
 fn:Str->Bool
 calm:Bool
 pn:List (dy×Obj)
 xe:dr->dw->Prop
noncomputable def frs(l:List Env):List dy:=l.filterMap (·.frame)
abbrev Cx.fs(X:Cx):List dy:=frs X.outer
noncomputable def Vis(sc:dL)(x:Str):Prop:=sc.names.lookup x=some .local\/sc.names.lookup x=some .cell\/sc.names.lookup x=some .free
noncomputable def uo(sc:dL)(x:Str):Prop:=sc.names.lookup x=some .local\/sc.names.lookup x=some .cell
noncomputable def IV(env:Env)(h:dH)(m:Str->Option dr)(x:Str)(u:dr):Prop:=
 (env.kindOf x=some .local/\m x=some u)\/((env.kindOf x=some .cell\/env.kindOf x=some .free) /\ ∃c,env.cells.lookup x=some c/\h.IsCell c (some u))
structure Cx.Ok (X:Cx):Prop where
 mod:Mod X.K X.mg X.base
 kind:X.env.scope.kind = .function
 glob:X.env.globals=dD
 blt:X.env.builtins=builtinsNs
 above:X.s₀.heap.objs.size<=X.env.locals
 inj:∀x y c,X.env.cells.lookup x=some c->X.env.cells.lookup y=some c->x=y
 has:∀x,(X.env.kindOf x=some .cell\/X.env.kindOf x=some .free) -> ∃c,X.env.cells.lookup x=some c
 cab:∀x c,X.fn x=true->X.env.cells.lookup x=some c->X.s₀.heap.objs.size<=c
 hd:X.calm=true->X.A.handled=none
 frames:X.A.frames=some X.stack
 stk:X.stack=X.outer\/(X.stack=X.env::X.outer/\X.env.frame=some X.env.locals)
 exf:∀b∈X.ex,b≠X.env.locals /\ ∀x c,X.env.cells.lookup x=some c->c≠b
 bs:∀b o,X.base.get? b=some o->X.s₀.heap.get? b=some o/\X.H₀ b=none
 bsz:X.base.objs.size<=X.s₀.heap.objs.size
 noex:∀b o,X.base.get? b=some o->b∉X.ex
 exfs:∀b∈X.ex,b∉X.fs
 funs:X.s₀.heap.FunFrames X.base X.outer
 frf:∀b∈X.fs,X.H₀ b=none
structure Inv (X:Cx)(pins:List (dy×Obj))(σ:List (Option V))(H:Hp)(s:dw):Prop where
 ok:X.Ok
 os:s.os=X.s₀.os
 bare:AllBare s.gens
 base:Un X.fs X.ex X.H₀ H X.s₀.heap s.heap
 loc:∃m,s.heap.Ns X.env.locals m /\ ∀(i:Nat) (x:Str) (v:V),X.N[i]?=some x->σ[i]?=some (some v)->Vis X.env.scope x -> ∃u,dX v u/\IV X.env s.heap m x u
 cell:∀x c,X.env.cells.lookup x=some c -> ∃v,s.heap.IsCell c v
 free:H X.env.locals=none
 freeC:∀x c,X.env.cells.lookup x=some c->H c=none
 pin:∀p∈X.pn++pins,s.heap.get? p.1=some p.2/\H p.1=none/\p.1≠X.env.locals/\p.1∉X.fs /\ ∀v,p.2.data ≠ .cell v
 hok:jC X.prog X.w H s.heap
 len:σ.length=X.N.length
section
variable{X:Cx}{pins:List (dy×Obj)}{σ:List (Option V)}{H H':Hp}{s:dw}{h':dH}
theorem Cx.Ok.nofr(ok:X.Ok){b:dy}{o:Obj}(e:X.base.get? b=some o):b∉X.fs:=fun a=>by
 have:=(ok.funs.mem a).1;rw[e]at this;cases this
theorem Inv.bs(I:Inv X pins σ H s):∀b o,X.base.get? b=some o->s.heap.get? b=some o/\H b=none:=fun b o e=>
 ⟨I.base.keep b o (I.ok.bs b o e).1 (I.ok.bs b o e).2 (I.ok.nofr e) (I.ok.noex b o e),I.base.free b o (I.ok.bs b o e).1 (I.ok.bs b o e).2 (I.ok.noex b o e)⟩
theorem Inv.bk(I:Inv X pins σ H s):∀b o,X.base.get? b=some o->s.heap.get? b=some o:=fun b o e=>(I.bs b o e).1
theorem Inv.mod(I:Inv X pins σ H s):Mod X.K X.mg X.base:=I.ok.mod
theorem Inv.kIn(I:Inv X pins σ H s):X.K.In s.heap:=I.ok.mod.kin.keeps I.bk
theorem Inv.lt(I:Inv X pins σ H s):X.env.locals<s.heap.objs.size:=let ⟨_,hn,_⟩:=I.loc;hn.lt
theorem Inv.sz(I:Inv X pins σ H s):X.s₀.heap.objs.size<=s.heap.objs.size:=aC I.ok.above (aD I.lt)
theorem Inv.nofs(I:Inv X pins σ H s){a:dy}(h:s.heap.objs.size<=a):a∉X.fs:=fun c=>by
 obtain⟨_,o,b,_⟩:=I.ok.funs.mem c;exact absurd (nL1 (hL1 b) (aC I.sz h)) (az _)
theorem Inv.cne(I:Inv X pins σ H s):∀x c,X.env.cells.lookup x=some c->c≠X.env.locals:=fun x c e z=>by
 obtain⟨v,o,d,f⟩:=I.cell x c e;obtain⟨m,⟨o',es,ep,b,a,_⟩,_⟩:=I.loc;rw[z,b]at d;cases d;rw[a]at f;cases f
theorem Inv.funs(I:Inv X pins σ H s):s.heap.FunFrames X.base X.outer:=by
 have all:∀(l:List Env),(∀b∈frs l,b∈X.fs)->X.s₀.heap.FunFrames X.base l->s.heap.FunFrames X.base l:=by
  intro l
  induction l with
  |nil=>intro _ _;trivial
  |cons k r ih=>
   intro f i;obtain⟨n,⟨L,o,c,j,m,h⟩,g⟩:=i;have d:L∈X.fs:=f L (by unfold frs;rw[aE,c];exact mS1);obtain⟨sl,e⟩:=I.base.slot L o m (I.ok.frf L d) d fun z=>I.ok.exfs L z d;exact⟨n,⟨L,_,c,j,e,h⟩,ih (fun b a=>f b (by unfold frs;rw[aE,c];exact mC1 _ a)) g⟩
 exact all X.outer (fun _ a=>a) I.ok.funs
theorem Inv.stack(I:Inv X pins σ H s):s.heap.FunFrames X.base X.stack:=by
 rcases I.ok.stk with e|⟨e,b⟩
 ·rw[e];exact I.funs
 ·rw[e];obtain⟨m,a,_⟩:=I.loc;refine .cons (by rw[I.ok.kind];decide) b a ?_ I.funs;exact Heap.get?_none_of_le (aC I.ok.bsz I.ok.above)
theorem Inv.stkSub(I:Inv X pins σ H s):∀b∈frs X.stack,b∈X.env.locals::X.fs:=fun b a=>by
 rcases I.ok.stk with e|⟨e,c⟩
 ·rw[e]at a;exact mC1 _ a
 ·rw[e]at a;unfold frs at a;rw[aE,c]at a;exact a
theorem Inv.stkFree(I:Inv X pins σ H s):∀b∈frs X.stack,H b=none:=fun b a=>by
 rcases aF.mp (I.stkSub b a)with e|a
 ·rw[e];exact I.free
 ·obtain⟨_,o,c,_⟩:=I.ok.funs.mem a;exact I.base.free b o c (I.ok.frf b a) fun z=>I.ok.exfs b z a
theorem Inv.step{g':Array GenState}{t':Nat}{d':Drawn}{ch:List dy}(I:Inv X pins σ H s)(h:∀b∈ch,(b∈X.ex\/X.s₀.heap.objs.size<=b)/\b≠X.env.locals/\(∀x c,X.env.cells.lookup x=some c->c≠b) /\ ∀p∈X.pn++pins,p.1≠b)(keep:∀b o,b≠X.env.locals->b∉X.fs->b∉ch->s.heap.get? b=some o->H b=none->h'.get? b=some o)(slot:∀b o,b≠X.env.locals->b∈X.fs->b∉ch->s.heap.get? b=some o->H b=none -> ∃sl,h'.get? b=some {o with slots:=sl})(f:∀b o,b∉ch->s.heap.get? b=some o->H b=none->H' b=none)(A:∀b o,b∉ch->s.heap.get? b=some o -> ∃o',h'.get? b=some o')(F:∀b xs,H b=some (.tup xs)->H' b=some (.tup xs))(E:∀b o u,H b=some (.frz o u)->H' b=some (.frz o u))(D:∀b ps,H b=some (.tbl ps) -> ∃more,H' b=some (.tbl (ps++more)))(ns:∀m,s.heap.Ns X.env.locals m->h'.Ns X.env.locals m)(J:jC X.prog X.w H' h')(hg:AllBare g'):
  Inv X pins σ H' {s with heap:=h',gens:=g',drawn:=d',toks:=t'}:=by
 have C:∀b o,X.s₀.heap.get? b=some o->b≠X.env.locals:=fun b o e=>nN1 (nL1 (hL1 e) I.ok.above);have t:∀b o,X.s₀.heap.get? b=some o->b∉X.ex->b∉ch:=fun b o e a y=>by
  rcases(h b y).1 with z|z
  ·exact a z
  ·exact absurd (nL1 (hL1 e) z) (az _)
 have g:∀x c,X.env.cells.lookup x=some c -> ∀v,s.heap.IsCell c v->h'.IsCell c v:=fun x c e v ⟨o,B,K⟩=>by
  have j:c∉ch:=fun z=>(h c z).2.2.1 x c e rfl;by_cases hc:c∈X.fs
  ·obtain⟨sl,q⟩:=slot c o (I.cne x c e) hc j B (I.freeC x c e);exact⟨_,q,K⟩
  ·exact⟨o,keep c o (I.cne x c e) hc j B (I.freeC x c e),K⟩
 refine⟨I.ok,I.os,hg,⟨fun b o e n y a=>?_,fun b o e n y a=>?_,fun b o e n a=>?_,fun b o e a=>?_,fun b xs e=>F b xs (I.base.tups b xs e),fun b o xs e=>E b o xs (I.base.frzs b o xs e),fun b ps e=>?_⟩,?_,fun x c e=>?_,?_,fun x c e=>?_,fun p N=>?_,J,I.len⟩
 ·exact keep b o (C b o e) y (t b o e a) (I.base.keep b o e n y a) (I.base.free b o e n a)
 ·obtain⟨sl,w⟩:=I.base.slot b o e n y a;obtain⟨L,G⟩:=slot b _ (C b o e) y (t b o e a) w (I.base.free b o e n a);exact⟨L,G⟩
 ·obtain⟨o',w⟩:=I.base.there b o e a;exact f b o' (t b o e a) w (I.base.free b o e n a)
 ·obtain⟨o',w⟩:=I.base.there b o e a;exact A b o' (t b o e a) w
 ·obtain⟨m1,w⟩:=I.base.tbls b ps e;obtain⟨m2,G⟩:=D b _ w;exact⟨m1++m2,by rw[G,Array.append_assoc]⟩
 ·obtain⟨m,Q,P⟩:=I.loc;refine⟨m,ns m Q,fun i x v w G O=>?_⟩;obtain⟨u,r,l⟩:=P i x v w G O;refine⟨u,r,?_⟩;rcases l with l|⟨k,c,e,z⟩
  ·exact .inl l
  ·exact .inr ⟨k,c,e,g x c e _ z⟩
 ·obtain⟨v,z⟩:=I.cell x c e;exact⟨v,g x c e v z⟩
 ·obtain⟨m,⟨o,_,_,B,_⟩,_⟩:=I.loc;exact f _ o (fun z=>(h _ z).2.1 rfl) B I.free
 ·obtain⟨v,o,B,K⟩:=I.cell x c e;exact f c o (fun z=>(h c z).2.2.1 x c e rfl) B (I.freeC x c e)
 ·obtain⟨e,n,ne,M,d⟩:=I.pin p N;have j:p.1∉ch:=fun z=>(h p.1 z).2.2.2 p N rfl;exact⟨keep p.1 p.2 ne M j e n,f p.1 p.2 j e n,ne,M,d⟩
theorem Inv.un{t':Nat}(I:Inv X pins σ H s)(u:Un X.fs [] H H' s.heap h')(f:jC X.prog X.w H' h'):Inv X pins σ H' {s with heap:=h',toks:=t'}:=by
 obtain⟨m,⟨o,es,ep,h,r⟩,_⟩:=id I.loc;obtain⟨sl,i⟩:=u.any h I.free (by simp);exact I.step (g':=s.gens) (d':=s.drawn) (ch:=[]) (fun _ z=>nomatch z) (fun b o _ c _ e n=>u.keep b o e n c (by simp)) (fun b o _ c _ e n=>u.slot b o e n c (by simp)) (fun b o _ e n=>u.free b o e n (by simp)) (fun b o _ e=>u.there b o e (by simp)) u.tups u.frzs u.tbls (fun l k=>by
  obtain⟨o',g,d,a,j⟩:=k;rw[h]at a;cases a;exact⟨_,g,d,i,j⟩) f I.bare
theorem Inv.call{g':Array GenState}{t':Nat}{d':Drawn}{ch:List dy}(I:Inv X pins σ H s)(u:Un (frs X.stack) ch H H' s.heap h')(h:jC X.prog X.w H' h')(hg:AllBare g')(d:∀b∈ch,(b∈X.ex\/X.s₀.heap.objs.size<=b)/\b≠X.env.locals/\(∀x c,X.env.cells.lookup x=some c->c≠b) /\ ∀p∈X.pn++pins,p.1≠b):
  Inv X pins σ H' {s with heap:=h',gens:=g',drawn:=d',toks:=t'}:=by
 obtain⟨m,⟨o,es,ep,j,r⟩,_⟩:=id I.loc;obtain⟨sl,g⟩:=u.any j I.free fun z=>(d _ z).2.1 rfl;exact I.step (ch:=ch) d (fun b o g k hc e n=>u.keep b o e n (fun z=>(aF.mp (I.stkSub b z)).elim g k) hc) (fun b o _ _ hc e n=>u.any e n hc) (fun b o hc e n=>u.free b o e n hc) (fun b o hc e=>u.there b o e hc) u.tups u.frzs u.tbls (fun t q=>by
  obtain⟨o',i,f,a,l⟩:=q;rw[j]at a;cases a;exact⟨_,i,f,g,l⟩) h hg
theorem Inv.turned{t':Nat}{it:dy}(I:Inv X pins σ H s)(k:∀ b o,b≠it->s.heap.get? b=some o->h'.get? b=some o)(hn:H it=none)(d:it≠X.env.locals)(h1:it∈X.ex\/X.s₀.heap.objs.size<=it)(h2:∀x c,X.env.cells.lookup x=some c->c≠it)(g:∀p∈X.pn++pins,p.1≠it):Inv X pins σ H {s with heap:=h',toks:=t'}:=by
 have a:∀b u,H b=some u->b≠it:=fun b u e z=>by rw[z,hn]at e;cases e
 refine I.step (g':=s.gens) (d':=s.drawn) (ch:=[it]) (fun b f=>?_) (fun b o _ _ hc e _=>k b o (fun z=>hc (by simp[z])) e) (fun b o _ _ hc e _=>⟨o.slots,k b o (fun z=>hc (by simp[z])) e⟩) (fun _ _ _ _ n=>n)
  (fun b o hc e=>⟨o,k b o (fun z=>hc (by simp[z])) e⟩) (fun _ _ e=>e) (fun _ _ _ e=>e) (fun b ps e=>⟨#[],by rw[e];simp⟩) (fun m i=>?_) (fun b u e=>?_) I.bare
 ·have e:b=it:=by simpa using f
  subst e;exact⟨h1,d,h2,g⟩
 ·obtain⟨o,es,ep,h,r⟩:=i;exact⟨o,es,ep,k _ o (Ne.symm d) h,r⟩
 ·refine(I.hok b u e).stay (fun c v hc q=>k c v ?_ q) (fun _ q=>q) fun _ _ q=>q;rcases hc with z|z
  ·rw[z];exact a b u e
  ·exact a c _ z
theorem Inv.tok(I:Inv X pins σ H s)(t:Nat):Inv X pins σ H {s with toks:=t}:=I.un (h':=s.heap) (t':=t) Un.refl I.hok
theorem Inv.kept{t':Nat}(I:Inv X pins σ H s)(k:∀b u,s.heap.get? b=some u->h'.get? b=some u):Inv X pins σ H {s with heap:=h',toks:=t'}:=I.un (Un.kept k) (I.hok.kept k)
theorem Inv.laid{a:dy}{o:HO}{t':Nat}(I:Inv X pins σ H s)(k:∀ b u,s.heap.get? b=some u->h'.get? b=some u)(hp:s.heap.objs.size<=a)(new:ew X.prog X.w (upd H a o) h' a o):
  Inv X pins σ (upd H a o) {s with heap:=h',toks:=t'}:=I.un (Un.laid k hp (I.hok.fresh hp)) (I.hok.laid k hp new)
theorem Inv.write{x e:dy}{o:HO}{t':Nat}(I:Inv X pins σ H s)(mu:Mut (H x))(he:e=x\/H e=some (.own x))(k:∀ b u,b≠e->s.heap.get? b=some u->h'.get? b=some u)(a:∃ u,h'.get? e=some u)(new:ew X.prog X.w (upd H x o) h' x o):Inv X pins σ (upd H x o) {s with heap:=h',toks:=t'}:=I.un (Un.write mu he k a) (I.hok.write mu he k a new)
theorem Inv.pins_of{a:List (dy×Obj)}(I:Inv X pins σ H s)(h:∀p∈a,s.heap.get? p.1=some p.2/\H p.1=none/\p.1≠X.env.locals/\p.1∉X.fs /\ ∀v,p.2.data ≠ .cell v):Inv X a σ H s:=
 ⟨I.ok,I.os,I.bare,I.base,I.loc,I.cell,I.free,I.freeC,fun p b=>(aG.mp b).elim (fun z=>I.pin p (aH _ z)) (h p),I.hok,I.len⟩
theorem rA{N:List Str}(hN:N.Nodup){i j:Nat}{x:Str}(a:N[i]?=some x)(b:N[j]?=some x):i=j:=by
 obtain⟨h1,c⟩:=gE1.mp a;obtain⟨h2,d⟩:=gE1.mp b;exact(List.getElem_inj hN).mp (c.trans d.symm)
theorem wc{M:Model}{A:dA}{E:dr->dw->Prop}{i:Nat}{x:Str}{v:V}{u:dr}{Q:Unit->dw->Prop}(I:Inv X pins σ H s)(hN:X.N.Nodup)(hi:X.N[i]? = some x)(hx:uo X.env.scope x)(r:dX v u)(h:∀s',Inv X pins (σ.set i (some v)) H s'->(∃a,Heap.SameBut a s.heap s'.heap/\(a=X.env.locals\/X.env.cells.lookup x=some a))->Q () s')(hf:X.fn x=true\/X.env.scope.names.lookup x=some .local:=by first|exact .inl rfl|exact .inr rfl|assumption):dG M A (storeName X.env x u) Q E s:=by
 obtain⟨m,Z,hl⟩:=id I.loc;have J:(X.env.scope.kind == .class||(X.env.scope.kind == .module&&X.env.locals != X.env.globals))=false:=by rw[I.ok.kind];rfl
 have w:i<σ.length:=by rw[I.len];exact(gE1.mp hi).1
 have cne:=I.cne;have tracked:∀{a:dy} {h':dH},(∃o,s.heap.get? a=some o/\H a=none)->Heap.SameBut a s.heap h'->jC X.prog X.w H h':=fun{a h'} ha f b ob e=>by
  obtain⟨_,_,l⟩:=ha;refine(I.hok b ob e).stay (fun c P hc q=>(f.2 c ?_).trans q) (fun _ q=>q) fun _ _ q=>q;rintro rfl;rcases hc with rfl|hc
  ·rw[l]at e;cases e
  ·rw[l]at hc;cases hc
 rcases hx with B|B
 ·refine wpAny_storeName_local B Z (fun h' R f=>?_) J;obtain⟨oL,_,_,S,_⟩:=id Z;refine h _ ⟨I.ok,I.os,I.bare,⟨fun b o e n C hx=>?_,fun b o e n C hx=>?_,I.base.free,fun b o e hx=>?_,I.base.tups,I.base.frzs,I.base.tbls⟩,⟨_,R,fun j y Y g t W=>?_⟩,fun y c e=>?_,I.free,I.freeC,fun p hp=>?_,tracked ⟨oL,S,I.free⟩ f,by simpa using I.len⟩ ⟨_,f,.inl rfl⟩
  ·exact(f.2 b (nN1 (nL1 (hL1 e) I.ok.above))).trans (I.base.keep b o e n C hx)
  ·obtain⟨sl,g⟩:=I.base.slot b o e n C hx;exact⟨sl,(f.2 b (nN1 (nL1 (hL1 e) I.ok.above))).trans g⟩
  ·obtain⟨o',g⟩:=I.base.there b o e hx;exact⟨o',(f.2 b (nN1 (nL1 (hL1 e) I.ok.above))).trans g⟩
  ·by_cases F:j=i
   ·subst F;rw[hi]at g;cases g;rw[aI w]at t;cases t;exact⟨u,r,.inl ⟨B,by simp⟩⟩
   ·rw[gS1 (Ne.symm F)]at t;obtain⟨T,r',q⟩:=hl j y Y g t W;refine⟨T,r',?_⟩;rcases q with⟨k,e⟩|⟨k,c,e,z⟩
    ·refine .inl ⟨k,?_⟩;have:y≠x:=fun e=>F (rA hN g (e ▸ hi));simp[this,e]
    ·exact .inr ⟨k,c,e,z.sameBut f (cne y c e)⟩
  ·obtain⟨P,z⟩:=I.cell y c e;exact⟨P,z.sameBut f (cne y c e)⟩
  ·obtain⟨e,n,ne,U,d⟩:=I.pin p hp;exact⟨(f.2 p.1 ne).trans e,n,ne,U,d⟩
 ·have D:X.fn x=true:=by
   rcases hf with z|z
   ·exact z
   ·rw[z]at B;cases B
  obtain⟨c,hc⟩:=I.ok.has x (.inl B);obtain⟨P,z⟩:=I.cell x c hc;refine wpAny_storeName_cell I.ok.kind B hc z (fun h' K f=>?_);obtain⟨oc,L,N⟩:=id z;refine h {s with heap:=h'} ⟨I.ok,I.os,I.bare,⟨fun b o e n C hx=>?_,fun b o e n C hx=>?_,I.base.free,fun b o e hx=>?_,I.base.tups,I.base.frzs,I.base.tbls⟩,⟨m,Z.sameBut f (Ne.symm (cne x c hc)),fun j y Y g t W=>?_⟩,fun y O e=>?_,I.free,I.freeC,fun p hp=>?_,tracked ⟨oc,L,I.freeC x c hc⟩ f,by simpa using I.len⟩ ⟨c,f,.inr hc⟩
  ·exact(f.2 b (nN1 (nL1 (hL1 e) (I.ok.cab x c D hc)))).trans (I.base.keep b o e n C hx)
  ·obtain⟨sl,g⟩:=I.base.slot b o e n C hx;exact⟨sl,(f.2 b (nN1 (nL1 (hL1 e) (I.ok.cab x c D hc)))).trans g⟩
  ·obtain⟨o',g⟩:=I.base.there b o e hx;exact⟨o',(f.2 b (nN1 (nL1 (hL1 e) (I.ok.cab x c D hc)))).trans g⟩
  ·by_cases F:j=i
   ·subst F;rw[hi]at g;cases g;rw[aI w]at t;cases t;exact⟨u,r,.inr ⟨.inl B,c,hc,K⟩⟩
   ·rw[gS1 (Ne.symm F)]at t;obtain⟨T,r',q⟩:=hl j y Y g t W;refine⟨T,r',?_⟩;rcases q with q|⟨k,O,e,z'⟩
    ·exact .inl q
    ·refine .inr ⟨k,O,e,z'.sameBut f ?_⟩;rintro rfl;exact F (rA hN g (I.ok.inj _ _ _ e hc ▸ hi))
  ·by_cases G:O=c
   ·subst G;exact⟨_,K⟩
   ·obtain⟨w2,z2⟩:=I.cell y O e;exact⟨w2,z2.sameBut f G⟩
  ·obtain⟨e,n,ne,U,d⟩:=I.pin p hp;refine⟨(f.2 p.1 ?_).trans e,n,ne,U,d⟩;intro q;rw[q,L]at e;have q':oc=p.2:=Option.some.inj e;exact d P (by rw[<- q'];exact N)
theorem iH{M:Model}{A:dA}{E:dr->dw->Prop}{i:Nat}{x:Str}{v:V}{u:dr}{Q:Unit->dw->Prop}(I:Inv X pins σ H s)(hN:X.N.Nodup)(hi:X.N[i]? = some x)(hx:uo X.env.scope x)(r:dX v u)(h:∀s',Inv X pins (σ.set i (some v)) H s'->Q () s')(hf:X.fn x=true\/X.env.scope.names.lookup x=some .local:=by first|exact .inl rfl|exact .inr rfl|assumption):dG M A (storeName X.env x u) Q E s:=
 wc I hN hi hx r (fun s' a _=>h s' a) hf
theorem Inv.call'{s':dw}{ch:List dy}(I:Inv X pins σ H s)(ho:s'.os=s.os)(u:Un (frs X.stack) ch H H' s.heap s'.heap)(a:jC X.prog X.w H' s'.heap)(hg:AllBare s'.gens)(d:∀b∈ch,(b∈X.ex\/X.s₀.heap.objs.size<=b)/\b≠X.env.locals/\(∀x c,X.env.cells.lookup x=some c->c≠b) /\ ∀p∈X.pn++pins,p.1≠b):Inv X pins σ H' s':=by
 obtain⟨h',g,f,h,o'⟩:=s';have e:o'=s.os:=ho;subst e;exact I.call (g':=g) (t':=h) (d':=f) u a hg d
end
abbrev XK:=dr->Option dy->Hp->Prop
abbrev St:=List (Option V)
abbrev VK:=V->Hp->Prop
abbrev TE:=St->Hp->VK->Prop
abbrev TT:=St->Hp->(Bool->Hp->Prop)->Prop
abbrev TA:=St->Hp->(List V->Hp->Prop)->Prop
structure i7 where
 nx:St->Hp->Prop
 rt:VK
 bk:St->Hp->Prop:=fun _ _=>False
 ct:St->Hp->Prop:=fun _ _=>False
abbrev TS:=i7->St->Hp->Prop
noncomputable def EP(X:Cx)(pins:List (dy×Obj))(σ:St)(Q:VK)(u:dr)(s':dw):Prop:=∃v H',Inv X pins σ H' s'/\dX v u/\Q v H'
noncomputable def TP(X:Cx)(pins:List (dy×Obj))(σ:St)(Q:Bool->Hp->Prop)(b:Bool)(s':dw):Prop:=∃H',Inv X pins σ H' s'/\Q b H'
noncomputable def AP(X:Cx)(pins:List (dy×Obj))(σ:St)(Q:List V->Hp->Prop)(us:List dr)(s':dw):Prop:=∃vs H',Inv X pins σ H' s'/\ea vs us/\Q vs H'
noncomputable def SP(X:Cx)(pins:List (dy×Obj))(D:i7)(f:Flow)(s':dw):Prop:=
 match f with
 | .next=>∃ σ' H',Inv X pins σ' H' s'/\D.nx σ' H'
 | .brk=>∃ σ' H',Inv X pins σ' H' s'/\D.bk σ' H'
 | .cont=>∃ σ' H',Inv X pins σ' H' s'/\D.ct σ' H'
 | .ret u=>∃v σ' H',Inv X pins σ' H' s'/\dX v u/\D.rt v H'
noncomputable def PE(X:Cx)(e:Expr)(t:TE):Prop:=
 ∀(pins:List (dy×Obj)) (s:dw) (σ:St) (H:Hp) (Q:VK),Inv X pins σ H s->t σ H Q->dG (model X.prog X.w) X.A (eval e X.env) (EP X pins σ Q) X.xe s
noncomputable def PT(X:Cx)(e:Expr)(t:TT):Prop:=
 ∀(pins:List (dy×Obj)) (s:dw) (σ:St) (H:Hp) (Q:Bool->Hp->Prop),Inv X pins σ H s->t σ H Q->dG (model X.prog X.w) X.A (isTrue e X.env (eval e X.env)) (TP X pins σ Q) X.xe s
noncomputable def PW(X:Cx)(e:Expr)(t:TT):Prop:=
 ∀(whole:Sem dr) (pins:List (dy×Obj)) (s:dw) (σ:St) (H:Hp) (Q:Bool->Hp->Prop),Inv X pins σ H s->t σ H Q->dG (model X.prog X.w) X.A (isTrue e X.env whole) (TP X pins σ Q) X.xe s
theorem PW.pt{X:Cx}{e:Expr}{t:TT}(h:PW X e t):PT X e t:=h _
noncomputable def PA(X:Cx)(es:List Expr)(t:TA):Prop:=
 ∀(pos:Pos) (pins:List (dy×Obj)) (s:dw) (σ:St) (H:Hp) (Q:List V->Hp->Prop),Inv X pins σ H s->t σ H Q->dG (model X.prog X.w) X.A (spliced (backTo pos (dE es X.env))) (AP X pins σ Q) X.xe s
noncomputable def PS(X:Cx)(st:dJ)(t:TS):Prop:=
 ∀(pins:List (dy×Obj)) (s:dw) (σ:St) (H:Hp) (D:i7),Inv X pins σ H s->t D σ H->dG (model X.prog X.w) X.A (exec st X.env) (SP X pins D) X.xe s
noncomputable def sO(X:Cx)(st:List dJ)(t:TS):Prop:=
 ∀(pins:List (dy×Obj)) (s:dw) (σ:St) (H:Hp) (D:i7),Inv X pins σ H s->t D σ H->dG (model X.prog X.w) X.A (execs st X.env) (SP X pins D) X.xe s
theorem e6{α:Type}{t:Sem α}{Q b:α->dw->Prop}{M:Model}{A:dA}{E:dr->dw->Prop}{s:dw}(h:dG M A t Q E s)(c:∀a s,Q a s->b a s):dG M A t b E s:=wpAny_mono h c fun _ _ x=>x
end L2
namespace L2
open PySem PySem.Spec PyProof.Rows
section
variable{X:Cx}
theorem Kf{a b:Expr}{ta tb:TE}(ha:PE X a ta)(hb:PE X b tb){pins:List (dy×Obj)}{s:dw}{σ:St}{H:Hp}{R:V->V->Hp->Prop}(I:Inv X pins σ H s)(h:ta σ H fun x H1=>tb σ H1 fun y H2=>R x y H2){α:Type}{Q:α->dw->Prop}{f:dr->dr->Sem α}(hf:∀v u e x y H2,Inv X pins σ H2 e->dX x v->dX y u->R x y H2->dG (model X.prog X.w) X.A (f v u) Q X.xe e):
  dG (model X.prog X.w) X.A (eval a X.env) (fun v d=>dG (model X.prog X.w) X.A (eval b X.env) (fun u c=>dG (model X.prog X.w) X.A (f v u) Q X.xe c) X.xe d) X.xe s:=by
 refine e6 (ha pins s σ H _ I h) fun v m ⟨x,H1,j,l,k⟩=>?_;refine e6 (hb pins m σ H1 _ j k) fun u e ⟨y,H2,g,r2,i⟩=>?_;exact hf v u e x y H2 g l r2 i
noncomputable def FL(i:Nat):TE:=fun σ H Q=>∃v,σ[i]?=some (some v)/\Q v H
noncomputable def tC(v:V):TE:=fun _ H Q=>Q v H
theorem yB {i:Nat}{x:Str}{pos:Pos}(hN:X.N[i]?=some x)(hv:Vis X.env.scope x)(hd:(x == ("__debug__":Str))=false:=by decide)(hcd:(x == ("__classdict__":Str))=false:=by decide):PE X (.Name x pos) (FL i):=by
 intro pins s σ H Q I h;obtain⟨v,e,h⟩:=h;obtain⟨m,g,f⟩:=I.loc;obtain⟨u,r,l⟩:=f i x v hN e hv;have b:EP X pins σ Q u s:=⟨v,H,I,r,h⟩;rcases l with⟨d,j⟩|⟨d,c,hc,a⟩
 ·exact wpAny_Name (wpAny_loadName_local I.ok.kind d g j b) hd
 ·rcases d with d|d
  ·exact wpAny_Name (wpAny_loadName_cell I.ok.kind d hc a b) hd
  ·exact wpAny_Name (wpAny_loadName_free I.ok.kind d hc a b hcd) hd
theorem DY{i j pos}:PE X (.Constant (.int i) j pos) (tC (.int i)):=fun _ _ _ H _ I h=>wpAny_Constant_int ⟨.int i,H,I.tok _,⟨_,rfl⟩,h⟩
theorem Gh{b j pos}:PE X (.Constant (.bool b) j pos) (tC (.bl b)):=fun _ _ _ H _ I h=>Constant_bool ⟨.bl b,H,I,rfl,h⟩
theorem DW{j pos}:PE X (.Constant .none j pos) (tC .non):=fun _ _ _ H _ I h=>Constant_none ⟨.non,H,I,rfl,h⟩
theorem DV{x j pos}:PE X (.Constant (.str x) j pos) (tC (.str x)):=fun _ _ _ H _ I h=>Calls.Constant_str ⟨.str x,H,I.tok _,⟨_,rfl⟩,h⟩
noncomputable def Gl(X:Cx)(x:Str):Prop:=X.env.kindOf x=some .globalImplicit
theorem vh {E:dr->dw->Prop}{pins:List (dy×Obj)}{s:dw}{σ:St}{H:Hp}{x:Str}{u:dr}{pos:Pos}{Q:dr->dw->Prop}(I:Inv X pins σ H s)(hg:Gl X x)(hm:X.mg x=some u)(h:Q u s)
  (hd:(x == ("__debug__":Str))=false:=by decide):dG (model X.prog X.w) X.A (eval (.Name x pos) X.env) Q E s:=
 Calls.Name_function_global I.ok.kind hg (Calls.loadGlobal_global (by rw[I.ok.glob];exact I.mod.glob.keeps I.bk) hm h) hd
theorem iQ {E:dr->dw->Prop}{pins:List (dy×Obj)}{s:dw}{σ:St}{H:Hp}{x:Str}{u:dr}{pos:Pos}{Q:dr->dw->Prop}(I:Inv X pins σ H s)(hg:Gl X x)(hm:X.mg x=none)(hv:bootBuiltins x=some u)(h:Q u s)
  (hn:x≠"__name__":=by decide) (hd:(x == ("__debug__":Str))=false:=by decide):dG (model X.prog X.w) X.A (eval (.Name x pos) X.env) Q E s:=by
 obtain⟨a,h1,h2⟩:=I.mod.blt;exact Calls.Name_function_global I.ok.kind hg (Calls.loadGlobal_builtin (by rw[I.ok.glob];exact I.mod.glob.keeps I.bk) hm (by rw[I.ok.blt];exact h1.keeps I.bk) ((h2 x hn).trans hv) h) hd
theorem A2 {x:Str}{v:V}{u:dr}{pos:Pos}(hg:Gl X x)(hm:X.mg x=some u)(r:dX v u)(hd:(x == ("__debug__":Str))=false:=by decide):PE X (.Name x pos) (tC v):=
 fun _ _ _ H _ I h=>vh I hg hm ⟨v,H,I,r,h⟩ hd
theorem A6 {x:Str}{v:V}{u:dr}{pos:Pos}(hg:Gl X x)(hm:X.mg x=none)(hv:bootBuiltins x=some u)(r:dX v u)(hn:x≠"__name__":=by decide)(hd:(x == ("__debug__":Str))=false:=by decide):PE X (.Name x pos) (tC v):=
 fun _ _ _ H _ I h=>iQ I hg hm hv ⟨v,H,I,r,h⟩ hn hd
variable{a b:Expr}{ta tb:TE}{pos:Pos}
noncomputable def tB(t:TE):TT:=fun σ H Q=>t σ H fun x H1=>∃c,x = .bl c/\Q c H1
variable{tA tB':TT}{rest:List Expr}
noncomputable def Ib(t u:TT):TT:=fun σ H Q=>t σ H fun c H1=>if c=true then u σ H1 Q else Q false H1
noncomputable def Jw(t u:TT):TT:=fun σ H Q=>t σ H fun c H1=>if c=true then Q true H1 else u σ H1 Q
noncomputable def HV(t:TT):TT:=fun σ H Q=>t σ H fun c H1=>Q (!c) H1
theorem AM(ha:PT X a tA):PW X (.BoolOp .And [a] pos) tA:=by
 intro d pins s σ H Q I h;refine isTrue_and (e6 (ha pins s σ H Q I h) fun c b e=>?_);cases c with
 |true=>exact isTrue_and_nil e
 |false=>exact e
theorem DD(ha:PT X a tA):PW X (.BoolOp .Or [a] pos) tA:=by
 intro d pins s σ H Q I h;refine isTrue_or (e6 (ha pins s σ H Q I h) fun c b e=>?_);cases c with
 |false=>exact isTrue_or_nil e
 |true=>exact e
theorem DE(ha:PT X a tA)(hb:PW X (.BoolOp .And (b::rest) pos) tB'):PW X (.BoolOp .And (a::b::rest) pos) (Ib tA tB'):=by
 intro g pins s σ H Q I h;refine isTrue_and (e6 (ha pins s σ H _ I h) fun c f ⟨H1,d,e⟩=>?_);cases c with
 |true=>exact hb g pins f σ H1 Q d e
 |false=>exact⟨H1,d,e⟩
theorem Ga(ha:PT X a tA)(hb:PW X (.BoolOp .Or (b::rest) pos) tB'):PW X (.BoolOp .Or (a::b::rest) pos) (Jw tA tB'):=by
 intro g pins s σ H Q I h;refine isTrue_or (e6 (ha pins s σ H _ I h) fun c f ⟨H1,d,e⟩=>?_);cases c with
 |true=>exact⟨H1,d,e⟩
 |false=>exact hb g pins f σ H1 Q d e
theorem DG(ha:PT X a tA):PT X (.UnaryOp .Not a pos) (HV tA):=by
 intro pins s σ H Q I h;exact isTrue_not (ha pins s σ H (fun c H1=>Q (!c) H1) I h)
noncomputable def Jy(t:TT)(ta tb:TE):TE:=fun σ H Q=>t σ H fun c H1=>if c=true then ta σ H1 Q else tb σ H1 Q
theorem yD{c:Expr}(hc:PT X c tA)(ha:PE X a ta)(hb:PE X b tb):PE X (.IfExp c a b pos) (Jy tA ta tb):=by
 intro pins s σ H Q I h;refine wpAny_IfExp (e6 (hc pins s σ H _ I h) fun d g ⟨H1,e,f⟩=>?_);cases d with
 |true=>exact ha pins g σ H1 Q e f
 |false=>exact hb pins g σ H1 Q e f
end
end L2
namespace L2
open PySem PySem.Spec PyProof.Rows
noncomputable def lJ(K:Fg1)(H:Hp)(a:dy)(xs:List V):Prop:=
 Rd H a (.lst xs) \/
  ∃(o:Obj) (its:Array dr) (n:Nat),K.lookup a=some o/\o.cls = .type "list"/\o.dict=none/\o.data = .seq its n/\its.size<=dF/\ea xs its.toList
noncomputable def jA(K:Fg1)(H:Hp)(a:dy)(xs:List V):Prop:=
 Rd H a (.tup xs) \/
  ∃(o:Obj) (its:Array dr) (n:Nat),K.lookup a=some o/\o.cls = .type "tuple"/\o.data = .seq its n/\its.size<=dF/\ea xs its.toList
noncomputable def IP:dr->Option V
 | .none=>some .non
 | .bool b=>some (.bl b)
 | .int i _=>some (.int i)
 | .str x _=>some (.str x)
 | .bytes b _=>some (.byt b)
 | .float b _=>some (.flt b)
 | .ref a=>some (.ref a)
 | .type n=>some (.ty n)
 |_=>none
theorem dX.abs{x:V}{u:dr}(r:dX x u):IP u=some x:=by
 cases x with
 |non=>cases r;rfl
 |bl _=>cases r;rfl
 |int _=>obtain⟨t,rfl⟩:=r;rfl
 |str _=>obtain⟨t,rfl⟩:=r;rfl
 |byt _=>obtain⟨t,rfl⟩:=r;rfl
 |flt _=>obtain⟨t,rfl⟩:=r;rfl
 |ref _=>cases r;rfl
 |ty _=>cases r;rfl
theorem dX.inj{x y:V}{u:dr}(r:dX x u)(q:dX y u):x=y:=Option.some.inj (r.abs.symm.trans q.abs)
theorem ea.inj:∀{xs ys:List V} {a:List dr},ea xs a->ea ys a->xs=ys:=by
 intro xs ys a h g
 induction h generalizing ys with
 |nil=>cases g;rfl
 |cons r t ih=>cases g with
  |cons c b=>rw[r.inj c,ih b]
section
variable{X:Cx}{pins:List (dy×Obj)}{σ:St}{H:Hp}{s:dw}{a:dy}{xs ys:List V}
theorem lJ.of{K:Fg1}(h:H a=some (.lst xs)):lJ K H a xs:=.inl (.inl h)
theorem jA.of{K:Fg1}(h:H a=some (.tup xs)):jA K H a xs:=.inl (.inl h)
theorem Inv.list(I:Inv X pins σ H s)(h:lJ X.K H a xs):∃b:List dr,ea xs b/\PlainL s.heap a b.toArray/\xs.length<=dF:=by
 rcases h with h|⟨o,b,n,f,hc,d,c,g,r⟩
 ·obtain⟨z,b,n,r,e⟩:=h.ok I.hok;exact⟨b,r,⟨_,n,e,rfl,rfl,rfl⟩,z⟩
 ·refine⟨b.toList,r,⟨o,n,I.kIn a o f,hc,d,by simpa using c⟩,?_⟩;have e:=r.length;simp only[aJ]at e;lia
theorem Inv.tuple(I:Inv X pins σ H s)(h:jA X.K H a xs):∃b:List dr,ea xs b/\IsTup s.heap a b.toArray/\xs.length<=dF:=by
 rcases h with h|⟨o,b,n,d,hc,c,f,r⟩
 ·obtain⟨z,b,r,p⟩:=h.ok I.hok;exact⟨b,r,p,z⟩
 ·refine⟨b.toList,r,⟨o,I.kIn a o d,hc,n,by simpa using c⟩,?_⟩;have e:=r.length;simp only[aJ]at e;lia
theorem Inv.list_inj(I:Inv X pins σ H s)(h:lJ X.K H a xs)(h':lJ X.K H a ys):xs=ys:=by
 obtain⟨b,r,⟨o,n,e,_,_,d⟩,_⟩:=I.list h;obtain⟨its',i,⟨o',j,f,_,_,c⟩,_⟩:=I.list h';rw[e]at f;cases f;rw[d]at c;injection c with g _;have:b=its':=by simpa using congrArg Array.toList g
 subst this;exact r.inj i
theorem Inv.tuple_inj(I:Inv X pins σ H s)(h:jA X.K H a xs)(h':jA X.K H a ys):xs=ys:=by
 obtain⟨b,r,⟨o,e,_,n,d⟩,_⟩:=I.tuple h;obtain⟨its',i,⟨o',f,_,j,c⟩,_⟩:=I.tuple h';rw[e]at f;cases f;rw[d]at c;injection c with g _;have:b=its':=by simpa using congrArg Array.toList g
 subst this;exact r.inj i
end
abbrev Cx.wish(X:Cx)(E:dr->dw->Prop):Cx:={X with xe:=E}
abbrev Cx.nox(X:Cx):Cx:=X.wish fun _ _=>False
theorem Cx.Ok.wish{X:Cx}(ok:X.Ok)(E:dr->dw->Prop):(X.wish E).Ok:=
 ⟨ok.mod,ok.kind,ok.glob,ok.blt,ok.above,ok.inj,ok.has,ok.cab,ok.hd,ok.frames,ok.stk,ok.exf,ok.bs,ok.bsz,ok.noex,ok.exfs,ok.funs,ok.frf⟩
theorem Cx.Ok.unwish{X:Cx}{E:dr->dw->Prop}(ok:(X.wish E).Ok):X.Ok:=
 ⟨ok.mod,ok.kind,ok.glob,ok.blt,ok.above,ok.inj,ok.has,ok.cab,ok.hd,ok.frames,ok.stk,ok.exf,ok.bs,ok.bsz,ok.noex,ok.exfs,ok.funs,ok.frf⟩
section
variable{X:Cx}{pins:List (dy×Obj)}{σ:St}{H:Hp}{s:dw}{E:dr->dw->Prop}
theorem Inv.wish(I:Inv X pins σ H s)(E:dr->dw->Prop):Inv (X.wish E) pins σ H s:=⟨I.ok.wish E,I.os,I.bare,I.base,I.loc,I.cell,I.free,I.freeC,I.pin,I.hok,I.len⟩
theorem Inv.unwish(I:Inv (X.wish E) pins σ H s):Inv X pins σ H s:=⟨I.ok.unwish,I.os,I.bare,I.base,I.loc,I.cell,I.free,I.freeC,I.pin,I.hok,I.len⟩
theorem SP.unwish{D:i7}{f:Flow}{s':dw}(h:SP (X.wish E) pins D f s'):SP X pins D f s':=by
 cases f with
 |next=>obtain⟨a,H',I,q⟩:=h;exact⟨a,H',I.unwish,q⟩
 |brk=>obtain⟨a,H',I,q⟩:=h;exact⟨a,H',I.unwish,q⟩
 |cont=>obtain⟨a,H',I,q⟩:=h;exact⟨a,H',I.unwish,q⟩
 |ret u=>obtain⟨v,a,H',I,r,q⟩:=h;exact⟨v,a,H',I.unwish,r,q⟩
theorem sO.nox{st:List dJ}{t:TS}(h:sO X.nox st t):sO X st t:=fun pins s σ H D I a=>
 wpAny_mono (h pins s σ H D (I.wish _) a) (fun _ _ q=>q.unwish) fun _ _ z=>False.elim z
end
section
variable{X:Cx}{st:dJ}{rest:List dJ}{t u:TS}{e:Expr}{te:TE}{pos:Pos}
noncomputable def FU:TS:=fun D σ H=>D.nx σ H
noncomputable def HR(t u:TS):TS:=fun D σ H=>t {D with nx:=u D} σ H
theorem AR:sO X [] FU:=fun _ _ σ H _ I h=>wpAny_execs_nil ⟨σ,H,I,h⟩
theorem yp(h1:PS X st t)(h2:sO X rest u):sO X (st::rest) (HR t u):=by
 intro pins s σ H D I h;refine wpAny_execs_cons (e6 (h1 pins s σ H {D with nx:=u D} I h) fun f c q=>?_);cases f with
 |next=>
  obtain⟨a,H',b,q⟩:=q;exact h2 pins c a H' D b q
 |ret v=>exact q
 |brk=>exact q
 |cont=>exact q
theorem AQ(h1:PS X st t):sO X [st] t:=by
 intro pins s σ H D I h;refine wpAny_execs_cons (e6 (h1 pins s σ H D I h) fun f a q=>?_);cases f with
 |next=>exact wpAny_execs_nil q
 |ret v=>exact q
 |brk=>exact q
 |cont=>exact q
theorem Inv.quiet{pins:List (dy×Obj)}{σ:St}{H:Hp}{s:dw}(I:Inv X pins σ H s):interactive X.env=false:=by simp[interactive,I.ok.kind]
noncomputable def FY(te:TE):TS:=fun D σ H=>te σ H fun _ H1=>D.nx σ H1
theorem AS(he:PE X e te)(hs:swapsWith e none pos.line X.env=pure false:=by rfl):PS X (.Expr e pos) (FY te):=by
 intro pins s σ H D I h;exact wpAny_Expr_any (e6 (he pins s σ H _ I h) fun v d ⟨x,H1,a,c,b⟩=>⟨σ,H1,a,b⟩) I.quiet hs
noncomputable def HS(te:TE):TS:=fun D σ H=>te σ H D.rt
theorem DJ(he:PE X e te):PS X (.Return (some e) pos) (HS te):=by
 intro pins s σ H D I h;exact wpAny_Return_some (e6 (he pins s σ H _ I h) fun v d ⟨x,H1,a,c,b⟩=>⟨x,σ,H1,a,c,b⟩)
noncomputable def H7(c:TT)(t u:TS):TS:=fun D σ H=>c σ H fun b H1=>if b=true then t D σ H1 else u D σ H1
theorem Gb{c:Expr}{a b:List dJ}{tc:TT}(hc:PT X c tc)(ha:sO X a t)(hb:sO X b u):PS X (.If c a b pos) (H7 tc t u):=by
 intro pins s σ H D I h;refine wpAny_If (e6 (hc pins s σ H _ I h) fun d g ⟨H1,e,f⟩=>?_);cases d with
 |true=>exact ha pins g σ H1 D e f
 |false=>exact hb pins g σ H1 D e f
end
abbrev TG:=V->St->Hp->(St->Hp->Prop)->Prop
abbrev CY:=List V->St->Hp->(St->Hp->Prop)->Prop
noncomputable def PG(X:Cx)(target:Expr)(t:TG):Prop:=
 ∀(pins:List (dy×Obj)) (s:dw) (σ:St) (H:Hp) (v:V) (u:dr) (Q:St->Hp->Prop),Inv X pins σ H s->dX v u->t v σ H Q ->
  dG (model X.prog X.w) X.A (assign target X.env u) (fun _ s'=>∃ σ' H',Inv X pins σ' H' s'/\Q σ' H') X.xe s
noncomputable def Fp(X:Cx)(ts:List Expr)(t:CY):Prop:=
 ∀(pins:List (dy×Obj)) (s:dw) (σ:St) (H:Hp) (vs:List V) (us:List dr) (Q:St->Hp->Prop),Inv X pins σ H s->ea vs us->t vs σ H Q ->
  dG (model X.prog X.w) X.A (assignInOrder ((assignEach ts X.env).map (·.2)) us) (fun _ s'=>∃ σ' H',Inv X pins σ' H' s'/\Q σ' H') X.xe s
abbrev Fn:=V->V->V->Hp->(Hp->Prop)->Prop
noncomputable def um(X:Cx)(t:Fn):Prop:=
 ∀(pins:List (dy×Obj)) (s:dw) (σ:St) (H:Hp) (o i v:V) (ov iv u:dr) (Q:Hp->Prop),Inv X pins σ H s->dX o ov->dX i iv->dX v u->t o i v H Q ->
  dG (model X.prog X.w) X.A (setItem ov iv u) (fun _ s'=>∃H',Inv X pins σ H' s'/\Q H') X.xe s
abbrev IT:=V->V->Hp->VK->Prop
noncomputable def HM(X:Cx)(op:Operator)(t:IT):Prop:=
 ∀(pins:List (dy×Obj)) (s:dw) (σ:St) (H:Hp) (x y:V) (v u:dr) (Q:VK),Inv X pins σ H s->dX x v->dX y u->t x y H Q ->
  dG (model X.prog X.w) X.A (inplaceOp op v u) (EP X pins σ Q) X.xe s
section
variable{X:Cx}{pos:Pos}
noncomputable def vx(i:Nat):TG:=fun v σ H Q=>Q (σ.set i (some v)) H
theorem uS{i:Nat}{x:Str}(hN:X.N.Nodup)(hi:X.N[i]?=some x)(hx:uo X.env.scope x)(hf:X.fn x=true\/X.env.scope.names.lookup x=some .local:=by first|exact .inl rfl|exact .inr rfl|assumption):PG X (.Name x pos) (vx i):=by
 intro pins s σ H v u Q I r h;exact wpAny_assign_Name (iH I hN hi hx r (fun s' a=>⟨_,H,a,h⟩) hf)
noncomputable def IE:CY:=fun vs σ H Q=>vs=[]/\Q σ H
noncomputable def GT(t:TG)(u:CY):CY:=fun vs σ H Q=>∃v r,vs=v::r/\t v σ H fun σ' H'=>u r σ' H' Q
theorem A1:Fp X [] IE:=by
 intro pins s σ H vs a Q I r h;obtain⟨e,h⟩:=h;subst e;cases r;exact assignInOrder_nil ⟨σ,H,I,h⟩
theorem yA{e:Expr}{es:List Expr}{t:TG}{u:CY}(h1:PG X e t)(h2:Fp X es u)(hs:(assignEach (e::es) X.env).map (·.2)=assign e X.env::(assignEach es X.env).map (·.2):=by rfl):Fp X (e::es) (GT t u):=by
 intro pins s σ H vs i Q I r h;obtain⟨v,j,f,h⟩:=h;subst f;cases r with
 |cons r c=>
  rw[hs];refine assignInOrder_cons (e6 (h1 pins s σ H _ _ _ I r h) fun _ g ⟨a,H1,b,d⟩=>?_);exact h2 pins g a H1 _ _ Q b c d
noncomputable def gTup(K:Fg1)(n:Nat)(t:CY):TG:=fun v σ H Q=>∃a xs,v = .ref a/\jA K H a xs/\xs.length=n/\t xs σ H Q
theorem DS{es:List Expr}{k:Nat}{t:CY}{n:Nat}(hc:X.calm=true)(h:Fp X es t)(hn:(assignEach es X.env).length=n:=by rfl)(hst:(assignEach es X.env).findIdx? (·.1)=none:=by rfl):PG X (.Tuple es k pos) (gTup X.K n t):=by
 intro pins s σ H v u Q I r c;obtain⟨a,xs,m,i,l,c⟩:=c;subst m;cases r;obtain⟨j,d,g,q⟩:=I.tuple i;refine assign_Tuple_tuple (I.ok.hd hc) g (by simp[hn,<- l,d.length]) hst fun h' p=>?_;have f:Inv X pins σ H {s with heap:=h'}:=I.kept (t':=s.toks) fun b o e=>p b o (nN1 (hL1 e)) e;exact h pins _ σ H xs _ Q f (by simpa using d) c
noncomputable def gSub(to ti:TE)(t:Fn):TG:=fun v σ H Q=>to σ H fun o H1=>ti σ H1 fun i H2=>t o i v H2 fun H3=>Q σ H3
theorem DT{o i:Expr}{to ti:TE}{t:Fn}(ho:PE X o to)(hi:PE X i ti)(hs:um X t)(ha:∀v,assign (.Subscript o i pos) X.env v=(do
   let a<-holding [v] (eval o X.env)
   let b<-holding [v,a] (eval i X.env)
   standAt pos
   holding [v,a,b] (setItem a b v)
   release [v,a,b] []):=by intro _;rfl):PG X (.Subscript o i pos) (gSub to ti t):=by
 intro pins s σ H v u Q I r h;rw[ha];refine wB1 (wpAny_holding (e6 (ho pins s σ H _ I h) fun a m ⟨x,H1,e,k,j⟩=>?_));refine wB1 (wpAny_holding (e6 (hi pins m σ H1 _ e j) fun b l ⟨y,H2,c,r2,d⟩=>?_));refine wB1 (wpAny_standAt (wB1 (wpAny_holding (e6 (hs pins l σ H2 x y v a b u _ c k r2 r d) fun _ p ⟨g,n,f⟩=>?_))));exact wpAny_release ⟨σ,g,n,f⟩
noncomputable def xW(te:TE)(g:TG):TS:=fun D σ H=>te σ H fun x H1=>g x σ H1 D.nx
theorem DN{tg e:Expr}{te:TE}{g:TG}(he:PE X e te)(hg:PG X tg g)(hs:swapsWithSole [tg] e pos.line X.env=pure false:=by rfl)(hw:swappedStores [tg] e X.env=pure none:=by rfl)(h1:(assignEach [tg] X.env).map (·.2)=[assign tg X.env]:=by rfl):PS X (.Assign [tg] e pos) (xW te g):=by
 intro pins s σ H D I h;refine wpAny_Assign_stores (e6 (he pins s σ H _ I h) fun v d ⟨x,H1,a,c,b⟩=>?_) hs hw;rw[h1];exact e6 (hg pins d σ H1 x v _ a c b) fun _ f q=>q
theorem DI{i:Nat}{x:Str}{e:Expr}{te:TE}{pos':Pos}(hN:X.N.Nodup)(hi:X.N[i]? = some x)(hx:uo X.env.scope x)(he:PE X e te)(hs:swapsWith e (some (.Name x pos')) pos.line X.env=pure false:=by rfl)(hf:X.fn x=true\/X.env.scope.names.lookup x=some .local:=by first | exact .inl rfl | exact .inr rfl | assumption):
  PS X (.Assign [.Name x pos'] e pos) (xW te (vx i)):=by
 intro pins s σ H D I h;refine wpAny_Assign_Name (e6 (he pins s σ H _ I h) fun v g ⟨y,H1,b,d,c⟩=>?_) hs;exact iH b hN hi hx d (fun f a=>⟨_,H1,a,c⟩) hf
noncomputable def HU(i j:Nat)(ta:TA):TS:=fun D σ H=>ta σ H fun vs H1=>∃v w,vs=[v,w]/\D.nx ((σ.set i (some v)).set j (some w)) H1
theorem DK{i j:Nat}{x y:Str}{a b:Expr}{ta:TA}{k m pt:Pos}{kt k2 pt2}(hc:X.calm=true)(hN:X.N.Nodup)(hi:X.N[i]? = some x)(J:X.N[j]? = some y)(g:i≠j)(hx:X.env.scope.names.lookup x=some .local)(hy:X.env.scope.names.lookup y=some .local)(ha:PA X [a,b] ta)(hw:swappedStores [.Tuple [.Name x k,.Name y m] kt pt] (.Tuple [a,b] k2 pt2) X.env=pure (some [x,y]))(hs:swapsWithSole [.Tuple [.Name x k,.Name y m] kt pt] (.Tuple [a,b] k2 pt2) pos.line X.env=pure false:=by rfl):
  PS X (.Assign [.Tuple [.Name x k,.Name y m] kt pt] (.Tuple [a,b] k2 pt2) pos) (HU i j ta):=by
 intro pins s σ H D I h;rw[exec_Assign_arm];refine wB1 (wpAny_standAt ?_);rw[hs];refine wB1 (wP1 ?_);rw[if_neg (by decide)];refine wB1 (Tuple_ (e6 (ha _ pins s σ H _ I h) fun z d ⟨vs,H1,C,K,n⟩=>?_));obtain⟨v,w,A,n⟩:=n;subst A;obtain⟨c,u2,rfl,t,l⟩:∃c u2,z=[c,u2]/\dX v c/\dX w u2:=by
  cases K with
  |cons p q=>
   cases q with
   |cons E B=>
    cases B;exact⟨_,_,rfl,p,E⟩
 refine wO1 ?_ (by show 2<=dF;decide);have u:Inv X pins σ H1 {d with heap:=d.heap.push {cls:=.type "tuple",data:=.seq [c,u2].toArray}}:=C.kept (t':=d.toks) fun b o e=>hP1 _ e;rw[hw];refine wB1 (wP1 ?_);show dG (model X.prog X.w) X.A (do rule "assign.swapped-stores";let items<-unpackItems (.ref d.heap.objs.size) 2 none;assignInOrder [fun v=>bindName X.env y v,fun v=>bindName X.env x v] items.reverse;pure Flow.next) _ _ _;refine wB1 (wpAny_rule (wB1 (unpackItems_tuple (items:= #[c,u2]) (I.ok.hd hc) (IsTup.new d.heap _) fun h' f=>?_)));have G:=u.kept (h':=h') (t':=d.toks) fun b o e=>f b o (nN1 (hL1 e)) e;show dG _ _ (assignInOrder [fun v=>bindName X.env y v,fun v=>bindName X.env x v] [u2,c] >>= fun _=>pure Flow.next) _ _ _;refine wB1 (assignInOrder_cons (wpAny_bindName (iH G hN J (.inl hy) l (fun M F=>?_) (.inr hy))));refine assignInOrder_cons (wpAny_bindName (iH F hN hi (.inl hx) t (fun L r=>assignInOrder_nil (wP1 ?_)) (.inr hx)));rw[List.set_comm _ _ (Ne.symm g)]at r;exact⟨_,H1,r,n⟩
noncomputable def Ia(i:Nat)(te:TE)(ti:IT):TS:=fun D σ H=>∃x,σ[i]?=some (some x)/\te σ H fun y H1=>ti x y H1 fun z H2=>D.nx (σ.set i (some z)) H2
theorem DM{i:Nat}{x:Str}{e:Expr}{te:TE}{op:Operator}{ti:IT}{pos':Pos}(hN:X.N.Nodup)(hi:X.N[i]? = some x)(hx:uo X.env.scope x)(he:PE X e te)(ho:HM X op ti)(hf:X.fn x=true\/X.env.scope.names.lookup x=some .local:=by first | exact .inl rfl | exact .inr rfl | assumption):
  PS X (.AugAssign (.Name x pos') op e pos) (Ia i te ti):=by
 intro pins s σ H D I h;obtain⟨v,q,h⟩:=h;obtain⟨m,C,A⟩:=I.loc;have g:Vis X.env.scope x:=by rcases hx with k|k;exact .inl k;exact .inr (.inl k)
 obtain⟨u,r,l⟩:=A i x v hi q g;refine wpAny_AugAssign_Name ?_;have j:dG (model X.prog X.w) X.A (eval e X.env) (fun w f=>dG (model X.prog X.w) X.A (inplaceOp op u w) (fun r d=>dG (model X.prog X.w) X.A (storeName X.env x r) (fun _=>SP X pins D .next) X.xe d) X.xe f) X.xe s:=by
  refine e6 (he pins s σ H _ I h) fun w G ⟨y,H1,t,F,E⟩=>?_;refine e6 (ho pins G σ H1 v y u w _ t r F E) fun z L ⟨K,H2,p,r2,n⟩=>?_;exact iH p hN hi hx r2 (fun J B=>⟨_,H2,B,n⟩) hf
 rcases l with⟨a,o⟩|⟨a,c,hc,b⟩
 ·exact wpAny_loadName_local I.ok.kind a C o j
 ·rcases a with a|a
  ·exact wpAny_loadName_cell I.ok.kind a hc b j
  ·rcases hx with k|k
   ·have:X.env.scope.names.lookup x=some .free:=a;rw[k]at this;cases this
   ·have:X.env.scope.names.lookup x=some .free:=a;rw[k]at this;cases this
noncomputable def xU(c:TT)(tb:TS):TS:=fun D σ H=>∃W:Nat->St->Hp->Prop,(∃m,W m σ H) /\ ∀m σ H,W m σ H ->
 c σ H fun b H1=>if b=true then∃N:St->Hp->Prop,(∀ σ' H',N σ' H' -> ∃m',m'<m/\W m' σ' H')/\tb {D with nx:=N,ct:=N,bk:=D.nx} σ H1 else D.nx σ H1
theorem yq{c:Expr}{e:List dJ}{tc:TT}{tb:TS}(hp:PassesOwn (model X.prog X.w) X.A X.env X.xe)(hc:PT X c tc)(hb:sO X e tb):PS X (.While c e [] pos) (xU tc tb):=by
 intro pins s σ H D I h;obtain⟨W,⟨z,w⟩,i⟩:=h;refine wpAny_While (codeAny_whileLoop (fun n s'=>∃j H',Inv X pins j H' s'/\W n j H') ?_ z ⟨σ,H,I,w⟩);rintro n B ⟨d,H1,x,A⟩;refine wpAny_passesOwn hp (e6 (hc pins B d H1 _ x (i n d H1 A)) fun b y ⟨H2,u,k⟩=>?_);cases b with
 |true=>
  obtain⟨N,t,k⟩:=k;rw[if_pos rfl];refine wpAny_passesOwn hp (e6 (hb pins y d H2 _ u k) fun f C l=>?_);cases f with
  |next=>
   obtain⟨a,g,q,p⟩:=l;obtain⟨r,m,o⟩:=t a g p;exact⟨r,m,a,g,q,o⟩
  |cont=>
   obtain⟨a,g,q,p⟩:=l;obtain⟨r,m,o⟩:=t a g p;exact⟨r,m,a,g,q,o⟩
  |brk=>exact l
  |ret v=>exact l
 |false=>
  rw[if_neg aK];exact wpAny_execs_nil ⟨d,H2,u,k⟩
end
structure It where
 go:Nat->Hp->Prop
 yld:Nat->Hp->V->Hp->Prop
 stop:Nat->Hp->Prop
noncomputable def jl(X:Cx)(pins:List (dy×Obj))(H:Hp)(b:dy):Prop:=
 H b=none/\b≠X.env.locals/\b∉X.fs/\(b∈X.ex\/X.s₀.heap.objs.size<=b)/\(∀x c,X.env.cells.lookup x=some c->c≠b) /\ ∀p∈X.pn++pins,p.1≠b
theorem Inv.fpOk{X:Cx}{pins:List (dy×Obj)}{σ:St}{H H':Hp}{s:dw}{b:dy}(I:Inv X pins σ H s)(hb:s.heap.objs.size<=b)(hn:H' b=none):jl X pins H' b:=by
 refine⟨hn,nG1 (nL1 I.lt hb),I.nofs hb,.inr (aC I.sz hb),fun x c e z=>?_,fun p a z=>?_⟩
 ·obtain⟨v,q⟩:=I.cell x c e;exact absurd (nL1 q.lt (by rw[z];exact hb)) (az _)
 ·exact absurd (nL1 (hL1 (I.pin p a).1) (by rw[z];exact hb)) (az _)
structure sI (P:dz)(w:dB)(K:Fg1)(tg:Expr)(J:It)(fp:List dy)(it:dy)(tn:Nat->dH->Prop):Prop where
 mem:it∈fp
 obj:∀i h,tn i h -> ∀b∈fp,∃o,h.get? b=some o /\ ∀v,o.data ≠ .cell v
 keep:∀i h h',tn i h->(∀b∈fp,∀o,h.get? b=some o->h'.get? b=some o)->tn i h'
 item:∀(X:Cx),X.prog=P->X.w=w->X.K=K->X.calm=true -> ∀(i:Nat) (pins:List (dy×Obj)) (s:dw) (σ:St) (H:Hp) (E:dr->dw->Prop),Inv X pins σ H s->(∀b∈fp,jl X pins H b)->tn i s.heap->J.go i H ->
  dG (model P w) X.A (pyNext (.ref it)) (fun r s1=>∃u,r=some u /\
   dG (model P w) X.A (letOwnedTupleGo tg (.ref it) u) (fun _ s2=>∃x H',Inv X pins σ H' s2/\dX x u/\J.yld i H x H'/\tn (i+1) s2.heap /\ ∀b∈fp,H' b=none) E s1) E s
 done:∀(X:Cx),X.prog=P->X.w=w->X.K=K->X.calm=true -> ∀(i:Nat) (pins:List (dy×Obj)) (s:dw) (σ:St) (H:Hp) (E:dr->dw->Prop),Inv X pins σ H s->(∀b∈fp,jl X pins H b)->tn i s.heap->J.stop i H ->
  dG (model P w) X.A (pyNext (.ref it)) (fun r s1=>r=none/\Inv X pins σ H s1) E s
 self:∀(A:dA) (i:Nat) (s:dw) (Q:dr->dw->Prop) (E:dr->dw->Prop),tn i s.heap->Q (.ref it) s->dG (model P w) A (pyIter (.ref it)) Q E s
abbrev TI:=St->Hp->(It->Hp->Prop)->Prop
noncomputable def Jn(X:Cx)(pins:List (dy×Obj))(σ:St)(tg:Expr)(R:It->Hp->Prop)(itv:dr)(s2:dw):Prop:=
 ∃(it:dy) (fp:List dy) (tn:Nat->dH->Prop) (J:It) (H':Hp),itv = .ref it/\Inv X pins σ H' s2/\sI X.prog X.w X.K tg J fp it tn/\tn 0 s2.heap/\(∀b∈fp,jl X pins H' b)/\R J H'
noncomputable def PI(X:Cx)(tg iter:Expr)(wi:TI):Prop:=
 ∀(pins:List (dy×Obj)) (s:dw) (σ:St) (H:Hp) (R:It->Hp->Prop),Inv X pins σ H s->wi σ H R ->
  dG (model X.prog X.w) X.A (eval iter X.env) (fun v s1=>dG (model X.prog X.w) X.A (pyIter v) (Jn X pins σ tg R) X.xe s1) X.xe s
theorem vv {M:Model}{A:dA}{E:dr->dw->Prop}{s:dw}{tg:Expr}{it:dy}{u:dr}{o:Obj}{n:String}{vs:Array dr}{Q:Unit->dw->Prop}(ho:s.heap.get? it=some o)(hc:o.cls = .type n)(hd:o.data = .fields vs)
   (hn:["enumerate","zip","dict_itemiterator","dict_reverseitemiterator","odict_iterator","itertools.zip_longest","itertools.pairwise"].contains n=false) (a:Q () s):dG M A (letOwnedTupleGo tg (.ref it) u) Q E s:=by
 unfold letOwnedTupleGo;cases tg <;> first
   |exact wP1 a
   | (cases u<;>first
       |exact wP1 a
       | (refine wB1 (wpAny_load ho ?_)
          rw[hc,hd];show dG M A (if(["enumerate","zip","dict_itemiterator","dict_reverseitemiterator","odict_iterator","itertools.zip_longest","itertools.pairwise"].contains n&&vs[0]? == some (rawInt _))=true then _ else _) Q E s;rw[if_neg (by intro h;rw[hn,Bool.false_and]at h;cases h)];exact wP1 a))
noncomputable def Jr(K:Fg1)(a:dy):It:=
 ⟨fun i H=>∃xs x,lJ K H a xs/\xs[i]?=some x,fun i H x H'=>H'=H /\ ∀xs,lJ K H a xs->xs[i]?=some x,fun i H=>∃xs,lJ K H a xs/\xs.length<=i⟩
noncomputable def Jq(K:Fg1)(a:dy):It:=
 ⟨fun i H=>∃xs x,jA K H a xs/\xs[i]?=some x,fun i H x H'=>H'=H /\ ∀xs,jA K H a xs->xs[i]?=some x,fun i H=>∃xs,jA K H a xs/\xs.length<=i⟩
noncomputable def Hs(lo:Int)(n:Nat):It:=⟨fun i _=>i<n,fun i H x H'=>H'=H/\x = .int (lo+i),fun i _=>n<=i⟩
theorem v9{P:dz}{w:dB}{K:Fg1}{tg:Expr}(a it:dy):sI P w K tg (Jr K a) [it] it (fun i h=>h.IsListIter it a i) where
 mem:=by simp
 obj:=fun i h st b f=>by
  have e:b=it:=by simpa using f
  subst e;obtain⟨o,e,c,d⟩:=st;exact⟨o,e,fun v z=>by rw[d]at z;cases z⟩
 keep:=fun i h h' st k=>st.at fun o e=>k it (by simp) o e
 item:=by
  intro X A l D hc i pins s σ H E I g st t;subst A l D;obtain⟨xs,x,j,q⟩:=t;obtain⟨B,m,p,G⟩:=I.list j;obtain⟨u,Q,L⟩:=m.get q;obtain⟨r,n,J,F,y,C⟩:=g it (by simp);refine wpAny_pyNext_list_item st p.isList (x:=u) (by simpa using Q) fun h' st' R=>?_;have N:Inv X pins σ H {s with heap:=h'}:=I.turned (t':=s.toks) (fun b o f e=>(R.2 b f).trans e) r n F y C;obtain⟨o,e,c,d⟩:=id st';exact⟨u,rfl,vv (s:={s with heap:=h'}) e c d (by decide) ⟨x,H,N,L,⟨rfl,fun ys O=>by rw[I.list_inj O j];exact q⟩,st',fun b f=>(g b f).1⟩⟩
 done:=by
  intro X A l D hc i pins s σ H E I g st t;subst A l D;obtain⟨xs,j,q⟩:=t;obtain⟨B,m,p,G⟩:=I.list j;obtain⟨r,n,J,F,y,C⟩:=g it (by simp);have S:=m.length;exact wpAny_pyNext_list_end (I.ok.hd hc) st p.isList (by simp;lia) fun h' M=>⟨rfl,I.turned (t':=s.toks) (fun b o f e=>M b o f e) r n F y C⟩
 self:=fun _ _ _ _ _ st h=>wpAny_pyIter_listiter st h
theorem s3{P:dz}{w:dB}{K:Fg1}{tg:Expr}(a it:dy):sI P w K tg (Jq K a) [it] it (fun i h=>h.IsTupleIter it a i) where
 mem:=by simp
 obj:=fun i h st b f=>by
  have e:b=it:=by simpa using f
  subst e;obtain⟨o,e,c,d⟩:=st;exact⟨o,e,fun v z=>by rw[d]at z;cases z⟩
 keep:=fun i h h' st k=>st.at fun o e=>k it (by simp) o e
 item:=by
  intro X B m D hc i pins s σ H E I j st y;subst B m D;obtain⟨xs,x,l,r⟩:=y;obtain⟨g,n,p,G⟩:=I.tuple l;obtain⟨u,Q,L⟩:=n.get r;obtain⟨t,q,J,F,A,C⟩:=j it (by simp);refine wpAny_pyNext_tuple_item st (show s.heap.IsTuple a g.toArray from p) (x:=u) (by simpa using Q) fun h' st' R=>?_;have N:Inv X pins σ H {s with heap:=h'}:=I.turned (t':=s.toks) (fun b o f e=>(R.2 b f).trans e) t q F A C;obtain⟨o,e,c,d⟩:=id st';exact⟨u,rfl,vv (s:={s with heap:=h'}) e c d (by decide) ⟨x,H,N,L,⟨rfl,fun ys O=>by rw[I.tuple_inj O l];exact r⟩,st',fun b f=>(j b f).1⟩⟩
 done:=by
  intro X B m D hc i pins s σ H E I j st y;subst B m D;obtain⟨xs,l,r⟩:=y;obtain⟨g,n,p,G⟩:=I.tuple l;obtain⟨t,q,J,F,A,C⟩:=j it (by simp);have S:=n.length;exact wpAny_pyNext_tuple_end (I.ok.hd hc) st (show s.heap.IsTuple a g.toArray from p) (by simp;lia) fun h' M=>⟨rfl,I.turned (t':=s.toks) (fun b o f e=>M b o f e) t q F A C⟩
 self:=fun _ _ _ _ _ st h=>wpAny_pyIter_tupleiter st h
theorem s9{P:dz}{w:dB}{K:Fg1}{tg:Expr}(it:dy)(lo:Int)(n:Nat):sI P w K tg (Hs lo n) [it] it (fun i h=>IsRangeIter h it (lo+(i:Nat)*1) ((n:Int)-(i:Nat)) 1) where
 mem:=by simp
 obj:=fun i h st b a=>by
  have e:b=it:=by simpa using a
  subst e;exact⟨_,st,fun v z=>by
   have u:Data.fields _=Data.cell v:=z;cases u⟩
 keep:=fun i h h' st k=>k it (by simp) _ st
 item:=by
  intro X g d j hc i pins s σ H E I c st l;subst g d j;obtain⟨q,p,y,r,m,f⟩:=c it (by simp);have W:=Walks.range (prog:=X.prog) (w:=X.w) (I.ok.hd hc) it lo 1 n;refine W.item i s _ _ l st fun v h' tk C st' B=>?_;obtain⟨t,rfl⟩:=C;have A:Inv X pins σ H {s with heap:=h',toks:=tk}:=I.turned (fun b o a e=>B b o (by simpa using a) e) q p r m f;refine⟨_,rfl,vv (s:={s with heap:=h',toks:=tk}) (n:="range_iterator") st' rfl rfl (by decide) ⟨.int (lo+i),H,A,⟨t,?_⟩,⟨rfl,rfl⟩,st',fun b a=>(c b a).1⟩⟩;rw[Int.mul_one]
 done:=by
  intro X g d j hc i pins s σ H E I c st l;subst g d j;obtain⟨q,p,y,r,m,f⟩:=c it (by simp);exact wpAny_pyNext_range_end (I.ok.hd hc) st (by have:n<=i:=l;lia) fun h' x=>⟨rfl,I.turned (t':=s.toks) (fun b o a e=>x b o a e) q p r m f⟩
 self:=fun _ _ _ _ _ st h=>wpAny_pyIter_rangeiter st h
end L2
namespace L2
open PySem PySem.Spec PyProof.Rows
section
variable{X:Cx}{tg:Expr}
noncomputable def GN(K:Fg1)(tl:TE):TI:=fun σ H R=>tl σ H fun x H1=>∃a,x = .ref a/\(∃xs,lJ K H1 a xs)/\R (Jr K a) H1
noncomputable def ID(K:Fg1)(tl:TE):TI:=fun σ H R=>tl σ H fun x H1=>∃a,x = .ref a/\(∃xs,jA K H1 a xs)/\R (Jq K a) H1
theorem AZ{l:Expr}{tl:TE}(j:PE X l tl):PI X tg l (GN X.K tl):=by
 intro pins s σ H R I h;refine e6 (j pins s σ H _ I h) fun v d ⟨x,H1,c,m,k⟩=>?_;obtain⟨a,e,⟨xs,g⟩,q⟩:=k;subst e;cases m;obtain⟨i,r,p,n⟩:=c.list g;refine wpAny_pyIter_list p.isList ?_;refine⟨d.heap.objs.size,[d.heap.objs.size],_,_,H1,rfl,c.kept (t':=d.toks) fun b o e=>hP1 _ e,v9 a _,⟨_,hS1 _ rfl,rfl,rfl⟩,fun b f=>?_,q⟩;have e:b=d.heap.objs.size:=by simpa using f
 subst e;exact c.fpOk (nR1 _) (c.hok.fresh (nR1 _))
theorem DQ{l:Expr}{tl:TE}(j:PE X l tl):PI X tg l (ID X.K tl):=by
 intro pins s σ H R I h;refine e6 (j pins s σ H _ I h) fun v c ⟨x,H1,d,m,k⟩=>?_;obtain⟨a,e,⟨xs,i⟩,q⟩:=k;subst e;cases m;obtain⟨f,r,p,n⟩:=d.tuple i;refine wpAny_pyIter_tuple (show c.heap.IsTuple a f.toArray from p) ?_;refine⟨c.heap.objs.size,[c.heap.objs.size],_,_,H1,rfl,d.kept (t':=c.toks) fun b o e=>hP1 _ e,s3 a _,⟨_,hS1 _ rfl,rfl,rfl⟩,fun b g=>?_,q⟩;have e:b=c.heap.objs.size:=by simpa using g
 subst e;exact d.fpOk (nR1 _) (d.hok.fresh (nR1 _))
theorem re{pins:List (dy×Obj)}{σ:St}{H:Hp}{s:dw}{R:It->Hp->Prop}{E:dr->dw->Prop}{lo hi:Int}{t u v:Tok}{tk:Nat}(I:Inv X pins σ H s)(h1: -(2^62)<=lo)(h2:lo<2^62)(d: -(2^62)<=hi)(f:hi<2^62)(q:R (Hs lo (hi-lo).toNat) H):dG (model X.prog X.w) X.A (pyIter (.ref s.heap.objs.size)) (Jn X pins σ tg R) E {s with heap:=s.heap.push {cls:=.type "range",data:=.fields #[.int lo t,.int hi u,.int 1 v]},toks:=tk}:=by
 refine wpAny_pyIter_range (IsRange.new ..) (small_one h1 h2 d f) ?_;have a:Inv X pins σ H {s with heap:=s.heap.push {cls:=.type "range",data:=.fields #[.int lo t,.int hi u,.int 1 v]},toks:=tk}:=I.kept fun b o e=>hP1 _ e;refine⟨(s.heap.push {cls:=.type "range",data:=.fields #[.int lo t,.int hi u,.int 1 v]}).objs.size,[(s.heap.push {cls:=.type "range",data:=.fields #[.int lo t,.int hi u,.int 1 v]}).objs.size],_,_,H,rfl,
  a.kept (t':=tk) fun b o e=>hP1 _ e,s9 _ lo (hi-lo).toNat,?_,fun b c=>?_,q⟩
 ·have g:lo+((0:Nat):Int)*1=lo:=by simp
  have h:(((hi-lo).toNat:Nat):Int)-((0:Nat):Int)=Builtin.Range.rangeSize lo hi 1:=by rw[rangeSize_one];split<;>lia
  show IsRangeIter _ _ (lo+((0:Nat):Int)*1) ((((hi-lo).toNat:Nat):Int)-((0:Nat):Int)) 1;rw[g,h];exact hS1 _ rfl
 ·have e:b=(s.heap.push {cls:=.type "range",data:=.fields #[.int lo t,.int hi u,.int 1 v]}).objs.size:=by simpa using c
  subst e;exact a.fpOk (nR1 _) (a.hok.fresh (nR1 _))
noncomputable def GL(ta:TA):TI:=fun σ H R=>ta σ H fun vs H1=>∃j:Int,vs=[.int j] /\ -(2^62)<=j/\j<2^62/\R (Hs 0 j.toNat) H1
noncomputable def GK(ta:TA):TI:=fun σ H R=>ta σ H fun vs H1=>∃i j:Int,vs=[.int i,.int j]/\(-(2^62)<=i/\i<2^62 /\ -(2^62)<=j/\j<2^62)/\R (Hs i (j-i).toNat) H1
theorem wm {a:Expr}{ta:TA}{p pos:Pos}(hg:Gl X "range")(hm:X.mg "range"=none)(ha:PA X [a] ta)(hs:dE [a] X.env=[(false,eval a X.env)]:=by rfl):PI X tg (.Call (.Name "range" p) [a] [] pos) (GL ta):=by
 intro pins s σ H R I h;refine Call_ (iQ I hg hm boot_range (PyProof.Rows.callWith_type1 (e6 (ha pos pins s σ H _ I h) fun i k ⟨vs,H1,d,g,b⟩=>?_) hs rfl));obtain⟨j,e,b,c,q⟩:=b;subst e;cases g with
 |cons r f=>
  cases f;obtain⟨t,rfl⟩:=r;exact call_range_1 (re d (by lia) (by lia) b c (by simpa using q))
theorem wl {a b:Expr}{ta:TA}{p pos:Pos}(hg:Gl X "range")(hm:X.mg "range"=none)(ha:PA X [a,b] ta)(hs:dE [a,b] X.env=[(false,eval a X.env),(false,eval b X.env)]:=by rfl)(hs2:dE [b] X.env=[(false,eval b X.env)]:=by rfl):
  PI X tg (.Call (.Name "range" p) [a,b] [] pos) (GK ta):=by
 intro pins s σ H R I h;refine Call_ (iQ I hg hm boot_range (PyProof.Rows.callWith_type1 (e6 (ha pos pins s σ H _ I h) fun u v ⟨vs,H1,g,m,d⟩=>?_) (by rw[hs,hs2]) (by rw[hs2];rfl)));obtain⟨i,j,e,⟨d,f,k,n⟩,q⟩:=d;subst e;cases m with
 |cons r c=>
  cases c with
  |cons l c=>
   cases c;obtain⟨t,rfl⟩:=r;obtain⟨o,rfl⟩:=l;exact call_range_2 (re g d f k n q)
noncomputable def FX(wi:TI)(g:TG)(tb:TS):TS:=fun D σ H=>wi σ H fun J H1=>∃W:Nat->Nat->St->Hp->Prop,(∃m,W 0 m σ H1) /\ ∀i m σ H,W i m σ H ->
 (J.stop i H/\D.nx σ H)\/(J.go i H /\ ∃N:St->Hp->Prop,(∀ σ' H',N σ' H' -> ∃m',m'<m/\W (i+1) m' σ' H') /\ ∀x H',J.yld i H x H'->g x σ H' fun σ2 H2=>tb {D with nx:=N,ct:=N,bk:=D.nx} σ2 H2)
noncomputable def mm(fp:List dy)(h:dH):List (dy×Obj):=fp.filterMap fun b=>(h.get? b).map fun o=>(b,o)
theorem iu{a:List dy}{h:dH}{b:dy}{o:Obj}(hb:b∈a)(e:h.get? b=some o):(b,o)∈mm a h:=aL.mpr ⟨b,hb,by rw[e];rfl⟩
theorem wt{a:List dy}{h:dH}{p:dy×Obj}(hp:p∈mm a h):p.1∈a/\h.get? p.1=some p.2:=by
 obtain⟨b,d,e⟩:=aL.mp hp;cases q:h.get? b with
 |none=>rw[q]at e;cases e
 |some o=>
  rw[q]at e;have c:(b,o)=p:=Option.some.inj e;subst c;exact⟨d,q⟩
theorem Inv.pinned{pins:List (dy×Obj)}{σ:St}{H:Hp}{s:dw}{a:List dy}(I:Inv X pins σ H s)(hf:∀b∈a,jl X pins H b)(ho:∀b∈a,∃o,s.heap.get? b=some o /\ ∀v,o.data ≠ .cell v):Inv X (pins++mm a s.heap) σ H s:=
 I.pins_of fun p h=>(aG.mp h).elim (fun z=>I.pin p (mA1 _ z)) fun z=>by
  obtain⟨f,e⟩:=wt z;obtain⟨j,i,g,_⟩:=hf p.1 f;obtain⟨o,c,d⟩:=ho p.1 f;rw[e]at c;cases c;exact⟨e,j,i,g,d⟩
theorem Inv.unpinned{pins pl:List (dy×Obj)}{σ:St}{H:Hp}{s:dw}(I:Inv X (pins++pl) σ H s):Inv X pins σ H s:=I.pins_of fun p a=>I.pin p (mA1 _ (aH _ a))
theorem DL{iter:Expr}{w:List dJ}{V:TI}{g:TG}{tb:TS}{pos:Pos}(hp:PassesOwn (model X.prog X.w) X.A X.env X.xe)(hc:X.calm=true)(hi:PI X tg iter V)(hg:PG X tg g)(hb:sO X w tb)(hs:∀x,foldedSetIterable iter X.env x=pure x:=by intro _;rfl):PS X (.For tg iter w [] pos) (FX V g tb):=by
 intro pins s σ H D I h;refine wpAny_For (e6 (hi pins s σ H _ I h) fun v s1 h1=>e6 h1 fun itv s2 h2=>?_) hs;obtain⟨it,B,S,J,H2,e,I2,T,M,U,W,⟨m0,w0⟩,E⟩:=h2;subst e
 -- what stays true of the iterator's objects through the loop
 have l:∀{H':Hp},(∀b∈B,H' b=none) -> ∀b∈B,jl X pins H' b:=fun hn b hb=>⟨hn b hb,(U b hb).2⟩;refine codeAny_forLoop_any (fun n s'=>∃i p H',Inv X pins p H' s'/\S i s'.heap/\(∀b∈B,H' b=none)/\W i n p H') ?_ m0 ⟨0,σ,H2,I2,M,fun b hb=>(U b hb).1,w0⟩;rintro n R ⟨i,q,G,Z,C,F,w3⟩;rcases E i n q G w3 with⟨A,qn⟩|⟨go,N,hN,step⟩
 ·refine wpAny_passesOwn hp (e6 (T.done X rfl rfl rfl hc i pins R q G X.xe Z (l F) C A) fun r s4 ⟨O,I4⟩=>?_);subst O;exact wpAny_execs_nil ⟨q,G,I4,qn⟩
 ·refine wpAny_passesOwn hp (e6 (T.item X rfl rfl rfl hc i pins R q G X.xe Z (l F) C go) fun r s4 ⟨u,O,h4⟩=>?_);subst O;refine wpAny_passesOwn hp (e6 h4 fun _ s5 ⟨x,Y,I5,r5,y5,y,P⟩=>?_);have K:=I5.pinned (l P) (T.obj _ _ y);refine wpAny_passesOwn hp (e6 (hg _ s5 q Y x u _ K r5 (step x Y y5)) fun _ s6 ⟨L,H6,I6,q6⟩=>?_);refine wpAny_passesOwn hp (e6 (hb _ s6 L H6 _ I6 q6) fun f Q t=>?_);have c:∀ {a:St} {j:Hp},Inv X (pins++mm B s5.heap) a j Q->N a j -> ∃ m,m<n /\ ∃ i p H',Inv X pins p H' Q/\S i Q.heap/\(∀ b∈B,H' b=none)/\W i m p H':=fun {a j} k z=>by
   obtain⟨m',hm,w7⟩:=hN a j z;refine⟨m',hm,i+1,a,j,k.unpinned,T.keep _ _ _ y fun b hb o e=>(k.pin (b,o) (mA1 _ (mA1 _ (iu hb e)))).1,fun b hb=>?_,w7⟩;obtain⟨o,e,d⟩:=T.obj _ _ y b hb;exact(k.pin (b,o) (mA1 _ (mA1 _ (iu hb e)))).2.1
  cases f with
  |next=>obtain⟨a,j,k,z⟩:=t;exact c k z
  |cont=>obtain⟨a,j,k,z⟩:=t;exact c k z
  |brk=>obtain⟨a,j,k,t⟩:=t;exact⟨a,j,k.unpinned,t⟩
  |ret v=>obtain⟨x7,a,j,k,r7,t⟩:=t;exact⟨x7,a,j,k.unpinned,r7,t⟩
end
end L2
namespace L2
open PySem PySem.Spec PyProof.Rows
abbrev R2:=V->V->Hp->VK->Prop
noncomputable def gh(X:Cx)(f:dr->dr->Sem dr)(r:R2):Prop:=
 ∀(pins:List (dy×Obj)) (s:dw) (σ:St) (H:Hp) (x y:V) (v u:dr) (Q:VK),Inv X pins σ H s->dX x v->dX y u->r x y H Q ->
  dG (model X.prog X.w) X.A (f v u) (EP X pins σ Q) X.xe s
noncomputable def Fz(X:Cx)(f:dr->Sem dr)(r:V->Hp->VK->Prop):Prop:=
 ∀(pins:List (dy×Obj)) (s:dw) (σ:St) (H:Hp) (x:V) (v:dr) (Q:VK),Inv X pins σ H s->dX x v->r x H Q ->
  dG (model X.prog X.w) X.A (f v) (EP X pins σ Q) X.xe s
noncomputable def e0(X:Cx)(f:dr)(r:List V->Hp->VK->Prop):Prop:=
 ∀(pins:List (dy×Obj)) (s:dw) (σ:St) (H:Hp) (xs:List V) (us:List dr) (Q:VK),Inv X pins σ H s->ea xs us->r xs H Q ->
  dG (model X.prog X.w) X.A (call f us) (EP X pins σ Q) X.xe s
noncomputable def IS(X:Cx)(r:V->Hp->(Bool->Hp->Prop)->Prop):Prop:=
 ∀(pins:List (dy×Obj)) (s:dw) (σ:St) (H:Hp) (x:V) (v:dr) (Q:Bool->Hp->Prop),Inv X pins σ H s->dX x v->r x H Q ->
  dG (model X.prog X.w) X.A (truthy v) (TP X pins σ Q) X.xe s
noncomputable def FR(r:R2)(ta tb:TE):TE:=fun σ H Q=>ta σ H fun x H1=>tb σ H1 fun y H2=>r x y H2 Q
noncomputable def IZ(r:V->Hp->VK->Prop)(ta:TE):TE:=fun σ H Q=>ta σ H fun x H1=>r x H1 Q
noncomputable def rI(C:Int->Int->Prop)(g:Int->Int->V):R2:=fun x y H Q=>∃i j,x = .int i/\y = .int j/\C i j/\Q (g i j) H
noncomputable def CF(g:Int->Int->V):R2:=fun x y H Q=>∃i j,x = .int i/\y = .int j/\Q (g i j) H
noncomputable def rU(g:Int->V):V->Hp->VK->Prop:=fun x H Q=>∃i,x = .int i/\Q (g i) H
section
variable{X:Cx}{a b c:Expr}{ta tb tc:TE}{pos:Pos}
theorem Fd(ha:PE X a ta)(hb:PE X b tb){pins:List (dy×Obj)}{s:dw}{σ:St}{H:Hp}{R:V->V->Hp->Prop}(I:Inv X pins σ H s)(h:ta σ H fun x H1=>tb σ H1 fun y H2=>R x y H2){Q:dr->dw->Prop}{f:dr->dr->Sem dr}(hf:∀v u e x y H2,Inv X pins σ H2 e->dX x v->dX y u->R x y H2->dG (model X.prog X.w) X.A (f v u) Q X.xe e):
  dG (model X.prog X.w) X.A (eval a X.env) (fun v d=>dG (model X.prog X.w) X.A (eval b X.env) (fun u c=>dG (model X.prog X.w) X.A (f v u) Q X.xe c) X.xe d) X.xe s:=by
 refine e6 (ha pins s σ H _ I h) fun v m ⟨x,H1,j,l,k⟩=>?_;refine e6 (hb pins m σ H1 _ j k) fun u e ⟨y,H2,g,r2,i⟩=>?_;exact hf v u e x y H2 g l r2 i
theorem Ge{op:Operator}{r:R2}(ho:gh X (binaryOp op) r)(ha:PE X a ta)(hb:PE X b tb):PE X (.BinOp a op b pos) (FR r ta tb):=by
 intro pins s σ H Q I h;exact wpAny_BinOp (Fd ha hb I h fun v u d x y H2 f c e q=>ho pins d σ H2 x y v u Q f c e q)
theorem Gd{op:UnaryOp}{r:V->Hp->VK->Prop}(ho:Fz X (unaryOp op) r)(ha:PE X a ta):PE X (.UnaryOp op a pos) (IZ r ta):=by
 intro pins s σ H Q I h;exact UnaryOp_ (e6 (ha pins s σ H _ I h) fun v e ⟨x,H1,b,d,c⟩=>ho pins e σ H1 x v Q b d c)
theorem HA{f:dr->dr->Sem dr}{C:Int->Int->Prop}{g:Int->Int->Int}(a:∀(i j:Int) (t u:Tok) (s:dw) (Q:dr->dw->Prop) (E:dr->dw->Prop),C i j->Q (.int (g i j) s.toks) {s with toks:=s.toks+1}->dG (model X.prog X.w) X.A (f (.int i t) (.int j u)) Q E s):
  gh X f (rI C fun i j=>.int (g i j)):=by
 intro pins s σ H x y v u Q I b c h;obtain⟨i,j,rfl,rfl,hc,q⟩:=h;obtain⟨t,rfl⟩:=b;obtain⟨d,rfl⟩:=c;exact a i j t d s _ _ hc ⟨.int (g i j),H,I.tok _,⟨_,rfl⟩,q⟩
theorem D7{f:dr->dr->Sem dr}{g:Int->Int->Int}(a:∀(i j:Int) (t u:Tok) (s:dw) (Q:dr->dw->Prop) (E:dr->dw->Prop),Q (.int (g i j) s.toks) {s with toks:=s.toks+1}->dG (model X.prog X.w) X.A (f (.int i t) (.int j u)) Q E s):
  gh X f (CF fun i j=>.int (g i j)):=by
 intro pins s σ H x y v u Q I b c h;obtain⟨i,j,rfl,rfl,q⟩:=h;obtain⟨t,rfl⟩:=b;obtain⟨d,rfl⟩:=c;exact a i j t d s _ _ ⟨.int (g i j),H,I.tok _,⟨_,rfl⟩,q⟩
theorem Gm{f:dr->dr->Sem dr}{g:Int->Int->Bool}(a:∀(i j:Int) (t u:Tok) (s:dw) (Q:dr->dw->Prop) (E:dr->dw->Prop),Q (.bool (g i j)) s->dG (model X.prog X.w) X.A (f (.int i t) (.int j u)) Q E s):
  gh X f (CF fun i j=>.bl (g i j)):=by
 intro pins s σ H x y v u Q I b c h;obtain⟨i,j,rfl,rfl,q⟩:=h;obtain⟨t,rfl⟩:=b;obtain⟨d,rfl⟩:=c;exact a i j t d s _ _ ⟨.bl (g i j),H,I,rfl,q⟩
noncomputable def Hv(i j:Int):Prop:=0<j/\j<1073741824
noncomputable def Hu(i j:Int):Prop:=0<=j/\j<=1000000/\i.natAbs<2^64
theorem D6:gh X (binaryOp .Add) (CF fun i j=>.int (i+j)):=D7 fun _ _ _ _ _ _ _ q=>add_int q
theorem D1:gh X (binaryOp .Sub) (CF fun i j=>.int (i-j)):=D7 fun _ _ _ _ _ _ _ q=>sub_int q
theorem A8:gh X (binaryOp .FloorDiv) (rI Hv fun i j=>.int (i/j)):=HA fun i j _ _ _ _ _ hc q=>by
 have h1:(0:Int)<j:=hc.1;have h2:j<1073741824:=hc.2;exact floordiv_int (by lia) (by rw[Int.fdiv_eq_ediv_of_nonneg i (by lia)];exact q) (.inl (PyProof.noPylong_small (by lia)))
theorem D3:gh X (binaryOp .Mod) (rI (fun _ j=>0<j) fun i j=>.int (i%j)):=HA fun i j _ _ _ _ _ hc q=>by
 have h1:(0:Int)<j:=hc;exact mod_int' (by lia) (by rw[Int.fmod_eq_emod_of_nonneg i (by lia)];exact q)
theorem D2:gh X (binaryOp .Pow) (rI Hu fun i j=>.int (i^j.toNat)):=HA fun _ _ _ _ _ _ _ hc q=>pow_int_small hc.1 hc.2.1 hc.2.2 q
theorem BS:gh X (inplaceOp .Add) (CF fun i j=>.int (i+j)):=D7 fun _ _ _ _ _ _ _ q=>iadd_int q
theorem Ju{f:dr->Sem dr}{g:Int->Int}(a:∀(i:Int) (t:Tok) (s:dw) (Q:dr->dw->Prop) (E:dr->dw->Prop),Q (.int (g i) s.toks) {s with toks:=s.toks+1}->dG (model X.prog X.w) X.A (f (.int i t)) Q E s):
  Fz X f (rU fun i=>.int (g i)):=by
 intro pins s σ H x v Q I b h;obtain⟨i,rfl,q⟩:=h;obtain⟨t,rfl⟩:=b;exact a i t s _ _ ⟨.int (g i),H,I.tok _,⟨_,rfl⟩,q⟩
theorem C9:Fz X (unaryOp .USub) (rU fun i=>.int (-i)):=Ju fun _ _ _ _ _ q=>neg_int q
theorem zD{pins:List (dy×Obj)}{σ:St}{H:Hp}{s:dw}{Q:VK}{k k':Bool}(I:Inv X pins σ H s)(q:Q (.bl k) H)(e:k=k'):EP X pins σ Q (.bool k') s:=by
 subst e;exact⟨.bl k,H,I,rfl,q⟩
theorem Gj:gh X (compareOp .Gt) (CF fun i j=>.bl (decide (j<i))):=Gm fun _ _ _ _ _ _ _ q=>gt_int q
theorem Gk:gh X (compareOp .GtE) (CF fun i j=>.bl (decide (j<=i))):=Gm fun _ _ _ _ _ _ _ q=>ge_int q
theorem D4:gh X (compareOp .Is) (fun x y H Q=>y = .non/\Q (.bl (decide (x = .non))) H):=by
 intro pins s σ H x y v u Q I a b h;obtain⟨rfl,q⟩:=h;cases b;refine is_none_gen (zD I q ?_);cases x<;>first
  |(cases a;rfl)
  |(obtain⟨t,rfl⟩:=a;rfl)
theorem A7:gh X (compareOp .IsNot) (fun x y H Q=>y = .non/\Q (.bl (!decide (x = .non))) H):=by
 intro pins s σ H x y v u Q I a b h;obtain⟨rfl,q⟩:=h;cases b;refine isnot_none_gen (zD I q ?_);cases x<;>first
  |(cases a;rfl)
  |(obtain⟨t,rfl⟩:=a;rfl)
theorem yQ(b:Expr){op:CmpOp}(h:op ≠ .In:=by decide)(h2:op ≠ .NotIn:=by decide):behindInMarks op b=false:=by
 have a:(op == CmpOp.In)=false:=by cases op<;>first|rfl|exact absurd rfl h
 have c:(op == CmpOp.NotIn)=false:=by cases op<;>first|rfl|exact absurd rfl h2
 cases b<;>simp[behindInMarks,a,c]
theorem A4{op:CmpOp}{r:R2}(ho:gh X (compareOp op) r)(ha:PE X a ta)(hb:PE X b tb)(hm:behindInMarks op b=false):PE X (.Compare a [op] [b] pos) (FR r ta tb):=by
 intro pins s σ H Q I h;exact wpAny_Compare1 (Fd ha hb I h fun v u d x y H2 f c e q=>ho pins d σ H2 x y v u Q f c e q) hm
noncomputable def FM(t:TE):TT:=fun σ H Q=>t σ H fun x H'=>∃k,x = .bl k/\Q k H'
theorem AO{op:CmpOp}{r:R2}(ho:gh X (compareOp op) r)(ha:PE X a ta)(hb:PE X b tb)(hm:behindInMarks op b=false):PT X (.Compare a [op] [b] pos) (FM (FR r ta tb)):=by
 intro pins s σ H Q I h;refine wpAny_isTrue_Compare1 (e6 (ha pins s σ H _ I h) fun v p ⟨x,H1,g,n,m⟩=>e6 (hb pins p σ H1 _ g m) fun u o ⟨y,H2,d,r2,f⟩=>
  e6 (ho pins o σ H2 x y v u _ d n r2 f) fun c t ⟨z,j,q,l,k,e,i⟩=>?_) hm
 subst e;cases l;exact wpAny_truthy_bool ⟨j,q,i⟩
noncomputable def Cu(K:Fg1)(x:V)(H:Hp)(k:Bool):Prop:=
 match x with
 | .non=>k=false
 | .bl b=>k=b
 | .int i=>k=(i != 0)
 | .str y=>y.length<=dF/\k=((y.length:Int) != 0)
 | .byt y=>y.size<=dF/\k=((y.size:Int) != 0)
 | .ref p=>(∃xs,lJ K H p xs/\k = !xs.isEmpty)\/(∃xs,jA K H p xs/\k = !xs.isEmpty) \/ ∃kvs,H p=some (.dK kvs)/\k = !kvs.isEmpty
 |_=>False
theorem tT{κ:Type}{kvs:List (κ×V)}{vs:List (κ×dr)}(r:KV kvs vs):(!vs.isEmpty) = !kvs.isEmpty:=by
 cases r<;>rfl
theorem mL{xs:List V}{its:List dr}(r:ea xs its):(!its.toArray.isEmpty) = !xs.isEmpty:=by
 cases r<;>simp
theorem kN:(dF:Nat)<2^63:=by rw[sizeLine_eq];decide
theorem De:IS X (fun x H Q=>∃k,Cu X.K x H k/\Q k H):=by
 intro pins s σ H x v Q I d h;obtain⟨k,e,q⟩:=h;have u:=kN;have o:dF=16777216:=sizeLine_eq;cases x with
 |non=>
  cases d;have a:k=false:=e;subst a;exact truthy_none ⟨H,I,q⟩
 |bl b=>
  cases d;have a:k=b:=e;subst a;exact wpAny_truthy_bool ⟨H,I,q⟩
 |int i=>
  obtain⟨t,rfl⟩:=d;have a:k=(i != 0):=e;subst a;exact PySem.P.truthy_int ⟨H,I,q⟩
 |str y=>
  obtain⟨t,rfl⟩:=d;obtain⟨n,a⟩:y.length<=dF/\k=((y.length:Int) != 0):=e;subst a;exact PySem.P.truthy_str (by lia) ⟨H,I.tok _,q⟩
 |byt y=>
  obtain⟨t,rfl⟩:=d;obtain⟨n,a⟩:y.size<=dF/\k=((y.size:Int) != 0):=e;subst a;exact PySem.W.truthy_bytes (by lia) ⟨H,I.tok _,q⟩
 |ref p=>
  cases d;have a:(∃xs,lJ X.K H p xs/\k = !xs.isEmpty)\/(∃xs,jA X.K H p xs/\k = !xs.isEmpty) \/ ∃kvs,H p=some (.dK kvs)/\k = !kvs.isEmpty:=e;rcases a with⟨xs,f,a⟩|⟨xs,f,a⟩|⟨kvs,f,a⟩
  ·subst a;obtain⟨g,r,pl,j⟩:=I.list f;have c:=r.length;exact wpAny_truthy_list pl.isList (by simp only[sT1];lia) ⟨H,I.tok _,by rw[mL r];exact q⟩
  ·subst a;obtain⟨g,r,pl,j⟩:=I.tuple f;have c:=r.length;exact truthy_tuple pl (by simp only[sT1];lia) ⟨H,I.tok _,by rw[mL r];exact q⟩
  ·subst a;obtain⟨j,l,vs,r,m⟩:kvs.length<=dF/\(p == sysModules)=false /\ ∃vs,KV kvs vs/\s.heap.DictOf (eN X.prog X.w) p vs:=I.hok p _ f;have c:kvs.length=vs.length:=Paired.length r;exact wpAny_truthy_dict l m (by lia) ⟨H,I.tok _,by rw[tT r];exact q⟩
 |_=>exact(show False from e).elim
theorem yo(ha:PE X a ta)(he:∀ b,isTrue a X.env b=(do let v<-b;standAt a.pos;holding [v] (truthy v))):
  PT X a (fun σ H Q=>ta σ H fun x H'=>∃k,Cu X.K x H' k/\Q k H'):=by
 intro pins s σ H Q I h;exact isTrue_plain (e6 (ha pins s σ H _ I h) fun v f ⟨x,H1,c,e,d⟩=>De pins f σ H1 x v Q c e d) (he _)
theorem tI:gh X (binaryOp .Add) (fun x y H Q=>∃i j,x = .str i/\y = .str j/\i.length+j.length<=dF/\Q (.str (i++j)) H):=by
 intro pins s σ H x y v u Q I b c h;obtain⟨i,j,rfl,rfl,a,q⟩:=h;obtain⟨t,rfl⟩:=b;obtain⟨d,rfl⟩:=c;exact add_str (fun d tk=>⟨.str (i++j),H,I.tok _,⟨_,rfl⟩,q⟩) a
theorem iG{x:V}{a:List dr}(r:ea [x] a):∃u,a=[u]/\dX x u:=by
 cases r with
 |cons b r2=>cases r2;exact⟨_,rfl,b⟩
theorem xL{x y:V}{a:List dr}(r:ea [x,y] a):∃u w',a=[u,w']/\dX x u/\dX y w':=by
 cases r with
 |cons c r2=>
  cases r2 with
  |cons b d=>cases d;exact⟨_,_,rfl,c,b⟩
theorem xh(hc:X.calm=true):e0 X (.builtin "max") (fun xs H Q=>∃i j,xs=[.int i,.int j]/\Q (.int (if j>i then j else i)) H):=by
 intro pins s σ H xs c Q I r h;obtain⟨i,j,rfl,q⟩:=h;obtain⟨u,d,rfl,⟨t,rfl⟩,⟨b,rfl⟩⟩:=xL r;refine max_two_ints (I.ok.hd hc) fun h' tk k=>⟨_,H,I.kept k,?_,q⟩;by_cases a:j>i
 ·rw[if_pos a,if_pos a];exact⟨_,rfl⟩
 ·rw[if_neg a,if_neg a];exact⟨_,rfl⟩
theorem xg(hc:X.calm=true):e0 X (.builtin "min") (fun xs H Q=>∃i j,xs=[.int i,.int j]/\Q (.int (if j<i then j else i)) H):=by
 intro pins s σ H xs c Q I r h;obtain⟨i,j,rfl,q⟩:=h;obtain⟨u,d,rfl,⟨t,rfl⟩,⟨b,rfl⟩⟩:=xL r;refine min_two_ints (I.ok.hd hc) fun h' tk k=>⟨_,H,I.kept k,?_,q⟩;by_cases a:j<i
 ·rw[if_pos a,if_pos a];exact⟨_,rfl⟩
 ·rw[if_neg a,if_neg a];exact⟨_,rfl⟩
theorem oJ:e0 X (.type "int") (fun xs H Q=>(∃i,xs=[.int i]/\Q (.int i) H) \/ ∃k,xs=[.bl k]/\Q (.int (if k then 1 else 0)) H):=by
 intro pins s σ H xs b Q I r h;rcases h with⟨i,rfl,q⟩|⟨k,rfl,q⟩
 ·obtain⟨u,rfl,t,rfl⟩:=iG r;exact call_int_int ⟨.int i,H,I,⟨_,rfl⟩,q⟩
 ·obtain⟨u,rfl,a⟩:=iG r;cases a;exact call_int_bool ⟨.int (if k then 1 else 0),H,I.tok _,⟨_,rfl⟩,q⟩
end
end L2
namespace L2
open PySem PySem.Spec PyProof.Rows
structure Ft (h:dH)(x dx C:dy)(mA:Str->Option dr):Prop where
 obj:h.get? x=some (PySem.W.instObj C dx)
 ns:h.Ns1 dx mA
 ne:dx≠x
theorem wC{h:dH}{dx:dy}{mA:Str->Option dr}(n:h.Ns1 dx mA):∃c,h.get? dx=some c /\ ∀name,PySem.W.lookIn name c=some (mA name):=by
 obtain⟨o,es,ep,i,f,k,_,j⟩:=n;refine⟨o,i,fun name=>?_⟩;have e:=j name;unfold nsFind findBy at e;rw[<- Array.find?_toList]at e;unfold PySem.W.lookIn;rw[f];dsimp only;split
 ·rename_i y q;rw[q]at e;exact congrArg some e
 ·rename_i q;rw [q] at e;have a:es.toList.any (·.refKey)=false:=by
   rw[List.any_eq_false];intro y g;obtain⟨z,t,b⟩:=k y (aM.mp g);simp[DictEntry.refKey,b]
  have d:¬ es.toList.any (·.refKey)=true:=by rw[a];exact aK
  rw[if_neg d];exact congrArg some e
theorem Ft.look{h:dH}{x dx C:dy}{mA:Str->Option dr}(I:Ft h x dx C mA):∃a,PySem.W.InstAt h x (PySem.W.instObj C dx) C (some a) /\ ∀name,PySem.W.lookIn name a=some (mA name):=
 let ⟨a,ho,hl⟩:=wC I.ns
 ⟨a,⟨I.obj,rfl,rfl,ho⟩,hl⟩
section
variable{prog:dz}{w:dB}{A:dA}{E:dr->dw->Prop}{s:dw}{K:Fg1}{x dx C f:dy}{mA:Str->Option dr}{name:Str}{v:dr}
end
theorem kZ.some_of{v:V}{o:Option dr}(r:kZ (some v) o):∃u,o=some u/\dX v u:=by
 cases o with
 |none=>exact(show False from r).elim
 |some u=>exact⟨u,rfl,r⟩
section
variable{P:dz}{w:dB}{H H':Hp}{h h':dH}{a C dx:dy}{fs fs':List (Str×V)}
theorem BV(b:jC P w H h)(e:H a=some (.ins C dx fs)):∃mA,Ft h a dx C mA/\(∀f,kZ (fs.lookup f) (mA f))/\PySem.Within mA (fs.map (·.1))/\fs.length<=1000/\H dx=some (.own a):=by
 obtain⟨d,z,ne,c,mA,n,r,q⟩:=(show ew P w H h a (.ins C dx fs)from b a _ e);exact⟨mA,⟨c,n,ne⟩,r,q,z,d⟩
end
structure IX (K:Fg1)(C:dy):Prop where
 pg:PySem.W.plainGet K C Str.empty=true
 hd:PySem.W.hasDictIn K C=true
 po:PySem.W.plainOver K C=true
 sa:PySem.W.findIn K (.ref C) "__setattr__"=some (some (.builtin "object.__setattr__"))
theorem IX.get{K:Fg1}{C:dy}(c:IX K C)(f:Str):PySem.W.plainGet K C f=true:=c.pg
section
variable{X:Cx}{pins:List (dy×Obj)}{σ:St}{H:Hp}{s:dw}{a C dx:dy}{fs:List (Str×V)}{f:Str}{v:V}{A:dA}{E:dr->dw->Prop}
end
section
variable{X:Cx}{o e value:Expr}{f:Str}{pos pos' tpos:Pos}{ta tv:TE}
end
section
variable{X:Cx}{pins:List (dy×Obj)}{σ:St}{H:Hp}{s:dw}{A:dA}{E:dr->dw->Prop}{Q:dr->dw->Prop}{c:dr}{b:Bool}
inductive lI (K:Fg1)(H:Hp):V->dr->Prop where
 |non:lI K H .non (.type "NoneType")
 |bl (x:Bool):lI K H (.bl x) (.type "bool")
 |int (i:Int):lI K H (.int i) (.type "int")
 |str (x:Str):lI K H (.str x) (.type "str")
 |flt (x:UInt64):lI K H (.flt x) (.type "float")
 |lst {a:dy} {xs:List V} (e:H a=some (.lst xs)):lI K H (.ref a) (.type "list")
 |frz {a:dy} {o:Obj} {xs:List V} (e:H a=some (.frz o (.lst xs))):lI K H (.ref a) (.type "list")
 |tup {a:dy} {xs:List V} (e:H a=some (.tup xs)):lI K H (.ref a) (.type "tuple")
 |dK {a:dy} {kvs:List (Key×V)} (e:H a=some (.dK kvs)):lI K H (.ref a) (.type "dict")
 |dT {a:dy} {kvs:List (List Key×V)} (e:H a=some (.dT kvs)):lI K H (.ref a) (.type "dict")
 | ins {a C dx:dy} {fs:List (Str×V)} (e:H a=some (.ins C dx fs)) (cl:IX K C) (ha:PySem.W.findIn K (.ref C) "__class__"=some (some (.builtin "object.__class__")))
   (hn:PySem.W.specialIn K (.builtin "object.__class__") "__get__"=some (some (.builtin "getset_descriptor.__get__"))) (htk:PySem.W.takesIn K (.builtin "object.__class__")=some true)
   (hm:PySem.W.mroIn K C (.type "object")=some true):lI K H (.ref a) (.ref C)
theorem hF{x:V}{u t:dr}(I:Inv X pins σ H s)(f:dX x u)(ty:lI X.K H x t)(e:PySem.W.kitOne X.K t c=some b)(h:∀ tk,Q (.bool b) {s with toks:=tk}):
  dG (model X.prog X.w) A (call (.builtin "isinstance") [u,c]) Q E s:=by
 cases ty with
 |non=>cases(show u=Value.none from f);exact PySem.W.kia_one PySem.W.kitx_none I.kIn True.intro e (fun z=>nomatch z) h
 |bl y=>cases(show u=Value.bool y from f);exact PySem.W.kia_one PySem.W.kitx_bool I.kIn True.intro e (fun z=>nomatch z) h
 |int i=>obtain⟨t,q⟩:=(show∃t,u=Value.int i t from f);cases q;exact PySem.W.kia_one PySem.W.kitx_int I.kIn True.intro e (fun z=>nomatch z) h
 |str y=>obtain⟨t,q⟩:=(show∃t,u=Value.str y t from f);cases q;exact PySem.W.kia_one PySem.W.kitx_str I.kIn True.intro e (fun z=>nomatch z) h
 |flt y=>obtain⟨t,q⟩:=(show∃t,u=Value.float y t from f);cases q;exact PySem.W.kia_one PySem.W.kitx_float I.kIn True.intro e (fun z=>nomatch z) h
 | @lst a xs d=>
  cases(show u=Value.ref a from f);obtain⟨_,_,n,_,h1⟩:=(show ew X.prog X.w H s.heap a (.lst xs)from I.hok a _ d);exact PySem.W.kia_one PySem.W.kitx_list I.kIn ⟨_,h1,rfl⟩ e (fun z=>nomatch z) h
 | @frz a k xs d=>
  cases(show u=Value.ref a from f);obtain⟨_,_,_,n,_,h1⟩:=(show ew X.prog X.w H s.heap a (.frz k (.lst xs))from I.hok a _ d);exact PySem.W.kia_one PySem.W.kitx_list I.kIn ⟨_,h1,rfl⟩ e (fun z=>nomatch z) h
 | @tup a xs d=>
  cases(show u=Value.ref a from f);obtain⟨_,_,_,p⟩:=(show ew X.prog X.w H s.heap a (.tup xs)from I.hok a _ d);obtain⟨o,h1,h2,_⟩:=p;exact PySem.W.kia_one PySem.W.kitx_tuple I.kIn ⟨o,h1,h2⟩ e (fun z=>nomatch z) h
 | @dK a kvs d=>
  cases(show u=Value.ref a from f);obtain⟨_,_,vs,_,p⟩:=(show ew X.prog X.w H s.heap a (.dK kvs)from I.hok a _ d);obtain⟨o,es,ep,h1,h2,_⟩:=p;exact PySem.W.kia_one PySem.W.kitx_dict I.kIn ⟨o,h1,h2.1⟩ e (fun z=>nomatch z) h
 | @dT a kvs d=>
  cases(show u=Value.ref a from f);obtain⟨_,_,xs,_,o,es,ep,h1,h2,_⟩:=(show ew X.prog X.w H s.heap a (.dT kvs)from I.hok a _ d);exact PySem.W.kia_one PySem.W.kitx_dict I.kIn ⟨o,h1,h2.1⟩ e (fun z=>nomatch z) h
 | @ins a C dx fs d j l m g r=>
  cases(show u=Value.ref a from f);obtain⟨mA,O,_⟩:=BV I.hok d;obtain⟨v,J,_⟩:=O.look;exact PySem.W.kia_one (PySem.W.kitx_own (j.get _) j.hd l m g r) I.kIn J e (fun z=>nomatch z) h
end
end L2
namespace L2
open PySem PySem.Spec PyProof.Rows
structure fF (k:Nat)(A:dA):Prop where
 hd:A.handled=none
 dp:A.depth+3*k+5<recursionLimit
 un:A.units+16*k+200<cLine
 gd:A.guards=some []
theorem fF.mono{j k:Nat}{A:dA}(r:fF k A)(h:j<=k):fF j A:=⟨r.hd,by have:=r.dp;lia,by have:=r.un;lia,r.gd⟩
theorem fF.deeper{k:Nat}{A:dA}(r:fF (k+1) A)(env:Env):fF k (A.deeper env):=
 ⟨r.hd,by have:=r.dp;show A.depth+1+3*k+5<_;lia,by have:=r.un;show A.units+3+16*k+200<_;lia,r.gd⟩
theorem fF.depth{k:Nat}{A:dA}(r:fF k A):A.depth<recursionLimit:=by have:=r.dp;lia
theorem fF.units{k:Nat}{A:dA}(r:fF k A):A.units+64<cLine:=by have:=r.un;lia
noncomputable def HW:TA:=fun _ H Q=>Q [] H
noncomputable def F0(ta:TE)(tr:TA):TA:=fun σ H Q=>ta σ H fun x H1=>tr σ H1 fun xs H2=>Q (x::xs) H2
section
variable{X:Cx}{e:Expr}{es:List Expr}{te:TE}{t:TA}{pos:Pos}
theorem my:PA X [] HW:=fun _ _ _ _ H Q I h=>Calls.spliced_nil ⟨[],H,I,.nil,h⟩
theorem jd(ha:PE X e te)(hr:PA X es t)(hs:dE (e::es) X.env=(false,eval e X.env)::dE es X.env:=by rfl):PA X (e::es) (F0 te t):=by
 intro pos pins s σ H Q I h;rw[hs];show dG _ _ (spliced ((false,eval e X.env)::backTo pos (dE es X.env))) _ _ s;refine Calls.spliced_cons (e6 (ha pins s σ H _ I h) fun u g ⟨x,H1,c,f,d⟩=>?_);exact e6 (hr pos pins g σ H1 _ c d) fun i j ⟨xs,H2,a,r2,b⟩=>⟨x::xs,H2,a,.cons f r2,b⟩
noncomputable def HQ(t:TA):TE:=fun σ H Q=>t σ H fun xs H1=>xs.length<=dF /\ ∀p,H1 p=none->Q (.ref p) (upd H1 p (.tup xs))
noncomputable def H0(t:TA):TE:=fun σ H Q=>t σ H fun xs H1=>xs.length<=dF /\ ∀p,H1 p=none->Q (.ref p) (upd H1 p (.lst xs))
theorem DU{x1}(h:PA X es t):PE X (.Tuple es x1 pos) (HQ t):=by
 intro pins s σ H Q I f;refine wpAny_Tuple_spliced (e6 (h pos pins s σ H _ I f) fun g a ⟨xs,H1,c,r,z,q⟩=>⟨by rw[<- r.length];exact z,?_⟩);have d:H1 a.heap.objs.size=none:=c.hok.fresh (nR1 _);refine⟨.ref a.heap.objs.size,upd H1 a.heap.objs.size (.tup xs),c.laid (t':=a.toks) (fun b u e=>hP1 _ e) (nR1 _) ?_,rfl,q _ d⟩;exact⟨z,g,r,⟨_,hS1 _ rfl,rfl,_,rfl⟩⟩
theorem DX(h:PA X es t):PE X (.List es pos) (H0 t):=by
 intro pins s σ H Q I f;refine wpAny_List_spliced (e6 (h pos pins s σ H _ I f) fun g a ⟨xs,H1,c,r,z,q⟩=>⟨by rw[<- r.length];exact z,?_⟩);have d:H1 a.heap.objs.size=none:=c.hok.fresh (nR1 _);refine⟨.ref a.heap.objs.size,upd H1 a.heap.objs.size (.lst xs),c.laid (t':=a.toks) (fun b u e=>hP1 _ e) (nR1 _) ?_,rfl,q _ d⟩;exact⟨z,g,0,r,hS1 _ rfl⟩
end
abbrev Sp:=List V->Hp->VK->XK->Prop
abbrev xy:=List Env->Hp->dw->XK->dr->dw->Prop
structure Cw (P:dz)(w:dB)(K:Fg1)(mg:Str->Option dr)(base:dH)(A:dA)(outer:List Env)(s:dw)(H:Hp):Prop where
 frames:A.frames=some outer
 mod:Mod K mg base
 bs:∀b o,base.get? b=some o->s.heap.get? b=some o/\H b=none
 bsz:base.objs.size<=s.heap.objs.size
 funs:s.heap.FunFrames base outer
 frf:∀b∈frs outer,H b=none
 hok:jC P w H s.heap
 bare:AllBare s.gens
noncomputable def CE(outer:List Env)(P:dz)(w:dB)(H:Hp)(s:dw)(Q:VK)(u:dr)(s':dw):Prop:=
 ∃v H',s'.os=s.os/\AllBare s'.gens/\Un (frs outer) [] H H' s.heap s'.heap/\jC P w H' s'.heap/\dX v u/\Q v H'
noncomputable def CR(CX:xy)(outer:List Env)(P:dz)(w:dB)(H:Hp)(s:dw)(Q:VK)(E:XK)(r:Result)(s':dw):Prop:=
 match r with
 | .ok (.ret u)=>CE outer P w H s Q u s'
 | .ok _=>False
 | .error e=>CX outer H s E e s'
structure k3 (P:dz)(w:dB)(K:Fg1)(mg:Str->Option dr)(base:dH)(CX:xy)(k:Nat)(f:dy)(fd:dI)(ps:List Str)(sp:Sp):Prop where
 len:∀vs H Q E,sp vs H Q E->vs.length=ps.length
 run:∀(A:dA) (outer:List Env) (s:dw) (H:Hp) (args:Args) (us:List dr) (vs:List V) (Q:VK) (E:XK),fF k A->Cw P w K mg base A outer s H->BindsTo s fd args (ps.zip us)->ea vs us->sp vs H Q E ->
  codeAny (model P w) A (.call (.ref f) args) (CR CX outer P w H s Q E) s
section
variable{X:Cx}{pins:List (dy×Obj)}{σ:St}{H:Hp}{s s':dw}
theorem Inv.env0(I:Inv X pins σ H s):Cw X.prog X.w X.K X.mg X.base X.A X.stack s H:=
 ⟨I.ok.frames,I.ok.mod,I.bs,aC I.ok.bsz I.sz,I.stack,I.stkFree,I.hok,I.bare⟩
theorem Inv.after{Q:VK}{u:dr}(I:Inv X pins σ H s)(h:CE X.stack X.prog X.w H s Q u s'):EP X pins σ Q u s':=by
 obtain⟨v,H',i,a,un,c,r,q⟩:=h;obtain⟨f,g,d,t,e⟩:=s';obtain rfl:e=s.os:=i;exact⟨v,H',I.call (h':=f) (g':=g) (d':=d) (t':=t) (ch:=[]) un c a (fun b z=>absurd z (by simp)),r,q⟩
end
noncomputable def F1(sp:Sp)(dvs:List V)(E:XK)(t:TA):TE:=fun σ H Q=>t σ H fun vs H1=>sp (vs++dvs) H1 Q E
noncomputable def kA(K:Fg1)(fd:dI)(ps:List Str)(ds:List dr):Prop:=
 ∀(s:dw) (us:List dr),K.In s.heap->(us++ds).length=ps.length->BindsTo s fd ⟨us,[]⟩ (ps.zip (us++ds))
theorem kA.all{K:Fg1}{fd:dI}{ps:List Str}(h:∀a:List dr,a.length=ps.length->bindArgs fd ⟨a,[]⟩=pure (ps.zip a)):kA K fd ps []:=fun s a _ b=>by
 rw[aN]at b ⊢;exact .of_eq (h a b)
noncomputable def ul(CX:xy)(X:Cx)(E:XK):Prop:=∀(pins:List (dy×Obj)) (σ:St) (H:Hp) (s:dw) (e:dr) (s':dw),Inv X pins σ H s->CX X.stack H s E e s'->X.xe e s'
section
variable{X:Cx}{CX:xy}{k:Nat}{f C:dy}{fd:dI}{ps:List Str}{sp:Sp}{dvs:List V}{ds:List dr}{E:XK}{x m:Str}{p pos apos:Pos}{e o:Expr}{es:List Expr}{ta:TE}{t:TA}
theorem Dy{pins:List (dy×Obj)}{σ:St}{H:Hp}{s:dw}{Q:VK}{a:List dr}{vs:List V}(F:k3 X.prog X.w X.K X.mg X.base CX k f fd ps sp)(hr:fF k X.A)(hb:kA X.K fd ps ds)(hd:ea dvs ds)(hx:ul CX X E)(I:Inv X pins σ H s)(r:ea vs a)(h:sp (vs++dvs) H Q E):dG (model X.prog X.w) X.A (call (.ref f) a) (EP X pins σ Q) X.xe s:=by
 have r2:ea (vs++dvs) (a++ds):=r.append hd;have d:(a++ds).length=ps.length:=by rw[<- r2.length];exact F.len _ _ _ _ h
 refine wpAny_call (codeAny_mono (F.run X.A X.stack s H ⟨a,[]⟩ (a++ds) (vs++dvs) Q E hr I.env0 (hb s a I.kIn d) r2 h) fun r s' b=>?_);cases r with
 |error e=>exact hx pins σ H s e s' I b
 |ok c=>
  cases c with
  |ret u=>exact I.after b
  |next=>exact False.elim b
  |brk=>exact False.elim b
  |cont=>exact False.elim b
theorem A5 (F:k3 X.prog X.w X.K X.mg X.base CX k f fd ps sp)(hr:fF k X.A)(hg:Gl X x)(hm:X.mg x=some (.ref f))(hk:wK1 X.K (.ref f)=true)(hb:kA X.K fd ps ds)(hd:ea dvs ds)(hx:ul CX X E)
  (ha:PA X (e::es) t) (hdb:(x == ("__debug__":Str))=false:=by decide) (he:dE (e::es) X.env=(false,eval e X.env)::dE es X.env:=by rfl) (hpl:(backTo pos (dE es X.env)).any (·.1)=false:=by rfl):
  PE X (.Call (.Name x p) (e::es) [] pos) (F1 sp dvs E t):=by
 intro pins s σ H Q I h;refine wpAny_Call_Name_kw (vh I hg hm ?_ hdb);refine PySem.W.callWith_K (h₀:=X.base) I.ok.mod.kin hk (e6 (ha pos pins s σ H _ I h) fun b c ⟨vs,H1,a,r,q⟩=>⟨a.kIn,?_⟩) he hpl;exact Dy F hr hb hd hx a r q
end
section
variable{X:Cx}{CX:xy}{k:Nat}{f C:dy}{fd:dI}{ps ks:List Str}{sp:Sp}{E:XK}{x m:Str}{p pos apos kpos:Pos}{e o:Expr}{es:List Expr}{kws:List Keyword}{te ta:TE}{t tk:TA}{nm:Option Str}
variable{g:List dr->List dr->List dr}{gV:List V->List V->List V}
end
structure fX (N P:List Str)(sc:dL):Prop where
 kind:sc.kind = .function
 co:sc.isCoroutine=false
 gen:sc.isGenerator=false
 nd:N.Nodup
 pre:N.take P.length=P
 par:∀x∈P,sc.names.lookup x=some .local\/sc.names.lookup x=some .cell
 nofree:∀y∈sc.names,y.2 ≠ .free
theorem oM{kindOf:Str->Option NameKind}{x:Str}:∀{binds:List (Str×dr)} {m:Str->Option dr},(∀v,(x,v)∉binds)->bindL kindOf binds m x=m x
 |[],_,_=>rfl
 |(n,v)::r,m,h=>by
  unfold bindL;rw[oM fun w a=>h w (mC1 _ a)];split
  ·have:x≠n:=by rintro rfl;exact h v mS1
   simp[this]
  ·rfl
theorem oO{kindOf:Str->Option NameKind}{x:Str}:∀{binds:List (Str×dr)} {m:Str->Option dr},(∀v,(x,v)∉binds)->bindC kindOf binds m x=m x
 |[],_,_=>rfl
 |(n,v)::r,m,h=>by
  unfold bindC;rw[oO fun w a=>h w (mC1 _ a)];split
  ·rfl
  ·have:x≠n:=by rintro rfl;exact h v mS1
   simp[this]
theorem oN{kindOf:Str->Option NameKind}{x:Str}{v:dr}:∀ {P:List Str} {vs:List dr} {i:Nat} {m:Str->Option dr},P.Nodup->P[i]? = some x->vs[i]? = some v->kindOf x=some .local ->
  bindL kindOf (P.zip vs) m x=some v
 |[],_,_,_,_,h,_,_=>by simp at h
 |_::_,[],_,_,_,_,h,_=>by simp at h
 |p::P,w::vs,0,m,nd,h1,h2,hk=>by
  simp at h1 h2;subst h1;subst h2;show bindL kindOf ((p,w)::P.zip vs) m p=_;unfold bindL;rw[oM fun v a=>(aO.mp nd).1 (List.of_mem_zip a).1,if_pos hk];simp
 |p::P,w::vs,i+1,m,nd,h1,h2,hk=>by
  show bindL kindOf ((p,w)::P.zip vs) m x=_;unfold bindL;exact oN (i:=i) (aO.mp nd).2 (by simpa using h1) (by simpa using h2) hk
theorem oP{kindOf:Str->Option NameKind}{x:Str}{v:dr}:∀ {P:List Str} {vs:List dr} {i:Nat} {m:Str->Option dr},P.Nodup->P[i]? = some x->vs[i]? = some v->kindOf x≠some .local ->
  bindC kindOf (P.zip vs) m x=some v
 |[],_,_,_,_,h,_,_=>by simp at h
 |_::_,[],_,_,_,_,h,_=>by simp at h
 |p::P,w::vs,0,m,nd,h1,h2,hk=>by
  simp at h1 h2;subst h1;subst h2;show bindC kindOf ((p,w)::P.zip vs) m p=_;unfold bindC;rw[oO fun v a=>(aO.mp nd).1 (List.of_mem_zip a).1,if_neg hk];simp
 |p::P,w::vs,i+1,m,nd,h1,h2,hk=>by
  show bindC kindOf ((p,w)::P.zip vs) m x=_;unfold bindC;exact oP (i:=i) (aO.mp nd).2 (by simpa using h1) (by simpa using h2) hk
noncomputable def iI(N:List Str)(vs:List V):St:=vs.map some++aP (N.length-vs.length) none
noncomputable def lH(CX:xy)(P:dz)(w:dB)(K:Fg1)(mg:Str->Option dr)(base:dH)(N:List Str)(qual:Str)(scope:dL)(f:dy)(cd:dr)(A:dA)(outer:List Env)(s:dw)(H:Hp)(E:XK):Cx where
 prog:=P
 w:=w
 K:=K
 mg:=mg
 base:=base
 A:=A.deeper (envOfC qual scope s.heap.objs.size f cd)
 N:=N
 s₀:=s
 H₀:=H
 env:=envOfC qual scope s.heap.objs.size f cd
 outer:=outer
 stack:=envOfC qual scope s.heap.objs.size f cd::outer
 ex:=[]
 calm:=true
 fn:=fun _=>true
 pn:=[]
 xe:=fun e s'=>dG (model P w) (A.deeper (envOfC qual scope s.heap.objs.size f cd)) (leaving (envOfC qual scope s.heap.objs.size f cd) e) (fun _ s''=>CX outer H s E e s'') (fun e' s''=>CX outer H s E e' s'') s'
theorem sA{a:dL}{n:Nat}{x:Str}(h:a.names.lookup x=some .cell):∃c,(cellsFrom n a.names []).lookup x=some c:=by
 have q:=PySem.W.cellsFrom_some a.names n [] (.inl h);exact aQ.mp q
theorem wF{CX:xy}{P:dz}{w:dB}{K:Fg1}{mg:Str->Option dr}{base:dH}{N ps:List Str}{g:Str}{scope:dL}{f:dy}{B:dr}{A:dA}{d:List Env}{s s1:dw}{H:Hp}{E:XK}{C:List dr}{vs:List V}(S:fX N ps scope)(hd:A.handled=none)(j:Cw P w K mg base A d s H)(M:vs.length=ps.length)(r:ea vs C)(x:InCallC s s.heap.objs.size (bindL (envOfC g scope s.heap.objs.size f B).kindOf (ps.zip C) fun _=>none) (cellsFrom (s.heap.objs.size+1) scope.names []) (bindC (envOfC g scope s.heap.objs.size f B).kindOf (ps.zip C) fun _=>none) s1):
  Inv (lH CX P w K mg base N g scope f B A d s H E) [] (iI N vs) H s1:=by
 have G:ps.length<=N.length:=by have:=congrArg List.length S.pre;rw[aR]at this;lia
 obtain⟨h1,tk,rfl,F⟩:=x.done;have m:∀b:dy,b∉(lH CX P w K mg base N g scope f B A d s H E).ex:=fun b z=>absurd (show b∈([]:List dy)from z) (by simp);refine⟨⟨j.mod,S.kind,rfl,rfl,nR1 _,fun y z c h1 h2=>?_,fun y l=>?_,fun y c _ h=>?_,fun _=>hd,Around.frames_deeper j.frames,.inr ⟨rfl,rfl⟩,fun b z=>absurd z (m b),j.bs,j.bsz,fun b _ _=>m b,fun b z=>absurd z (m b),j.funs,j.frf⟩,
  rfl,j.bare,Un.kept F,⟨_,x.toInCall.ns,fun i y v h1 h2 L=>?_⟩,fun y c h=>⟨_,x.cell y c h⟩,j.hok.fresh (nR1 _),fun y c h=>?_,fun p t=>absurd (show p∈([]:List (dy×Obj))from t) (by simp),j.hok.kept F,?_⟩
 ·exact name_of_addr x.apart (PySem.mem_of_lookup h1) (PySem.mem_of_lookup h2)
 ·have l:scope.names.lookup y=some .cell\/scope.names.lookup y=some .free:=l;rcases l with l|l
  ·exact sA l
  ·exact absurd rfl (S.nofree _ (PySem.mem_of_lookup l))
 ·exact aD (x.above y c (PySem.mem_of_lookup h))
 ·have hi:i<vs.length:=by
   unfold iI at h2;by_cases hi:i<vs.length
   ·exact hi
   ·rw[gR1 (by simpa using hi)]at h2;rw[aS]at h2;split at h2<;>cases h2
  have J:vs[i]?=some v:=by
   unfold iI at h2;rw[gL1 (by simpa using hi),gP1]at h2;cases e:vs[i]? with
   |none=>rw[e]at h2;cases h2
   |some a=>rw[e]at h2;cases h2;rfl
  obtain⟨u,D,I⟩:=r.get J;have t:ps[i]?=some y:=by
   rw[<- S.pre,aT (by lia)];exact h1
  have o:ps.Nodup:=by rw[<- S.pre];exact S.nd.sublist (aU _ _)
  refine⟨u,I,?_⟩;rcases S.par y (gM1 t)with k|k
  ·exact .inl ⟨k,oN o t D k⟩
  ·obtain⟨c,e⟩:=sA (n:=s.heap.objs.size+1) k;refine .inr ⟨.inl k,c,e,?_⟩;have q:=x.cell y c e;rw[oP o t D (by show scope.names.lookup y≠_;rw[k];decide)]at q;exact q
 ·exact j.hok.fresh (aD (x.above y c (PySem.mem_of_lookup h)))
 ·unfold iI;show _=N.length;rw[lA1,lM1,lR1];lia
theorem GU{CX:xy}{P:dz}{w:dB}{K:Fg1}{mg:Str->Option dr}{base:dH}{k:Nat}{f:dy}{name c:Str}{params:Arguments}{g:List dJ}{scope:dL}{R kV m T d ct oc:dr}{L Z:Option dy}{G:Array (Option dr)}{N ps:List Str}{sp:Sp}(lk:K.lookup f=some ⟨oc,Z,.func (wF1 name c params g scope R kV m T L d ct),G⟩)(hcd:wC1 K d c=true)(S:fX N ps scope)(len:∀vs H Q E,sp vs H Q E->vs.length=ps.length)(j:∀(A:dA) (a:List Env) (s:dw) (H:Hp) (vs:List V) (Q:VK) (E:XK),fF k (A.deeper (envOfC c scope s.heap.objs.size f d))->sp vs H Q E ->
   ∃t,sO (lH CX P w K mg base N c scope f d A a s H E) g t/\t {nx:=fun _ H'=>Q .non H',rt:=Q} (iI N vs) H):
  k3 P w K mg base CX (k+1) f (wF1 name c params g scope R kV m T L d ct) ps sp:=by
 refine⟨len,fun A a s H O us vs Q E D z hb r p=>?_⟩;have hl:=len _ _ _ _ p;have M:K.In s.heap:=z.mod.kin.keeps fun b o e=>(z.bs b o e).1;have F:s.heap.NoLimit:=z.mod.nolimit.keeps fun b o e=>(z.bs b o e).1;have i:∀y∈ps.zip us,scope.names.lookup y.1=some .local\/(scope.names.lookup y.1=some .cell/\((cellsFrom (s.heap.objs.size+1) scope.names []).lookup y.1).isSome=true):=fun⟨n,v⟩ hy=>by
  rcases S.par n (List.of_mem_zip hy).1 with q|q
  ·exact .inl q
  ·exact .inr ⟨q,PySem.W.cellsFrom_some _ _ _ (.inl q)⟩
 refine codeAny_call_function D.depth (M _ _ lk) rfl S.co S.gen rfl (PySem.W.codeRec_of M hcd) (hb _ _ _ _ ?_);refine wpAny_newFunctionEnv_cells S.kind i fun X Y s1 x=>?_;subst Y;refine⟨F.keeps x.toInCall.keep,codeAny_func ?_⟩;obtain⟨t,U,hq⟩:=j A a s H vs Q E (D.deeper _) p;have I:Inv (lH CX P w K mg base N c scope f d A a s H E) [] (iI N vs) H s1:=wF S D.hd z hl r x;refine wpAny_mono (U [] s1 (iI N vs) H _ I hq) (fun W s' l=>?_) fun e s' l=>l;have B:∀{h:St} {H':Hp} {v:V} {u:dr},Inv (lH CX P w K mg base N c scope f d A a s H E) [] h H' s'->dX v u->Q v H'->CE a P w H s Q u s':=
  fun{h H' v u} J C q=>⟨v,H',J.os,J.bare,J.base,J.hok,C,q⟩
 cases W with
 |ret u=>
  obtain⟨v,h,H',J,C,q⟩:=l;exact B J C q
 |next=>
  obtain⟨h,H',J,q⟩:=l;exact B (v:=V.non) (u:=Value.none) J rfl q
 |brk=>
  obtain⟨_,_,_,q⟩:=l;exact False.elim q
 |cont=>
  obtain⟨_,_,_,q⟩:=l;exact False.elim q
end L2
namespace L2
open PySem PySem.Spec PyProof.Rows
section
variable{X:Cx}{x:Str}{p pos:Pos}{e:Expr}{es:List Expr}{t:TA}{id T:String}{r:List V->Hp->VK->Prop}
noncomputable def I1(r:List V->Hp->VK->Prop)(t:TA):TE:=fun σ H Q=>t σ H fun vs H1=>r vs H1 Q
theorem ms (hc:e0 X (.builtin id) r)(hg:Gl X x)(hm:X.mg x=none)(hv:bootBuiltins x=some (.builtin id))(ha:PA X (e::es) t)(hn:x≠"__name__":=by decide)(hdb:(x == ("__debug__":Str))=false:=by decide)
  (he:dE (e::es) X.env=(false,eval e X.env)::dE es X.env:=by rfl) (hpl:(backTo pos (dE es X.env)).any (·.1)=false:=by rfl):PE X (.Call (.Name x p) (e::es) [] pos) (I1 r t):=by
 intro pins s σ H Q I h;refine wpAny_Call_Name_kw (iQ I hg hm hv ?_ hn hdb);exact PyProof.Rows.callWith_builtin1 (e6 (ha pos pins s σ H _ I h) fun b f ⟨vs,H1,a,d,c⟩=>hc pins f σ H1 vs b Q a d c) he hpl
theorem kH (hc:e0 X (.type T) r)(hg:Gl X x)(hm:X.mg x=none)(hv:bootBuiltins x=some (.type T))(ha:PA X (e::es) t)(hn:x≠"__name__":=by decide)(hdb:(x == ("__debug__":Str))=false:=by decide)
  (he:dE (e::es) X.env=(false,eval e X.env)::dE es X.env:=by rfl) (hpl:(backTo pos (dE es X.env)).any (·.1)=false:=by rfl):PE X (.Call (.Name x p) (e::es) [] pos) (I1 r t):=by
 intro pins s σ H Q I h;refine wpAny_Call_Name_kw (iQ I hg hm hv ?_ hn hdb);exact PyProof.Rows.callWith_type1 (e6 (ha pos pins s σ H _ I h) fun b f ⟨vs,H1,a,d,c⟩=>hc pins f σ H1 vs b Q a d c) he hpl
end
end L2
namespace HT
open PySem PyProof.Rows
section
open PySem.SeqAt
open PySem.AutoSeq1 (wpAny_loadPart')
open PySem.MeetsSeq PySem.MeetsSeq2 PySem.MeetsSeq3
end
section
variable{prog:dz}{w:dB}{A:dA}{E:dr->dw->Prop}{s:dw}
theorem Cg {t b:dy}{vs ws:List dr}{Q:dr->dw->Prop}(ht:IsTup s.heap t vs.toArray)(hb:IsTup s.heap b ws.toArray)(hv:vs≠[])
  (h1:ws=[]->Q (.ref t) s) (h2:ws≠[]->Q (.ref s.heap.objs.size) {s with heap:=s.heap.push {cls:=.type "tuple",data:=.seq (vs++ws).toArray}})
  (hsz:vs.length+ws.length<=dF):dG (model prog w) A (binaryOp .Add (.ref t) (.ref b)) Q E s:=by
 obtain⟨⟨cls,dd,data,sl⟩,i,hc,n,k⟩:=id ht;obtain⟨⟨l,d,j,g⟩,a,f,m,c⟩:=id hb;simp only at hc k f c;subst hc k f c;have e:vs.toArray++ws.toArray=(vs++ws).toArray:=by simp
 by_cases h:ws=[]
 ·exact concat_meets ⟨_,i,rfl⟩ ⟨_,a,rfl⟩ noFill_tuple_add seq_tuple_add PySem.F.slot_tuple_add PySem.F.entry_tuple_add (PySem.F.args_tuple_add_2 _ _)
   (tuple_addW1 t b vs.toArray ws.toArray n m dd d sl g (by simpa using hv) (by simp[h])) ⟨i,a,h1 h⟩
 ·refine concat_meets ⟨_,i,rfl⟩ ⟨_,a,rfl⟩ noFill_tuple_add seq_tuple_add PySem.F.slot_tuple_add PySem.F.entry_tuple_add (PySem.F.args_tuple_add_2 _ _)
   (tuple_addW2 t b vs.toArray ws.toArray n m dd d sl g (by simpa using hv) (by simpa using h) (by rw[sT1,sT1];exact hsz)) ⟨i,a,?_⟩
  rw[e];exact h2 h
noncomputable def sIx(n d:Nat):Option Int->Nat
 |none=>d
 |some v=>if v<0 then(v+(n:Int)).toNat else min v.toNat n
theorem yc(n d:Nat):sIx n d none=d:=rfl
theorem AI(n d k:Nat):sIx n d (some (k:Int))=min k n:=by
 show(if(k:Int)<0 then((k:Int)+(n:Int)).toNat else min (k:Int).toNat n)=min k n;rw[if_neg (by lia),Int.toNat_natCast]
theorem Dx(n d:Nat)(hd:d<=n)(o:Option Int):sIx n d o<=n:=by
 cases o with
 |none=>exact hd
 |some v=>
  show(if v<0 then(v+(n:Int)).toNat else min v.toNat n)<=n;by_cases a:v<0
  ·rw[if_pos a];lia
  ·rw[if_neg a];exact Nat.min_le_right _ _
theorem vM(v:Int)(n d:Nat):(if v<0 then max (v+(n:Int)) 0 else min v (n:Int))=((sIx n d (some v):Nat):Int):=by
 show(if v<0 then max (v+(n:Int)) 0 else min v (n:Int))=(((if v<0 then(v+(n:Int)).toNat else min v.toNat n):Nat):Int);by_cases a:v<0
 ·simp only[if_pos a];lia
 ·simp only[if_neg a];lia
theorem uh(lo hi:Option Int)(n:Nat):Builtin.Slice.sliceAdjust lo hi 1 (n:Int)=(((sIx n 0 lo:Nat):Int),((sIx n n hi:Nat):Int)):=by
 have h1:¬ ((1:Int)<0):=by lia
 unfold Builtin.Slice.sliceAdjust;simp only[h1,if_false];refine Prod.ext ?_ ?_
 ·cases lo with
  |none=>rfl
  |some v=>exact vM v n 0
 ·cases hi with
  |none=>rfl
  |some v=>exact vM v n n
theorem tE(i j:Nat):Builtin.Slice.slicePlaces (i:Int) (j:Int) 1=j-i:=by
 unfold Builtin.Slice.slicePlaces;have h1:(1:Int)>0:=by lia
 simp only[h1,if_true,Int.ediv_one];split<;>lia
theorem l7{v:dr}{o:Option Int}{Q:Option Int->dw->Prop}(p:IsPart v o)(h:Q o s):dG (model prog w) A (Builtin.Slice.slicePartIndex v) Q E s:=by
 cases p with
 |none=>exact slicePart_none h
 |int i t=>exact slicePart_int h
theorem gY{sl:dy}{c vu:dr}{lo hi:Option Int}{n:Nat}{Q:Int×Int×Nat->dw->Prop}(hs:s.heap.IsSliceOf sl c vu .none)(pl:IsPart c lo)(e:IsPart vu hi)(h:Q (((sIx n 0 lo:Nat):Int),1,sIx n n hi-sIx n 0 lo) s):dG (model prog w) A (Builtin.Slice.sliceApplied (.ref sl) (pure (n:Int))) Q E s:=by
 obtain⟨f,b,d,a⟩:=id hs;unfold Builtin.Slice.sliceApplied Builtin.Slice.sliceFields;refine wB1 (wB1 (wpAny_field b a (x:=c) rfl (wB1 (wpAny_field b a (x:=vu) rfl (wB1 (wpAny_field b a (x:=.none) rfl (wP1 ?_)))))));refine wB1 (slicePart_none ?_);show dG _ _ (if((1:Int) == 0)=true then _ else _) _ _ s;rw[if_neg (by decide)];refine wB1 (l7 pl (wB1 (l7 e (wB1 (wP1 ?_)))));show dG _ _ (match Builtin.Slice.sliceAdjust lo hi 1 (n:Int)with|(lo,hi)=>pure (lo,(1:Int),Builtin.Slice.slicePlaces lo hi 1)) _ _ s;rw[uh lo hi n];show dG _ _ (pure (((sIx n 0 lo:Nat):Int),(1:Int),Builtin.Slice.slicePlaces ((sIx n 0 lo:Nat):Int) ((sIx n n hi:Nat):Int) 1)) _ _ s;rw[tE];exact wP1 h
theorem yz(xs:Array dr)(i k:Nat):((List.range k).filterMap fun(m:Nat)=>xs[((i:Int)+(m:Int)*1).toNat]?).toArray=((xs.toList.drop i).take k).toArray:=by
 have e:(fun(m:Nat)=>xs[((i:Int)+(m:Int)*1).toNat]?)=fun m=>xs[i+m]?:=by
  funext m
  have:((i:Int)+(m:Int)*1).toNat=i+m:=by lia
  rw[this]
 rw[e];have:=pick_run xs i k;rw[List.filterMap_map]at this;have a:((fun x=>xs[x]?)∘fun x=>i+x)=fun m=>xs[i+m]?:=rfl;rw[a]at this;rw[this]
theorem ke {t sl:dy}{items:Array dr}{f vu:dr}{lo hi:Option Int}{Q:dr->dw->Prop}(ht:IsTup s.heap t items)(hs:s.heap.IsSliceOf sl f vu .none)(pl:IsPart f lo)(i:IsPart vu hi)
  (hw:¬ (sIx items.size 0 lo=0/\sIx items.size items.size hi=items.size))
  (h:Q (.ref s.heap.objs.size) {s with heap:=s.heap.push {cls:=.type "tuple",data:=.seq ((items.toList.drop (sIx items.size 0 lo)).take (sIx items.size items.size hi-sIx items.size 0 lo)).toArray}})
  (hsz:items.size<=dF):dG (model prog w) A (getItem (.ref t) (.ref sl)) Q E s:=by
 have a:sizeOk (.seq ((items.toList.drop (sIx items.size 0 lo)).take (sIx items.size items.size hi-sIx items.size 0 lo)).toArray):=by
  show((items.toList.drop (sIx items.size 0 lo)).take (sIx items.size items.size hi-sIx items.size 0 lo)).toArray.size<=dF;rw[sT1,aR,aV,aJ];omega
 have l:sIx items.size items.size hi<=items.size:=Dx _ _ (nR1 _) hi;obtain⟨j,e,c,g⟩:=id hs;have d:s.TypeIs (.ref sl) "slice":=⟨j,e,c⟩;unfold getItem
 try with_reducible refine wpAny_holding ?_
 first|refine wB1 (wP1 ?_)|skip
 refine wB1 (wpAny_sequenceKey ht.typeIs (by decide) ?_);refine wB1 (wpAny_callSpecial?_slot (name:=Str.ofString "__getitem__") ht.typeIs PyProof.Rows.slot_tuple_getitem
  (wE1 PyProof.Rows.slot_tuple_getitem ht.typeIs entry_tuple_getitem ?_ (args_tuple_getitem _ _)))
 show dG _ _ (Builtin.Tuple.tupleItemsOf (.ref t) >>= _) _ _ s;refine wB1 (tupleItemsOf_ ht ?_);refine wB1 (wpAny_typeOf d ?_);rw[if_pos (by decide)];refine wB1 (gY hs pl i ?_);have b:¬ ((((sIx items.size 0 lo:Nat):Int) == 0&&(1:Int) == 1&&(sIx items.size items.size hi-sIx items.size 0 lo) == items.size)=true):=by
  intro q;rw[bA1,bA1]at q;have n:((sIx items.size 0 lo:Nat):Int)=0:=eq_of_beq q.1.1;have k:sIx items.size items.size hi-sIx items.size 0 lo=items.size:=eq_of_beq q.2;exact hw ⟨by omega,by omega⟩
 show dG _ _ (if(((sIx items.size 0 lo:Nat):Int) == 0&&(1:Int) == 1&&(sIx items.size items.size hi-sIx items.size 0 lo) == items.size)=true then _ else _) _ _ s;rw[if_neg b,yz]
 first
  |exact wB1 (m:=Builtin.Tuple.tupleExact _) (wO1 (wP1 ⟨_,rfl,wP1 h⟩) a)
  |exact wB1 (m:=Builtin.Tuple.tupleExact _) (wO1 (wB1 (wP1 (wP1 ⟨_,rfl,wP1 h⟩))) a)
  |exact wB1 (wB1 (m:=Builtin.Tuple.tupleExact _) (wO1 (wP1 (wP1 ⟨_,rfl,wP1 h⟩)) a))
  |exact wB1 (wB1 (m:=Builtin.Tuple.tupleExact _) (wO1 (wP1 ⟨_,rfl,wP1 h⟩) a))
end
end HT
namespace L2
open PySem PySem.Spec PyProof.Rows
abbrev TO:=St->Hp->(Option Int->Hp->Prop)->Prop
noncomputable def PO(X:Cx)(e:Option Expr)(t:TO):Prop:=
 ∀(pins:List (dy×Obj)) (s:dw) (σ:St) (H:Hp) (Q:Option Int->Hp->Prop),Inv X pins σ H s->t σ H Q ->
  dG (model X.prog X.w) X.A (evalPart e X.env) (fun u s'=>∃o H',Inv X pins σ H' s'/\IsPart u o/\Q o H') X.xe s
noncomputable def AD:TO:=fun _ H Q=>Q none H
noncomputable def FQ(t:TE):TO:=fun σ H Q=>t σ H fun x H1=>∃i,x = .int i/\Q (some i) H1
section
variable{X:Cx}{e:Expr}{te:TE}{lo hi:Option Expr}{tl th:TO}{pos p2:Pos}
theorem AX:PO X none AD:=by
 intro pins s σ H Q I h;rw[evalPart_none];exact wP1 ⟨none,H,I,.none,h⟩
theorem AW(h:PE X e te):PO X (some e) (FQ te):=by
 intro pins s σ H Q I a;rw[evalPart_some];refine e6 (h pins s σ H _ I a) fun u f ⟨x,H1,b,d,c⟩=>?_;obtain⟨i,rfl,q⟩:=c;obtain⟨t,rfl⟩:=d;exact⟨some i,H1,b,.int i t,q⟩
noncomputable def Ap(X:Cx)(r:V->Option Int->Option Int->Hp->VK->Prop):Prop:=
 ∀(pins:List (dy×Obj)) (s:dw) (σ:St) (H:Hp) (x:V) (v vl vu:dr) (lo hi:Option Int) (sl:dy) (Q:VK),Inv X pins σ H s->dX x v->s.heap.IsSliceOf sl vl vu .none->IsPart vl lo->IsPart vu hi->r x lo hi H Q ->
  ∃T id,typeLookup (.type T) "__getitem__"=pure (some (.builtin id))/\s.TypeIs v T/\dG (model X.prog X.w) X.A (getItem v (.ref sl)) (EP X pins σ Q) X.xe s
theorem Ap.or{r e:V->Option Int->Option Int->Hp->VK->Prop}(h:Ap X r)(h':Ap X e):Ap X (fun x lo hi H Q=>r x lo hi H Q\/e x lo hi H Q):=by
 intro pins s σ H x v d vu lo hi sl Q I c a pl b q;rcases q with q|q
 ·exact h pins s σ H x v d vu lo hi sl Q I c a pl b q
 ·exact h' pins s σ H x v d vu lo hi sl Q I c a pl b q
noncomputable def Jv(r:V->Option Int->Option Int->Hp->VK->Prop)(te:TE)(tl th:TO):TE:=fun σ H Q=>te σ H fun x H1=>tl σ H1 fun l H2=>th σ H2 fun u H3=>r x l u H3 Q
theorem yC{r:V->Option Int->Option Int->Hp->VK->Prop}(hr:Ap X r)(he:PE X e te)(p:PO X lo tl)(z:PO X hi th):PE X (.Subscript e (.Slice lo hi none p2) pos) (Jv r te tl th):=by
 intro pins s σ H Q I h;refine Subscript_ (e6 (he pins s σ H _ I h) fun v C ⟨x,H1,o,B,A⟩=>?_);refine wpAny_Slice (e6 (p pins C σ H1 _ o A) fun c w ⟨l,H2,k,pl,f⟩=>e6 (z pins w σ H2 _ k f) fun vu a ⟨u,d,y,j,i⟩=>?_);rw[evalPart_none];refine wP1 ?_;have t:Inv X pins σ d {a with heap:=a.heap.push {cls:=.type "slice",data:=.fields #[c,vu,.none]}}:=y.kept (t':=a.toks) fun b D q=>hP1 _ q;obtain⟨T,id,n,g,m⟩:=hr pins {a with heap:=a.heap.push {cls:=.type "slice",data:=.fields #[c,vu,.none]}} σ d x v c vu l u a.heap.objs.size Q t B (Heap.IsSliceOf.new ..) pl j i;show dG (model X.prog X.w) X.A (subscriptTail e (.Slice lo hi none p2) v (.ref a.heap.objs.size)) (EP X pins σ Q) X.xe {a with heap:=a.heap.push {cls:=.type "slice",data:=.fields #[c,vu,.none]}};exact tail_any (ops:=[.ref a.heap.objs.size,v]) g n m (by with_unfolding_all rfl)
noncomputable def sw(xs:List V)(lo hi:Option Int):List V:=(xs.drop (HT.sIx xs.length 0 lo)).take (HT.sIx xs.length xs.length hi-HT.sIx xs.length 0 lo)
theorem lA(xs:List V)(lo hi:Option Int):(sw xs lo hi).length<=xs.length:=by
 unfold sw;rw[aR,aV];lia
noncomputable def Ik(K:Fg1):V->Option Int->Option Int->Hp->VK->Prop:=fun x lo hi H Q=>∃a xs,x = .ref a/\jA K H a xs /\
 ¬ (HT.sIx xs.length 0 lo=0/\HT.sIx xs.length xs.length hi=xs.length) /\ ∀p,H p=none->Q (.ref p) (upd H p (.tup (sw xs lo hi)))
theorem Ds:Ap X (Ik X.K):=by
 intro pins s σ H x v n vu lo hi sl Q I k g pl j h;obtain⟨a,xs,rfl,l,i,q⟩:=h;cases k;obtain⟨d,r,f,e⟩:=I.tuple l;have c:d.toArray.size=xs.length:=by rw[sT1];exact r.length.symm
 refine⟨"tuple",_,PyProof.Rows.slot_tuple_getitem.lookup,f.typeIs,?_⟩;refine HT.ke f g pl j (by rw[c];exact i) ?_ (by rw[c];exact e);rw[c];refine⟨.ref s.heap.objs.size,_,I.laid (t':=s.toks) (o:=.tup (sw xs lo hi)) (fun b m q=>hP1 _ q) (nR1 _) ?_,rfl,q _ (I.hok.fresh (nR1 _))⟩;exact⟨aC (lA xs lo hi) e,_,(r.drop (HT.sIx xs.length 0 lo)).take (HT.sIx xs.length xs.length hi-HT.sIx xs.length 0 lo),IsTup.new _ _⟩
noncomputable def F9(K:Fg1):R2:=fun x y H Q=>∃a b xs ys,x = .ref a/\y = .ref b/\jA K H a xs/\jA K H b ys/\xs≠[]/\xs.length+ys.length<=dF /\
 (ys=[]->Q (.ref a) H)/\(ys≠[] -> ∀p,H p=none->Q (.ref p) (upd H p (.tup (xs++ys))))
theorem ea.nil_iff{xs:List V}{a:List dr}(r:ea xs a):a=[]↔xs=[]:=by
 cases r with
 |nil=>simp
 |cons _ _=>simp
theorem A9:gh X (binaryOp .Add) (F9 X.K):=by
 intro pins s σ H x y v u Q I l f h;obtain⟨a,b,xs,ys,rfl,rfl,j,g,p,d,m,i⟩:=h;cases l;cases f;obtain⟨k,c,n,_⟩:=I.tuple j;obtain⟨e,r2,p2,_⟩:=I.tuple g;refine HT.Cg n p2 (fun z=>p (c.nil_iff.mp z)) (fun z=>⟨.ref a,H,I,rfl,m (r2.nil_iff.mp z)⟩) (fun z=>?_) (by rw[<- c.length,<- r2.length];exact d);refine⟨.ref s.heap.objs.size,_,I.laid (t':=s.toks) (o:=.tup (xs++ys)) (fun b r q=>hP1 _ q) (nR1 _) ?_,rfl,i (fun w=>z (r2.nil_iff.mpr w)) _ (I.hok.fresh (nR1 _))⟩;exact⟨by rw[lA1];exact d,_,c.append r2,IsTup.new _ _⟩
end
end L2
namespace L2
open PySem PySem.Spec PyProof.Rows
noncomputable def vo(n:Nat)(i:Int):Option Nat:=if 0<=i then(if i<n then some i.toNat else none)else if-(n:Int)<=i then some (i+n).toNat else none
noncomputable def sM{α:Type}(xs:List α)(i:Int):Option α:=(vo xs.length i).bind fun j=>xs[j]?
theorem pU{n:Nat}{i:Int}{j:Nat}(h:vo n i=some j):seqIndex? i n=some j/\j<n /\ -(n:Int)<=i/\i<n:=by
 unfold vo at h;by_cases a:0<=i
 ·rw[if_pos a]at h;by_cases h1:i<n
  ·rw[if_pos h1]at h;have e:i.toNat=j:=Option.some.inj h;exact⟨by rw[seqIndex_of a h1,e],by lia,by lia,h1⟩
  ·rw[if_neg h1]at h;cases h
 ·rw[if_neg a]at h;by_cases h1: -(n:Int)<=i
  ·rw[if_pos h1]at h;have e:(i+n).toNat=j:=Option.some.inj h;exact⟨by rw[seqIndex_neg (by lia) h1,e],by lia,h1,by lia⟩
  ·rw[if_neg h1]at h;cases h
theorem vV{α:Type}{xs:List α}{i:Int}{v:α}(h:sM xs i=some v):∃j,seqIndex? i xs.length=some j/\xs[j]?=some v/\j<xs.length /\ -(xs.length:Int)<=i/\i<xs.length:=by
 unfold sM at h;cases e:vo xs.length i with
 |none=>rw[e]at h;cases h
 |some j=>
  rw[e]at h;obtain⟨h1,h2,b,a⟩:=pU e;exact⟨j,h1,h,h2,b,a⟩
noncomputable def lU(b:Expr):Prop:=∀o i,subscripted b false o i=operate [o,i] (getItem o i)
noncomputable def C0(X:Cx)(r:R2):Prop:=
 ∀(value slice:Expr) (pins:List (dy×Obj)) (s:dw) (σ:St) (H:Hp) (x y:V) (v u:dr) (Q:VK),Inv X pins σ H s->dX x v->dX y u->r x y H Q ->
  subscripted slice false v u=operate [v,u] (getItem v u)->dG (model X.prog X.w) X.A (subscriptTail value slice v u) (EP X pins σ Q) X.xe s
noncomputable def CZ(X:Cx)(id:String)(r:V->List V->Hp->VK->Prop):Prop:=
 ∀(pins:List (dy×Obj)) (s:dw) (σ:St) (H:Hp) (x:V) (xs:List V) (v:dr) (us:List dr) (Q:VK),Inv X pins σ H s->dX x v->ea xs us->r x xs H Q ->
  dG (model X.prog X.w) X.A (call (.builtin id) (v::us)) (EP X pins σ Q) X.xe s
section
variable{X:Cx}{a b:Expr}{ta tb:TE}{pos:Pos}
theorem Gf{r:R2}(hr:C0 X r)(ha:PE X a ta)(hb:PE X b tb)(hs:lU b):PE X (.Subscript a b pos) (FR r ta tb):=by
 intro pins s σ H Q I h;exact Subscript_ (Fd ha hb I h fun v u d x y H2 f c e q=>hr a b pins d σ H2 x y v u Q f c e q (hs _ _))
noncomputable def Io(K:Fg1):R2:=fun x y H Q=>∃p xs i v,x = .ref p/\y = .int i/\lJ K H p xs/\sM xs i=some v/\Q v H
noncomputable def Im(K:Fg1):R2:=fun x y H Q=>∃p xs i v,x = .ref p/\y = .int i/\jA K H p xs/\sM xs i=some v/\Q v H
theorem BM:C0 X (Io X.K):=by
 intro value d pins s σ H x y v u Q I A l h f;obtain⟨p,xs,i,z,rfl,rfl,m,C,q⟩:=h;cases A;obtain⟨t,rfl⟩:=l;obtain⟨c,r,pl,D⟩:=I.list m;obtain⟨j,h1,h2,E,o,B⟩:=vV C;obtain⟨w,k,e⟩:=r.get h2;have n:=r.length;have F:=kN;have a:EP X pins σ Q w s:=⟨z,H,I,e,q⟩;by_cases g:0<=i
 ·have b:i.toNat=j:=by
   rw[seqIndex_of g B]at h1;exact Option.some.inj h1
  exact item_listR pl.isList g (by lia) (by rw[b];simpa using k) a f
 ·have b:(i+(c.toArray.size:Int)).toNat=j:=by
   rw[seqIndex_neg (by lia) o]at h1;rw[sT1,<- n];exact Option.some.inj h1
  exact subscriptTail_builtinR (x:=w) pl.isList.typeIs slot_list_getitem.lookup
   (wpAny_getItem_list_neg (Q:=fun r s'=>r=w/\EP X pins σ Q r s') pl.isList (by lia) (by rw[sT1]<;>lia) (by lia) (by rw[b];simpa using k) ⟨rfl,a⟩) f
theorem EW:C0 X (Im X.K):=by
 intro value b pins s σ H x y v u Q I l e h d;obtain⟨p,xs,i,z,rfl,rfl,f,m,q⟩:=h;cases l;obtain⟨t,rfl⟩:=e;obtain⟨g,r,pl,o⟩:=I.tuple f;obtain⟨j,h1,h2,A,B,D⟩:=vV m;obtain⟨w,n,c⟩:=r.get h2;have k:=r.length;have C:=kN;have a:EP X pins σ Q w s:=⟨z,H,I,c,q⟩;exact subscriptTail_builtinR (x:=w) pl.typeIs slot_tuple_getitem.lookup
  (getItem_tuple (j:=j) (Q:=fun r s'=>r=w/\EP X pins σ Q r s') pl (by lia) (by lia) (by rw[sT1,<- k];exact h1) (by simpa using n) ⟨rfl,a⟩) d
theorem tP(its:List dr)(n j:Nat)(u:dr):Obj.mapSeq (·.setIfInBounds j u) {cls:=.type "list",data:=.seq its.toArray n}={cls:=.type "list",data:=.seq (its.set j u).toArray n}:=by
 simp[Obj.mapSeq]
theorem Inv.lst{pins:List (dy×Obj)}{σ:St}{H:Hp}{s:dw}{p:dy}{xs:List V}(I:Inv X pins σ H s)(h:H p=some (.lst xs)):
  ∃(its:List dr) (n:Nat),ea xs its/\s.heap.get? p=some {cls:=.type "list",data:=.seq its.toArray n}/\xs.length<=dF:=by
 obtain⟨z,its,n,r,e⟩:=I.hok p _ h;exact⟨its,n,r,e,z⟩
theorem Inv.lstUpd {pins:List (dy×Obj)}{σ:St}{H:Hp}{s:dw}{p:dy}{xs ys:List V}{its its':List dr}{n a:Nat}{f:Obj->Obj}(I:Inv X pins σ H s)(h:H p=some (.lst xs))
  (ho:s.heap.get? p=some {cls:=.type "list",data:=.seq its.toArray n}) (hf:f {cls:=.type "list",data:=.seq its.toArray n}={cls:=.type "list",data:=.seq its'.toArray a}) (r:ea ys its') (c:ys.length<=dF) (t:Nat):
  Inv X pins σ (upd H p (.lst ys)) {s with heap:=s.heap.update p f,toks:=t}:=by
 have e:(s.heap.update p f).get? p=some {cls:=.type "list",data:=.seq its'.toArray a}:=by
  rw[hW1 f ho (by rw[hf]<;>rfl),hf]
 refine I.write (x:=p) (e:=p) (by rw[h];trivial) (.inl rfl) (fun b u d q=>(Heap.get?_update_other _ _ (Ne.symm d)).trans q) ⟨_,e⟩ ?_;exact⟨c,its',a,r,e⟩
noncomputable def F8:V->V->V->Hp->(Hp->Prop)->Prop:=fun o i v H Q=>∃p xs k j,o = .ref p/\i = .int k/\H p=some (.lst xs)/\vo xs.length k=some j/\Q (upd H p (.lst (xs.set j v)))
theorem x9:um X F8:=by
 intro pins s σ H o i v D B u Q I x A z h;obtain⟨p,xs,k,j,rfl,rfl,l,y,q⟩:=h;cases x;obtain⟨t,rfl⟩:=A;obtain⟨a,n,r,c,w⟩:=I.lst l;obtain⟨h1,h2,e,f⟩:=pU y;have b:=r.length;have C:=kN;have g:Inv X pins σ (upd H p (.lst (xs.set j v))) {s with heap:=s.heap.update p (Obj.mapSeq (·.setIfInBounds j u))}:=
  I.lstUpd l c (tP a n j u) (r.set z j) (by rw[aW];exact w) s.toks
 by_cases m:0<=k
 ·have d:k.toNat=j:=by
   rw[seqIndex_of m f]at h1;exact Option.some.inj h1
  exact PySem.W.ki_setAt c m (by lia) (by rw[sT1,<- b];exact f) (by rw[d];exact⟨_,g,q⟩)
 ·have d:(k+(a.toArray.size:Int)).toNat=j:=by
   rw[seqIndex_neg (by lia) e]at h1;rw[sT1,<- b];exact Option.some.inj h1
  exact PySem.W.ki_setBack c (by lia) (by rw[sT1,<- b];exact e) (by lia) (by rw[d];exact⟨_,g,q⟩)
theorem pu(lo hi:Option Int)(n:Nat):(sliceBounds lo hi none n).1=((HT.sIx n 0 lo:Nat):Int)/\(sliceBounds lo hi none n).2.1=((HT.sIx n n hi:Nat):Int)/\(sliceBounds lo hi none n).2.2=1:=by
 refine⟨?_,?_,rfl⟩
 ·cases lo with
  |none=>simp[sliceBounds,HT.sIx]
  |some i=>
   simp only[sliceBounds,HT.sIx,Option.getD_none,show(1:Int)>0 by decide,if_true];by_cases h:i<0
   ·simp only[h,if_true]<;>lia
   ·simp only[h,if_false]<;>lia
 ·cases hi with
  |none=>simp[sliceBounds,HT.sIx]
  |some i=>
   simp only[sliceBounds,HT.sIx,Option.getD_none,show(1:Int)>0 by decide,if_true];by_cases h:i<0
   ·simp only[h,if_true]<;>lia
   ·simp only[h,if_false]<;>lia
theorem nt(its:List dr)(lo hi:Option Int):slicePick its.toArray lo hi none=((its.drop (HT.sIx its.length 0 lo)).take (HT.sIx its.length its.length hi-HT.sIx its.length 0 lo)).toArray:=by
 obtain⟨h1,h2,a⟩:=pu lo hi its.toArray.size;unfold slicePick;rw[h1,h2,a];simp only[sliceRange_one,pick_run,sT1]<;>rfl
noncomputable def Il(K:Fg1):V->Option Int->Option Int->Hp->VK->Prop:=fun x lo hi H Q=>∃a xs,x = .ref a/\lJ K H a xs /\ ∀p,H p=none->Q (.ref p) (upd H p (.lst (sw xs lo hi)))
theorem AG:Ap X (Il X.K):=by
 intro pins s σ H x v m vu lo hi sl Q I j f pl g h;obtain⟨a,xs,rfl,k,q⟩:=h;cases j;obtain⟨i,r,d,e⟩:=I.list k;have c:=r.length;refine⟨"list",_,slot_list_getitem.lookup,d.isList.typeIs,?_⟩;refine wpAny_getItem_list_slice d.isList f pl g .none (by simp) ?_ (by rw[sT1]<;>lia);rw[nt,<- c];refine⟨.ref s.heap.objs.size,_,I.laid (t':=s.toks) (o:=.lst (sw xs lo hi)) (fun b l q=>hP1 _ q) (nR1 _) ?_,rfl,q _ (I.hok.fresh (nR1 _))⟩;exact⟨aC (lA xs lo hi) e,_,0,(r.drop (HT.sIx xs.length 0 lo)).take (HT.sIx xs.length xs.length hi-HT.sIx xs.length 0 lo),hS1 _ rfl⟩
noncomputable def iA:V->Bool
 | .non=>true
 | .bl _=>true
 | .int _=>true
 | .str _=>true
 |_=>false
noncomputable def sL:V->V->Bool
 | .non,.non=>true
 | .bl a,.bl b=>a == b
 | .bl a,.int b=>(if a then 1 else 0) == b
 | .int a,.bl b=>a == (if b then 1 else 0)
 | .int a,.int b=>a == b
 | .str a,.str b=>a == b
 |_,_=>false
theorem jx{A:dA}{s:dw}{y x:V}{u v:dr}(e:dX y u)(c:dX x v)(g:iA y=true)(f:iA x=true):SeqAt.EqAt A s u v (sL y x):=by
 cases y with
 |non=>
  cases e;cases x with
  |non=>cases c;exact SeqAt.EqAt.same _
  |bl b=>cases c;exact SeqAt.EqAt.none_bool b
  |int b=>obtain⟨t,rfl⟩:=c;exact SeqAt.EqAt.none_int b t
  |str b=>obtain⟨t,rfl⟩:=c;exact SeqAt.EqAt.none_str b t
  |_=>exact absurd (show false=true from f) aK
 |bl a=>
  cases e;cases x with
  |non=>cases c;exact SeqAt.EqAt.bool_none a
  |bl b=>cases c;exact SeqAt.EqAt.bool_bool a b
  |int b=>obtain⟨t,rfl⟩:=c;exact SeqAt.EqAt.bool_int a b t
  |str b=>obtain⟨t,rfl⟩:=c;exact SeqAt.EqAt.bool_str a b t
  |_=>exact absurd (show false=true from f) aK
 |int a=>
  obtain⟨d,rfl⟩:=e;cases x with
  |non=>cases c;exact SeqAt.EqAt.int_none a d
  |bl b=>cases c;exact SeqAt.EqAt.int_bool a d b
  |int b=>obtain⟨t,rfl⟩:=c;exact SeqAt.EqAt.int_int a d b t
  |str b=>obtain⟨t,rfl⟩:=c;exact SeqAt.EqAt.int_str a d b t
  |_=>exact absurd (show false=true from f) aK
 |str a=>
  obtain⟨d,rfl⟩:=e;cases x with
  |non=>cases c;exact SeqAt.EqAt.str_none a d
  |bl b=>cases c;exact SeqAt.EqAt.str_bool a d b
  |int b=>obtain⟨t,rfl⟩:=c;exact SeqAt.EqAt.str_int a d b t
  |str b=>obtain⟨t,rfl⟩:=c;exact SeqAt.EqAt.str_str a d b t
  |_=>exact absurd (show false=true from f) aK
 |_=>exact absurd (show false=true from g) aK
theorem qj:e0 X (.builtin "len") (fun xs H Q=>∃p ys,xs=[.ref p]/\(lJ X.K H p ys\/jA X.K H p ys)/\Q (.int ys.length) H):=by
 intro pins s σ H xs g Q I r h;obtain⟨p,ys,rfl,b,q⟩:=h;obtain⟨u,rfl,f⟩:=iG r;cases f;have i:=kN;rcases b with b|b
 ·obtain⟨c,d,pl,e⟩:=I.list b;have a:=d.length;exact Calls.call_len_list pl.isList (by simp only[sT1]<;>lia) ⟨.int ys.length,H,I.tok _,⟨s.toks+1,by rw[sT1,a]⟩,q⟩
 ·obtain⟨c,d,pl,e⟩:=I.tuple b;have a:=d.length;exact len_tuple pl (by simp only[sT1]<;>lia) ⟨.int ys.length,H,I.tok _,⟨s.toks+1,by rw[sT1,a]⟩,q⟩
theorem qi:e0 X (.builtin "len") (fun xs H Q=>∃z,xs=[.str z]/\z.length<=dF/\Q (.int z.length) H):=by
 intro pins s σ H xs c Q I r h;obtain⟨z,rfl,a,q⟩:=h;obtain⟨u,rfl,t,rfl⟩:=iG r;have b:=kN;exact len_str (by lia) ⟨.int z.length,H,I.tok _,⟨_,rfl⟩,q⟩
theorem nJ:e0 X (.type "tuple") (fun xs H Q=>∃p ys,xs=[.ref p]/\((lJ X.K H p ys /\ ∀l,H l=none->Q (.ref l) (upd H l (.tup ys)))\/(jA X.K H p ys/\Q (.ref p) H))):=by
 intro pins s σ H xs n Q I r h;obtain⟨p,ys,rfl,h⟩:=h;obtain⟨u,rfl,m⟩:=iG r;cases m;rcases h with⟨c,q⟩|⟨c,q⟩
 ·obtain ⟨a,d,pl,f⟩:=I.list c;have i:=d.length;refine call_tuple_list pl.isList (fun h' k=>?_) (by simp only [sT1]<;>lia);have g:Inv X pins σ H {s with heap:=h'}:=I.kept (t':=s.toks) k;have j:Inv X pins σ (upd H h'.objs.size (.tup ys)) {s with heap:=h'.push {cls:=.type "tuple",data:=.seq a.toArray}}:=
   g.laid (t':=s.toks) (fun b o e=>hP1 _ e) (nR1 _) (show ew X.prog X.w _ _ _ (.tup ys)from⟨f,a,d,IsTup.new _ _⟩)
  exact⟨.ref h'.objs.size,_,j,rfl,q _ (g.hok.fresh (nR1 _))⟩
 ·obtain⟨a,d,pl,f⟩:=I.tuple c;exact call_tuple_same pl ⟨.ref p,H,I,rfl,q⟩
noncomputable def IY(K:Fg1)(T:String)(x:V)(H:Hp):Prop:=match x with
 | .str _=>T="str"
 | .int _=>T="int"
 | .ref p=>(T="list" /\ ∃ xs,lJ K H p xs)\/(T="tuple" /\ ∃ o,K.lookup p=some o/\o.cls = .type "tuple"/\o.dict=none) \/
   (T="dict"/\((∃kvs,H p=some (.dK kvs)) \/ ∃kvs,H p=some (.dT kvs)))\/(T="set" /\ ∃S n,H p=some (.set S n))
 |_=>False
theorem Da{pins:List (dy×Obj)}{σ:St}{H:Hp}{s:dw}{T:String}{x:V}{v:dr}(I:Inv X pins σ H s)(r:dX x v)(ty:IY X.K T x H):
  s.TypeIs v T /\ ∀a,v = .ref a -> ∃g,s.heap.get? a=some g/\g.dict=none:=by
 cases x with
 |str z=>
  obtain⟨t,rfl⟩:=r;cases(show T="str" from ty);exact⟨typeIs_str s z t,fun _ e=>nomatch e⟩
 |int i=>
  obtain⟨t,rfl⟩:=r;cases(show T="int" from ty);exact⟨typeIs_int s i t,fun _ e=>nomatch e⟩
 |ref p=>
  cases r;rcases ty with⟨rfl,xs,h⟩|⟨rfl,o,b,hc,d⟩|⟨rfl,b⟩|⟨rfl,S,n,b⟩
  ·obtain⟨j,_,pl,_⟩:=I.list h;refine⟨pl.isList.typeIs,fun a e=>?_⟩;cases e;obtain⟨o,n,e,c,d,_⟩:=pl;exact⟨o,e,d⟩
  ·refine⟨⟨o,I.kIn p o b,hc⟩,fun a e=>?_⟩;cases e;exact⟨o,I.kIn _ o b,d⟩
  ·have z:∃ o,s.heap.get? p=some o/\o.ExactDict:=by
    rcases b with⟨kvs,b⟩|⟨kvs,b⟩
    ·obtain⟨_,_,_,_,o,_,_,e,ex,_⟩:=I.hok p _ b;exact⟨o,e,ex⟩
    ·obtain⟨_,_,_,_,o,_,_,e,ex,_⟩:=I.hok p _ b;exact⟨o,e,ex⟩
   obtain⟨o,e,ex⟩:=z;refine⟨⟨o,e,ex.1⟩,fun a f=>?_⟩;cases f;exact⟨o,e,ex.2.1⟩
  ·obtain⟨o,_,_,_,e,ex,_⟩:=I.hok p _ b;refine⟨⟨o,e,ex.1⟩,fun a f=>?_⟩;cases f;exact⟨o,e,ex.2.1⟩
 |_=>exact False.elim ty
noncomputable def Jz(K:Fg1)(T:String)(r:V->List V->Hp->VK->Prop)(to:TE)(t:TA):TE:=fun σ H Q=>to σ H fun x H1=>IY K T x H1/\t σ H1 fun xs H2=>r x xs H2 Q
variable{o e:Expr}{es:List Expr}{to:TE}{t:TA}{name:Str}{apos cpos:Pos}{T id:String}{r:V->List V->Hp->VK->Prop}
theorem Gg (l:PlainAttrs T)(slot:Slot T name id)(hty:typeOf (.builtin id)=pure (.type "method_descriptor"))(hm:CZ X id r)(ho:PE X o to)(ha:PA X (e::es) t)
  (hbase:attributeBase o name X.env (eval o X.env)=eval o X.env:=by rfl)
  (hfew:((backTo cpos (dE (e::es) X.env)).all (fun x=> !x.1)&&(backToKw cpos (keywordEach [] X.env)).all (fun x=>x.1.isSome)
   && decide ((e::es).length+([]:List Keyword).length+(if([]:List Keyword).isEmpty then 0 else 1)<30))=true:=by rfl)
  (hline:(apos.endLine == cpos.line)=true:=by rfl) (hs:dE (e::es) X.env=(false,eval e X.env)::dE es X.env:=by rfl) (hplain:(backTo cpos (dE es X.env)).any (·.1)=false:=by rfl):
  PE X (.Call (.Attribute o name apos) (e::es) [] cpos) (Jz X.K T r to t):=by
 intro pins s σ H Q I h;refine wpAny_Call_method_late hbase hfew hline rfl (e6 (ho pins s σ H _ I h) fun v k ⟨x,H1,a,b,ty,j⟩=>?_);obtain⟨h1,h2⟩:=Da a b ty;refine⟨T,id,l,slot,hty,h1,h2,?_⟩;have c:=ha cpos pins k σ H1 _ a j;rw[hs]at c ⊢;refine Calls.callWith_builtin (by show(false||(backTo cpos (dE es X.env)).any (·.1))=false;rw[hplain]<;>rfl) (Calls.evalArgs_plain ?_);exact e6 c fun i f ⟨vs,H2,d,r2,g⟩=>hm pins f σ H2 x vs v i Q d b r2 g
end
end L2
namespace L2
open PySem PySem.Spec PyProof.Rows
noncomputable def Jo(X:Cx)(id:String)(r:V->List V->Hp->VK->Prop):Prop:=
 ∀(pins:List (dy×Obj)) (s:dw) (σ:St) (H:Hp) (x:V) (xs:List V) (v:dr) (us:List dr) (Q:VK),Inv X pins σ H s->dX x v->ea xs us->r x xs H Q ->
  dG (model X.prog X.w) X.A (call (.builtin id) (v::us)) (EP X pins σ Q) X.xe s
theorem ea.one:∀{x:V} {a:List dr},ea [x] a -> ∃u,a=[u]/\dX x u:=by
 intro x a h;cases h with
 |cons r t=>cases t;exact⟨_,rfl,r⟩
theorem ea.two:∀{x y:V} {a:List dr},ea [x,y] a -> ∃u v,a=[u,v]/\dX x u/\dX y v:=by
 intro x y a h;cases h with
 |cons r t=>obtain⟨v,rfl,q⟩:=ea.one t;exact⟨_,_,rfl,r,q⟩
theorem ea.eraseIdx:∀{xs:List V} {a:List dr} (i:Nat),ea xs a->ea (xs.eraseIdx i) (a.eraseIdx i)
 |_,_,_,.nil=>.nil
 |_,_,0,.cons _ t=>t
 |_,_,i+1,.cons r t=>.cons r (ea.eraseIdx i t)
theorem oj{α:Type}:∀(l:List α) (i:Nat),(l.eraseIdx i).length<=l.length
 |[],_=>nR1 _
 |_::_,0=>aX _
 |_::r,i+1=>Nat.succ_le_succ (oj r i)
section
variable{X:Cx}{pins:List (dy×Obj)}{σ:St}{H:Hp}{s:dw}{l b:dy}{xs ys zs:List V}
theorem Inv.lset {its its':List dr}{n:Nat}{f:Array dr->Array dr}{t':Nat}(I:Inv X pins σ H s)(c:H l=some (.lst xs))
  (e:s.heap.get? l=some {cls:=.type "list",data:=.seq its.toArray n}) (hf:f its.toArray=its'.toArray) (hv:ea ys its') (a:ys.length<=dF):
  Inv X pins σ (upd H l (.lst ys)) {s with heap:=s.heap.update l (Obj.mapSeq f),toks:=t'}:=by
 have q:=PySem.IsL.update e f;rw[hf]at q;refine I.write (x:=l) (e:=l) (by rw[c];exact trivial) (.inl rfl) (fun g u b d=>(Heap.get?_update_other s.heap (Obj.mapSeq f) (Ne.symm b)).trans d) ⟨_,q⟩ ?_;exact⟨a,its',_,hv,q⟩
theorem Inv.lnew{its:List dr}{t':Nat}(I:Inv X pins σ H s)(hv:ea ys its)(a:ys.length<=dF):
  Inv X pins σ (upd H s.heap.objs.size (.lst ys)) {s with heap:=s.heap.push {cls:=.type "list",data:=.seq its.toArray},toks:=t'}:=
 I.laid (fun _ _ q=>hP1 _ q) (nR1 _) ⟨a,its,0,hv,hS1 _ rfl⟩
theorem Inv.fresh(I:Inv X pins σ H s):H s.heap.objs.size=none:=I.hok.fresh (nR1 _)
theorem Inv.lstM(I:Inv X pins σ H s)(a:H l=some (.lst xs)):xs.length<=dF /\ ∃(its:List dr) (n:Nat),ea xs its/\xs.length=its.length/\s.heap.get? l=some {cls:=.type "list",data:=.seq its.toArray n}:=by
 obtain⟨z,its,n,r,e⟩:=I.hok l _ a;exact⟨z,its,n,r,r.length,e⟩
end
section
variable{X:Cx}
noncomputable def AL:V->List V->Hp->VK->Prop:=fun x vs H Q=>∃l xs y,x = .ref l/\vs=[y]/\H l=some (.lst xs)/\xs.length<dF/\Q .non (upd H l (.lst (xs++[y])))
theorem n9:Jo X "list.append" AL:=by
 intro pins s σ H x vs v j Q I d c h;obtain⟨l,xs,y,rfl,rfl,b,g,q⟩:=h;cases d;obtain⟨u,rfl,f⟩:=c.one;obtain⟨z,a,n,r,i,e⟩:=I.lstM b;refine call_meets F.slot_list_append ⟨_,e,rfl⟩ F.entry_list_append (F.args_list_append_2 _ _) (PySem.list_append l a.toArray n u (by rw[sT1];lia)) ⟨e,?_⟩;refine⟨.non,_,I.lset (its':=a++[u]) b e (by simp) (r.append (.cons f .nil)) ?_,rfl,q⟩;rw[lA1,aY];lia
noncomputable def DC:V->List V->Hp->VK->Prop:=fun x vs H Q=>∃l xs i k y,x = .ref l/\vs=[.int i]/\H l=some (.lst xs) /\ -(2^63)<=i/\i<2^63/\seqIndex? i xs.length=some k/\xs[k]?=some y/\Q y (upd H l (.lst (xs.eraseIdx k)))
theorem yX:Jo X "list.pop" DC:=by
 intro pins s σ H x vs v A Q I o j h;obtain⟨l,xs,i,k,y,rfl,rfl,c,h1,h2,g,f,q⟩:=h;cases o;obtain⟨u,rfl,p⟩:=j.one;obtain⟨t,rfl⟩:=p;obtain⟨z,a,n,r,m,e⟩:=I.lstM c;obtain⟨w,d,b⟩:=r.get f;refine call_meets F.slot_list_pop ⟨_,e,rfl⟩ F.entry_list_pop (F.args_list_pop_2 _ _)
  (MeetsSeq.list_pop_at l a.toArray n i t k w (fitsIndex_both h1 h2) (by rw[sT1,<- m];exact g) (by rw[<- aT1];exact d) (by rw[sT1];lia)) ⟨e,?_⟩
 refine⟨y,_,I.lset (its':=a.eraseIdx k) c e ?_ (r.eraseIdx k) ?_,b,q⟩
 ·show a.toArray.eraseIdxIfInBounds k=(a.eraseIdx k).toArray;rw[List.eraseIdxIfInBounds_toArray]
 ·have:=oj xs k;lia
noncomputable def Ip:R2:=fun x y H Q=>∃l b xs zs,x = .ref l/\y = .ref b/\H l=some (.lst xs)/\H b=some (.lst zs)/\xs.length+zs.length<=dF /\ ∀p,H p=none->Q (.ref p) (upd H p (.lst (xs++zs)))
theorem D5:gh X (binaryOp .Add) Ip:=by
 intro pins s σ H x y v u Q I g d h;obtain⟨l,b,xs,zs,rfl,rfl,f,j,o,q⟩:=h;cases g;cases d;obtain⟨z,c,n,r,t,e⟩:=I.lstM f;obtain⟨p,a,w,r2,k,m⟩:=I.lstM j;refine PySem.P.add_list e m ?_ (by rw[sT1,sT1];lia);have i:c.toArray++a.toArray=(c++a).toArray:=by simp
 rw[i];exact⟨.ref _,_,I.lnew (t':=s.toks) (r.append r2) (by rw[lA1];lia),rfl,q _ I.fresh⟩
end
section
variable{prog:dz}{w:dB}{A:dA}{E:dr->dw->Prop}{s:dw}
end
section
variable{X:Cx}
end
end L2
namespace Att
open PySem PySem.W PySem.Calls PyProof.Rows
theorem lG{P:Params}{h:dH}:∀(ns:List Int) (vs:List dr),WellAll P h vs (ns.map WData.int)->IntsAre vs ns:=by
 intro ns
 induction ns with
 |nil=>
  intro vs w;rw[aZ]at w;cases w;exact .nil
 |cons n ns ih=>
  intro vs w;rw[mP1]at w;cases w with
  |cons a b=>
   cases a;exact .cons _ _ (ih _ b)
theorem wh{l:OpenLaw}{n:Nat}(hn:l.most=some n){P:Params}{h:dH}{args:List WData}{b:List dr}(c:l.row.toRowW.claim.pre args=true)(k:WellAll P h b args):
  ∃a vs ns,b=[Value.ref a]/\args=[WData.list (ns.map WData.int)]/\h.get? a=some {cls:=.type "list",data:=.seq vs.toArray}/\IntsAre vs ns/\ns.length<=n:=by
 have j:WShape.hasAll [] args [.list .int]=true:=(pre_splitW c).1;have hc:l.pre.holds [] {args:=args}=true:=(pre_splitW c).2;obtain⟨d,r,rfl,h1,h2⟩:=hasAllW_cons j;obtain rfl:=hasAllW_nil h2;obtain⟨xs,rfl,p⟩:=hasW_list h1;obtain⟨ns,rfl⟩:=items_int p;have f:ns.length<=n:=by
  unfold OpenLaw.pre at hc;have g:(WTm.not (.lt (.lit (.int (n:Int))) (.len (.arg 0)))).holds [] {args:=[.list (ns.map .int)]}=true:=by
   have g:=(holds_andW hc).1;rw[hn]at g;exact g
  have i:=condW_of g (w_not (w_lt w_lit (w_len_list (w_arg rfl))));rw[lM1]at i;refine Nat.le_of_not_lt fun q=>?_;have o:(n:Int)<((ns.length:Nat):Int):=by omega
  first
   |(rw[decide_eq_true o]at i;exact absurd i (by decide))
   |(simp at i;omega)
 cases k with
 |cons m s=>
  cases s;cases m with
  |list t e=>exact⟨_,_,ns,rfl,rfl,t,lG ns _ e,f⟩
theorem wj(l:OpenLaw)(args:List WData):l.row.toRowW.claim.post args (.bool true) args=true:=
 postW_of (r:=l.row.toRowW) (X:=(true == true))
  (show WShape.has [] (.bool true) .bool=true by first|rfl|decide|simp[WShape.has,WShape.arms,WShape.armsAll])
  (show(WTm.eq .res (.lit (.bool true))).value [] {args:=args,res:=some (.bool true),after:=args}=some (.bool (true == true))from w_eq_bool (w_res rfl) w_lit) rfl
theorem attach_call {l:OpenLaw}{n:Nat}{q:dz}{c:List Str}{XP:(Str->Option dr)->dH->Prop}{D:dB->dH->Prop}{d:DefRec}
  (hn:l.most=some n) (v:d.params.defaults=[])
  (call:∀(w:dB) (e b:dw) (mg t:Str->Option dr) (m:dy) (o:Obj) (u p g:dr) (a:dy) (vs:List dr) (ns:List Int),
   Ground q c [] XP w e mg t b.heap->D w b.heap ->
   b.heap.get? m=some o->o.data = .func (docDef d.name d.params d.body d.scope u p g)->b.heap.CodeRec p d.name->mg d.name=some (.ref m) ->
   b.heap.get? a=some {cls:=.type "list",data:=.seq vs.toArray}->IntsAre vs ns->ns.length<=n->b.gens = #[] ->
   codeAny (model l.prog w) callerA (.call (.ref m) ⟨[.ref a],[]⟩) (fun r s'=>r = .ok (.ret (.bool true))/\OldK b.heap s'.heap/\s'.os=b.os/\AllBare s'.gens) b):
  WalkO q c XP D l.row.toRowW d [] (fun f vs=>PySem.call f vs):=by
 intro w e b mg t G Y m o u p g L kV K M x B y J A z as j C E s F;obtain rfl:L = .none:=Dflts.none B v;obtain rfl:kV = .none:=Dflts.noKw B;obtain⟨a,vs,ns,rfl,rfl,i,h,k⟩:=wh hn j s;refine enter_call (codeAny_mono (call w e b mg t m o u p g a vs ns G Y K (fd_plain M) x y i h k J) fun r s' I=>?_);obtain⟨rfl,h2,O,N⟩:=I;exact⟨.inl ⟨.bool true,.bool true,[],rfl,fun _=>rfl,.bool true,wj l _,fun _=>⟨List.Pairwise.nil,fun _ H=>(nomatch H)⟩⟩,h2,O,N⟩
section
variable{prog:dz}{w:dB}{A:dA}{E:dr->dw->Prop}{s:dw}{K:Frag}
end
end Att
namespace L2
open PySem PySem.Spec PyProof.Rows
theorem v8:∀{vs:List dr} {ns:List Int},IntsAre vs ns->ea (ns.map V.int) vs:=by
 intro vs ns h
 induction h with
 |nil=>exact .nil
 |cons n t h ih=>exact .cons ⟨t,rfl⟩ ih
noncomputable def Cv(H:Hp):Prop:=∀b,H b=none \/ ∃o xs,H b=some (.frz o (.lst xs))
theorem zi {P:dz}{w:dB}{K:Fg1}{mg I:Str->Option dr}{CX:xy}{k:Nat}{J a:dy}{fd:dI}{x:Str}{sp:Sp}{s₁:dw}{vs:List dr}{ns:List Int}
  (N:K.In s₁.heap) (p:s₁.heap.Ns dD mg) (hb:s₁.heap.Ns builtinsNs I) (L:∀x:Str,x≠"__name__"->I x=bootBuiltins x) (t:s₁.heap.NoLimit) (hg:s₁.gens = #[])
  (ha:s₁.heap.get? a=some {cls:=.type "list",data:=.seq vs.toArray}) (hi:IntsAre vs ns) (S:ns.length<=dF) (hr:fF k callerA)
  (F:∀base:dH,K.In base->base.Ns dD mg->k3 P w K mg base CX k J fd [x] sp) (g:∀(s:dw) (u:dr),BindsTo s fd ⟨[u],[]⟩ [(x,u)])
  (E:∀H:Hp,Cv H->lJ K H a (ns.map V.int)->sp [.ref a] H (fun v _=>v = .bl true) fun _ _ _=>False)
  (D:∀H e s',CX [] H s₁ (fun _ _ _=>False) e s'->False):
  codeAny (model P w) callerA (.call (.ref J) ⟨[.ref a],[]⟩) (fun r s'=>r = .ok (.ret (.bool true))/\OldK s₁.heap s'.heap/\s'.os=s₁.os/\AllBare s'.gens) s₁:=by
 have M:=v8 hi;have B:=hi.length
 -- from an abstract heap in which nothing but the script may be tracked
 have f:∀ H:Hp,Cv H->lJ K H a (ns.map V.int)->jC P w H s₁.heap->(∀ b,H b≠none->b=a)->(H a≠none->K.lookup a=none) ->
   codeAny (model P w) callerA (.call (.ref J) ⟨[.ref a],[]⟩) (fun r s'=>r = .ok (.ret (.bool true))/\OldK s₁.heap s'.heap/\s'.os=s₁.os/\AllBare s'.gens) s₁:=by
  intro H O X j R hK;have base_of:∀{b:dy} {o:Obj},s₁.heap.get? b=some o->H b=none->(pY s₁.heap H).get? b=some o:=fun e n=>zt e n;have G:∀{b:dy} {o:Obj} {es:Array DictEntry} {ep:Nat},s₁.heap.get? b=some o->o.data = .dict es ep->H b=none:=fun{b o es ep} e d=>by
   cases q:H b with
   |none=>rfl
   |some u=>
    have C:b=a:=R b (by rw[q];simp);subst C;rw[ha]at e;cases e;have W:Data.seq vs.toArray _=Data.dict es ep:=d;cases W
  have c:∀{b:dy} {m:Str->Option dr},s₁.heap.Ns b m->(pY s₁.heap H).Ns b m:=fun{b m} ⟨o,es,ep,e,d,r⟩=>⟨o,es,ep,base_of e (G e d),d,r⟩;have y:K.In (pY s₁.heap H):=fun b o e=>base_of (N b o e) (by
   cases q:H b with
   |none=>rfl
   |some u=>
    have C:b=a:=R b (by rw[q];simp);subst C;rw[hK (by rw[q];simp)]at e;cases e)
  have T:Mod K mg (pY s₁.heap H):=⟨y,c p,⟨I,c hb,L⟩,let ⟨mc,h1,h2⟩:=t;⟨mc,c h1,h2⟩⟩;have Y:Cw P w K mg (pY s₁.heap H) callerA [] s₁ H:=⟨rfl,T,fun b o e=>Bb e,Nat.le_of_eq (wO _ _),trivial,fun b hb=>absurd (show b∈([]:List dy)from hb) (by simp),j,.of_eq hg⟩;refine codeAny_mono ((F _ y (c p)).run callerA [] s₁ H ⟨[.ref a],[]⟩ [.ref a] [.ref a] _ _ hr Y (g s₁ (.ref a)) (.cons rfl .nil) (E H O X)) fun r s' h=>?_;cases r with
  |error e=>exact(D H e s' h).elim
  |ok U=>
   cases U with
   |next=>exact False.elim h
   |brk=>exact False.elim h
   |cont=>exact False.elim h
   |ret u=>
    obtain⟨v,H',os,l,un,A,r',q⟩:=h;have q':v = .bl true:=q;subst q';obtain rfl:u=Value.bool true:=r';refine⟨rfl,OldK.of_keep fun b o e=>?_,os,l⟩;cases q:H b with
    |none=>exact un.keep b o e q (by intro z;exact absurd (show b∈([]:List dy)from z) (by simp)) (by simp)
    |some u=>
     rcases O b with z|⟨Z,xs,z⟩
     ·rw[q]at z;cases z
     ·have z2:=un.frzs b Z _ z;obtain⟨Q,_⟩:=j b _ z;obtain⟨e2,_⟩:=A b _ z2;rw[e]at Q;cases Q;exact e2
 cases hk:K.lookup a with
 |some o=>
  -- the script is one of the module's own objects
  have e:=N a o hk;rw[ha]at e;cases e;refine f (fun _=>none) (fun _=>.inl rfl) (.inr ⟨_,vs.toArray,_,hk,rfl,rfl,rfl,by rw[sT1,B];exact S,by simpa using M⟩) (fun b u z=>by have i:(none:Option HO)=some u:=z;cases i) (fun b z=>absurd rfl z) fun z=>absurd rfl z
 |none=>
  refine f (fun b=>if b=a then some (.frz {cls:=.type "list",data:=.seq vs.toArray} (.lst (ns.map V.int)))else none) (fun b=>?_) (.inl (.inr ⟨{cls:=.type "list",data:=.seq vs.toArray},if_pos rfl⟩)) (fun b u z=>?_) (fun b z=>?_) fun _=>hk
  ·by_cases hb:b=a
   ·exact .inr ⟨_,_,if_pos hb⟩
   ·exact .inl (if_neg hb)
  ·by_cases hb:b=a
   ·have i:=(if_pos hb).symm.trans z;cases i;subst hb;exact⟨ha,by rw[lM1];exact S,vs,_,M,ha⟩
   ·have i:=(if_neg hb).symm.trans z;cases i
  ·by_cases hb:b=a
   ·exact hb
   ·exact absurd (if_neg hb) z
end L2
namespace L2
open PySem PySem.Spec PyProof.Rows
theorem AB{l:PySem.W.OpenLaw}{n k:Nat}{q:dz}{c:List Str}{XP:(Str->Option dr)->dH->Prop}{B:dB->dH->Prop}{d:DefRec}{K:Params->Fg1}{CX:dB->xy}{sp:dB->Sp}{x:Str}(hn:l.most=some n)(z:n<=dF)(t:d.params.defaults=[])(hr:fF k callerA)(M:∀(w:dB) (h:dH),B w h->(K w.params).In h)(F:∀(w:dB) (mg:Str->Option dr) (m:dy) (h:dH),(K w.params).In h->h.Ns dD mg->mg d.name=some (.ref m) ->
   ∃fd:dI,(∀(s:dw) (u:dr),BindsTo s fd ⟨[u],[]⟩ [(x,u)]) /\
    ∀base:dH,(K w.params).In base->base.Ns dD mg->k3 l.prog w (K w.params) mg base (CX w) k m fd [x] (sp w))(r:∀(w:dB) (H:Hp) (a:dy) (ns:List Int),ns.length<=n->Cv H->lJ (K w.params) H a (ns.map V.int)->sp w [.ref a] H (fun v _=>v = .bl true) fun _ _ _=>False)(p:∀(w:dB) (H:Hp) (s:dw) (e:dr) (s':dw),CX w [] H s (fun _ _ _=>False) e s'->False):
  PySem.W.WalkO q c XP B l.row.toRowW d [] (fun f vs=>PySem.call f vs):=by
 refine Att.attach_call hn t fun w C j mg R m o T P D a vs ns G Y Q S O y i g b J=>?_;have A:=M w _ Y;obtain⟨fd,L,N⟩:=F w mg m _ A G.T.g y;exact zi A G.T.g G.T.b G.T.builtins G.T.nolimit J i g (aC b z) hr N L (fun H I E=>r w H a ns b I E) fun H e s'=>p w H j e s'
end L2
namespace L2
open PySem PySem.Spec PyProof.Rows
noncomputable def gP(s:dJ):Arguments:=match s with
 | .FunctionDef _ a _ _ _ _ _ _ _ _=>a
 |_=>{posonlyargs:=[],args:=[],vararg:=none,kwonlyargs:=[],kw_defaults:=[],kwarg:=none,defaults:=[]}
noncomputable def fb(s:dJ):List dJ:=match s with
 | .FunctionDef _ _ b _ _ _ _ _ _ _=>b
 |_=>[]
noncomputable def d3(s:dJ):dL:=match s with
 | .FunctionDef _ _ _ _ _ _ sc _ _ _=>sc
 |_=>{kind:=.function,names:=[],isGenerator:=false,isCoroutine:=false}
abbrev sK:xy:=fun _ _ _ _ _ _=>False
abbrev E0:XK:=fun _ _ _=>False
theorem Gi{X:Cx}:ul sK X E0:=fun _ _ _ _ _ _ _ h=>h.elim
structure xu (K:Fg1)(x qual:Str)(st:dJ)(f:dy)(fd:dI):Prop where
 ex:∃(oc:dr) (od:Option dy) (kV doc pm:dr) (an:Option dy) (cdv ct:dr) (osl:Array (Option dr)),
  fd=wF1 x qual (gP st) (fb st) (d3 st) .none kV doc pm an cdv ct/\K.lookup f=some ⟨oc,od,.func fd,osl⟩/\wC1 K cdv qual=true
 kp:wK1 K (.ref f)=true
section
variable{P:dz}{w:dB}{K:Fg1}{mg:Str->Option dr}{base:dH}
theorem xu.ok{x b:Str}{st:dJ}{f:dy}{fd:dI}{N ps:List Str}{k:Nat}{sp:Sp}(F:xu K x b st f fd)(S:fX N ps (d3 st))(len:∀ vs H Q E,sp vs H Q E->vs.length=ps.length)(d:∀(c:dr) (A:dA) (a:List Env) (s:dw) (H:Hp) (vs:List V) (Q:VK) (E:XK),fF k (A.deeper (envOfC b (d3 st) s.heap.objs.size f c))->sp vs H Q E ->
   ∃t,sO (lH sK P w K mg base N b (d3 st) f c A a s H E).nox (fb st) t/\t {nx:=fun _ H'=>Q .non H',rt:=Q} (iI N vs) H):k3 P w K mg base sK (k+1) f fd ps sp:=by
 obtain⟨o,p,kV,i,n,r,c,ct,l,rfl,m,e⟩:=F.ex;refine GU m e S len fun A a s H vs Q E j g=>?_;obtain⟨t,h,q⟩:=d c A a s H vs Q E j g;exact⟨t,h.nox,q⟩
theorem xu.binds{x a:Str}{st:dJ}{f:dy}{fd:dI}{ps:List Str}(F:xu K x a st f fd)(h:∀(kV b g:dr) (d:Option dy) (c ct:dr) (e:List dr),e.length=ps.length->bindArgs (wF1 x a (gP st) (fb st) (d3 st) .none kV b g d c ct) ⟨e,[]⟩=pure (ps.zip e)):kA K fd ps []:=by
 obtain⟨k,l,kV,b,g,d,c,ct,i,rfl,m,j⟩:=F.ex;exact .all (h kV b g d c ct)
theorem zB{x a:Str}{st:dJ}{f:dy}{i:dr}{j g:Option dy}{e:Array (Option dr)}{kV d h b ct:dr}(l:K.lookup f=some ⟨i,j,.func (wF1 x a (gP st) (fb st) (d3 st) .none kV d h g b ct),e⟩)(c:wC1 K b a=true)(k:wK1 K (.ref f)=true):xu K x a st f (wF1 x a (gP st) (fb st) (d3 st) .none kV d h g b ct):=⟨⟨i,j,kV,d,h,g,b,ct,e,rfl,l,c⟩,k⟩
end
section
variable{X:Cx}
theorem pv (i:Nat){x:Str}{pos:Pos}(hN:X.N[i]? = some x:=by rfl)(hv:Vis X.env.scope x:=by first | exact Or.inl rfl | exact Or.inr (Or.inl rfl) | exact Or.inr (Or.inr rfl))(hd:(x == ("__debug__":Str))=false:=by decide)
  (hcd:(x == ("__classdict__":Str))=false:=by decide):PE X (.Name x pos) (FL i):=yB hN hv hd hcd
end
end L2
namespace L2
open PySem PySem.Spec PyProof.Rows
section
variable{κ:Type} [DecidableEq κ]
noncomputable def hU(kvs:List (κ×V))(k:κ):Option V:=(kvs.find? fun kv=>decide (kv.1=k)).map (·.2)
noncomputable def g9(kvs:List (κ×V))(k:κ)(v:V):List (κ×V):=
 if(kvs.any fun kv=>decide (kv.1=k))=true then kvs.map (fun kv=>if kv.1=k then(kv.1,v)else kv)else kvs++[(k,v)]
theorem lX{p:κ×V}{r:List (κ×V)}{k:κ}(e:p.1=k):hU (p::r) k=some p.2:=by simp[hU,a0,e]
theorem lY{p:κ×V}{r:List (κ×V)}{k:κ}(e:¬ p.1=k):hU (p::r) k=hU r k:=by simp[hU,a0,e]
theorem qu(k:κ):∀kvs:List (κ×V),(kvs.any fun a=>decide (a.1=k))=(hU kvs k).isSome
 |[]=>rfl
 |p::r=>by
  rw[bc];by_cases e:p.1=k
  ·simp only[lX e,decide_eq_true e,Bool.true_or,Option.isSome_some]
  ·rw[lY e,decide_eq_false e,Bool.false_or];exact qu k r
theorem iP(kvs:List (κ×V))(k:κ)(v:V):(g9 kvs k v).length<=kvs.length+1:=by
 unfold g9;split
 ·rw[lM1];lia
 ·rw[lA1,lC1,bd];lia
theorem kZ.isSome_eq{o:Option V}{u:Option dr}(r:kZ o u):o.isSome=u.isSome:=by
 cases o with
 |none=>cases u with
  |none=>rfl
  |some _=>exact(show False from r).elim
 |some _=>cases u with
  |none=>exact(show False from r).elim
  |some _=>rfl
theorem kZ.getD{o:Option V}{u:Option dr}{d:V}{d':dr}(r:kZ o u)(a:dX d d'):dX (o.getD d) (u.getD d'):=by
 cases o with
 |none=>cases u with
  |none=>exact a
  |some _=>exact(show False from r).elim
 |some _=>cases u with
  |none=>exact(show False from r).elim
  |some _=>exact r
theorem KV.val{kvs:List (κ×V)}{vs:List (κ×dr)}(r:KV kvs vs)(k:κ):kZ (hU kvs k) (valueAt vs k):=by
 unfold KV at r
 induction r with
 |nil=>exact True.intro
 | @cons p q ps a h t ih=>
  obtain⟨h1,h2⟩:=h;by_cases e:p.1=k
  ·have c:q.1=k:=h1.symm.trans e;have b:valueAt (q::a) k=some q.2:=by simp[valueAt,a0,c]
   rw[lX e,b];exact h2
  ·have c:¬ q.1=k:=fun z=>e (h1.trans z);have b:valueAt (q::a) k=valueAt a k:=by simp[valueAt,a0,c]
   rw[lY e,b];exact ih
theorem KV.any{kvs:List (κ×V)}{vs:List (κ×dr)}(r:KV kvs vs)(k:κ):(kvs.any fun a=>decide (a.1=k))=vs.any fun a=>decide (a.1=k):=by
 unfold KV at r
 induction r with
 |nil=>rfl
 |cons h t ih=>rw[bc,bc,ih,h.1]
theorem KV.repl{kvs:List (κ×V)}{vs:List (κ×dr)}(r:KV kvs vs)(k:κ){y:V}{u:dr}(b:dX y u):
  KV (kvs.map fun a=>if a.1=k then(a.1,y)else a) (vs.map fun a=>if a.1=k then(a.1,u)else a):=by
 unfold KV at r ⊢
 induction r with
 |nil=>exact .nil
 | @cons p q ps c h t ih=>
  rw[mP1,mP1];refine .cons ?_ ih;obtain⟨h1,h2⟩:=h;by_cases e:p.1=k
  ·rw[if_pos e,if_pos (h1.symm.trans e)];exact⟨h1,b⟩
  ·rw[if_neg e,if_neg (fun z=>e (h1.trans z))];exact⟨h1,h2⟩
theorem KV.put{kvs:List (κ×V)}{vs:List (κ×dr)}(r:KV kvs vs)(k:κ){y:V}{u:dr}(a:dX y u):KV (g9 kvs k y) (stored vs k u):=by
 unfold g9 stored;rw[r.any k];by_cases e:(vs.any fun b=>decide (b.1=k))=true
 ·rw[if_pos e,if_pos e];exact r.repl k a
 ·rw[if_neg e,if_neg e];exact Paired.snoc r ⟨rfl,a⟩
theorem KV.length{kvs:List (κ×V)}{vs:List (κ×dr)}(r:KV kvs vs):kvs.length=vs.length:=Paired.length r
end
theorem oo{P:dz}{w:dB}{k:Key}{u:dr}(r:dX (kV k) u):(eN P w).is k u=true:=by
 cases k with
 |inl i=>obtain⟨t,e⟩:=(show∃t,u=Value.int i t from r);subst e;exact rE P w i t
 |inr x=>obtain⟨t,e⟩:=(show∃t,u=Value.str x t from r);subst e;exact rD P w x t
theorem ot{P:dz}{w:dB}:∀{ks:List Key} {a:List dr},ea (ks.map kV) a->ItemsAre (eN P w) ks a
 |[],_,r=>by rw[aZ]at r;cases r;exact .nil
 |k::ks,_,r=>by
  rw[mP1]at r;cases r with
  |cons h t=>exact .cons (oo h) (ot t)
abbrev KT(H:Hp):List (List Key×V)->List (List Key×dy×dr)->Prop:=Paired fun p q=>p.1=q.1/\H q.2.1=some (.tup (p.1.map kV))/\dX p.2 q.2.2
theorem KT.val{H:Hp}{kvs:List (List Key×V)}{xs:List (List Key×dy×dr)}(r:KT H kvs xs)(k:List Key):kZ (hU kvs k) ((atKey xs k).map (·.2)):=by
 induction r with
 |nil=>exact True.intro
 | @cons p q ps a h t ih=>
  obtain⟨h1,_,h2⟩:=h;by_cases e:p.1=k
  ·have c:q.1=k:=h1.symm.trans e;have b:atKey (q::a) k=some q.2:=by simp[atKey,a0,c]
   rw[lX e,b];exact h2
  ·have c:¬ q.1=k:=fun z=>e (h1.trans z);have b:atKey (q::a) k=atKey a k:=by simp[atKey,a0,c]
   rw[lY e,b];exact ih
theorem KT.repl{H:Hp}{kvs:List (List Key×V)}{xs:List (List Key×dy×dr)}(r:KT H kvs xs)(k:List Key){y:V}{u:dr}(c:dX y u):
  KT H (kvs.map fun a=>if a.1=k then(a.1,y)else a) (xs.map (putAt k u)):=by
 induction r with
 |nil=>exact .nil
 | @cons p q ps d h t ih=>
  rw[mP1,mP1];refine .cons ?_ ih;obtain⟨h1,h2,b⟩:=h;unfold putAt;by_cases e:p.1=k
  ·rw[if_pos e,if_pos (h1.symm.trans e)];exact⟨h1,h2,c⟩
  ·rw[if_neg e,if_neg (fun z=>e (h1.trans z))];exact⟨h1,h2,b⟩
theorem KT.put{H:Hp}{kvs:List (List Key×V)}{xs:List (List Key×dy×dr)}(r:KT H kvs xs)(k:List Key){b:dy}{y:V}{u:dr}(hb:H b=some (.tup (k.map kV)))(a:dX y u):
  KT H (g9 kvs k y) (storedH xs k b u):=by
 have e:(kvs.any fun c=>decide (c.1=k))=(atKey xs k).isSome:=by
  rw[qu,(r.val k).isSome_eq,bf]
 unfold g9 storedH;rw[e];by_cases q:(atKey xs k).isSome=true
 ·rw[if_pos q,if_pos q];exact r.repl k a
 ·rw[if_neg q,if_neg q];exact Paired.snoc r ⟨rfl,hb,a⟩
theorem KT.keeps{H H':Hp}{kvs:List (List Key×V)}{xs:List (List Key×dy×dr)}(r:KT H kvs xs)(ht:∀b ys,H b=some (.tup ys)->H' b=some (.tup ys)):KT H' kvs xs:=
 Paired.mapP r fun _ _ z=>⟨z.1,ht _ _ z.2.1,z.2.2⟩
section
variable{P:dz}{w:dB}{H:Hp}{h:dH}{a:dy}
theorem CD{u:HO}(ok:jC P w H h)(e:Rd H a u):ew P w H h a u:=e.ok ok
theorem sm{kvs:List (Key×V)}(ok:jC P w H h)(e:Rd H a (.dK kvs)):kvs.length<=dF/\(a == sysModules)=false /\ ∃vs,KV kvs vs/\h.DictOf (eN P w) a vs:=
 show ew P w H h a (.dK kvs)from CD ok e
theorem vI{kvs:List (Key×V)}(ok:jC P w H h)(e:H a=some (.dK kvs)):kvs.length<=dF/\(a == sysModules)=false /\ ∃vs,KV kvs vs/\h.DictOf (eN P w) a vs:=sm ok (.inl e)
theorem mK{ks:List Key}(ok:jC P w H h)(e:H a=some (.tup (ks.map kV))):(tupleKind (eN P w)).is h ks a:=by
 obtain⟨_,b,r,o,h1,h2,n,c⟩:=(show ew P w H h a (.tup (ks.map kV))from ok a _ e);exact⟨o,b.toArray,n,h1,h2,c,by simpa using ot r⟩
theorem sj{kvs:List (List Key×V)}(ok:jC P w H h)(e:Rd H a (.dT kvs)):kvs.length<=dF/\(a == sysModules)=false /\
  ∃xs,KT H kvs xs/\h.DictOfH (tupleKind (eN P w)) a xs:=by
 obtain⟨z,y,xs,r,o,es,ep,h1,h2,d,f,g⟩:=(show ew P w H h a (.dT kvs)from CD ok e);refine⟨z,y,xs,r,o,es,ep,h1,h2,d,f,fun x b=>?_,g⟩;have all:∀{l:List (List Key×V)} {m:List (List Key×dy×dr)},KT H l m -> ∀x∈m,(tupleKind (eN P w)).is h x.1 x.2.1:=by
  intro l m q
  induction q with
  |nil=>intro x b;exact nomatch b
  | @cons p q ps i c t ih=>
   intro x b;rcases aF.mp b with e|b
   ·subst e;exact mK ok (by rw[<- c.1];exact c.2.1)
   ·exact ih x b
 exact all r x b
theorem G6{kvs:List (List Key×V)}(ok:jC P w H h)(e:H a=some (.dT kvs)):kvs.length<=dF/\(a == sysModules)=false /\
  ∃xs,KT H kvs xs/\h.DictOfH (tupleKind (eN P w)) a xs:=sj ok (.inl e)
end
noncomputable def nM(H:Hp)(a:dy)(y:V)(r:Option V):Prop:=
 (∃kvs k,Rd H a (.dK kvs)/\y=kV k/\r=hU kvs k) \/ ∃kvs k b,Rd H a (.dT kvs)/\y = .ref b/\H b=some (.tup (k.map kV))/\r=hU kvs k
noncomputable def xn(H:Hp)(a:dy)(y v:V)(H':Hp):Prop:=
 (∃kvs k,H a=some (.dK kvs)/\y=kV k/\kvs.length<dF/\H'=upd H a (.dK (g9 kvs k v))) \/
 ∃kvs k b,H a=some (.dT kvs)/\y = .ref b/\H b=some (.tup (k.map kV))/\kvs.length<dF/\H'=upd H a (.dT (g9 kvs k v))
theorem nM.k{H:Hp}{a:dy}{kvs:List (Key×V)}{k:Key}(e:H a=some (.dK kvs)):nM H a (kV k) (hU kvs k):=.inl ⟨kvs,k,.inl e,rfl,rfl⟩
theorem nM.t{H:Hp}{a b:dy}{kvs:List (List Key×V)}{k:List Key}(e:H a=some (.dT kvs))(c:H b=some (.tup (k.map kV))):nM H a (.ref b) (hU kvs k):=.inr ⟨kvs,k,b,.inl e,rfl,c,rfl⟩
theorem xn.k{H:Hp}{a:dy}{kvs:List (Key×V)}{k:Key}{v:V}(e:H a=some (.dK kvs))(b:kvs.length<dF):xn H a (kV k) v (upd H a (.dK (g9 kvs k v))):=.inl ⟨kvs,k,e,rfl,b,rfl⟩
theorem xn.t{H:Hp}{a b:dy}{kvs:List (List Key×V)}{k:List Key}{v:V}(e:H a=some (.dT kvs))(c:H b=some (.tup (k.map kV)))(d:kvs.length<dF):
  xn H a (.ref b) v (upd H a (.dT (g9 kvs k v))):=.inr ⟨kvs,k,b,e,rfl,c,d,rfl⟩
section
variable{X:Cx}{pins:List (dy×Obj)}{σ:St}{H:Hp}{s:dw}{a:dy}{y v:V}{u r:dr}{o:Option V}{A:dA}{E:dr->dw->Prop}
theorem Inv.big(I:Inv X pins σ H s):sysModules<s.heap.objs.size:=by
 have h:dD<s.heap.objs.size:=(I.mod.glob.keeps I.bk).lt;exact bg (by decide) h
theorem w5{Q:dr->dw->Prop}(w:A.units+1<cLine)(I:Inv X pins σ H s)(g:nM H a y (some v))(n:dX y u)(h:∀ f s',Inv X pins σ H s'->dX v f->Q f s'):
  dG (model X.prog X.w) A (getItem (.ref a) u) Q E s:=by
 rcases g with⟨kvs,k,e,m,l⟩|⟨kvs,k,b,e,m,q,l⟩
 ·subst m;obtain⟨z,r,vs,c,dd⟩:=sm I.hok e;obtain⟨f,j,d⟩:=kZ.some_of (v:=v) (o:=valueAt vs k) (by rw[l];exact c.val k);exact wpAny_getItem_of (oo n) dd.mapOf j (h f _ (I.tok _) d)
 ·subst m;cases(show u=Value.ref b from n);obtain⟨z,r,xs,c,dd⟩:=sj I.hok e;obtain⟨f,j,d⟩:=kZ.some_of (v:=v) (o:=(atKey xs k).map (·.2)) (by rw[l];exact c.val k);obtain⟨p,t,i⟩:=oM1.mp j;refine wpAny_getItem_heap (tupleKind_room_in1 w) (mK I.hok q) dd t ?_;rw[i];exact h f _ (I.tok _) d
theorem II{Q:dr->dw->Prop}(m:A.units+1<cLine)(I:Inv X pins σ H s)(g:nM H a y o)(i:dX y u)(h:∀ s',Inv X pins σ H s'->Q (.bool o.isSome) s'):
  dG (model X.prog X.w) A (compareOp .In u (.ref a)) Q E s:=by
 rcases g with⟨kvs,k,e,f,l⟩|⟨kvs,k,b,e,f,j,l⟩
 ·subst f;obtain⟨z,d,vs,c,dd⟩:=sm I.hok e;refine wpAny_in_of (oo i) d dd.mapOf ?_;rw[<- (c.val k).isSome_eq,<- l];exact h _ (I.tok _)
 ·subst f;cases(show u=Value.ref b from i);obtain⟨z,d,xs,c,dd⟩:=sj I.hok e;refine wpAny_in_heap (tupleKind_room_in1 m) (mK I.hok j) d dd ?_;have q:=(c.val k).isSome_eq;rw[bf]at q;rw[<- q,<- l];exact h _ (I.tok _)
theorem Cf{Q:dr->dw->Prop}(m:A.units+1<cLine)(I:Inv X pins σ H s)(g:nM H a y o)(i:dX y u)(h:∀ s',Inv X pins σ H s'->Q (.bool (!o.isSome)) s'):
  dG (model X.prog X.w) A (compareOp .NotIn u (.ref a)) Q E s:=by
 rcases g with⟨kvs,k,e,f,l⟩|⟨kvs,k,b,e,f,j,l⟩
 ·subst f;obtain⟨z,d,vs,c,dd⟩:=sm I.hok e;refine wpAny_notIn_of (oo i) d dd.mapOf ?_;rw[<- (c.val k).isSome_eq,<- l];exact h _ (I.tok _)
 ·subst f;cases(show u=Value.ref b from i);obtain⟨z,d,xs,c,dd⟩:=sj I.hok e;refine wpAny_notIn_heap (tupleKind_room_in1 m) (mK I.hok j) d dd ?_;have q:=(c.val k).isSome_eq;rw[bf]at q;rw[<- q,<- l];exact h _ (I.tok _)
theorem km{h':dH}{t':Nat}{c:HO}(I:Inv X pins σ H s)(mu:Mut (H a))(hs:Heap.SameBut a s.heap h')(he:∃ q,h'.get? a=some q)(new:ew X.prog X.w (upd H a c) h' a c):
  Inv X pins σ (upd H a c) {s with heap:=h',toks:=t'}:=
 I.write (x:=a) (e:=a) mu (.inl rfl) (fun b q d z=>(hs.2 b d).trans z) he new
theorem zX{P:dz}{w:dB}{H':Hp}{h':dH}{kvs:List (Key×V)}{vs:List (Key×dr)}(z:kvs.length<=dF)(hd:(a == sysModules)=false)(b:KV kvs vs)(dd:h'.DictOf (eN P w) a vs):
  ew P w H' h' a (.dK kvs):=⟨z,hd,vs,b,dd⟩
theorem w4{H':Hp}{Q:Unit->dw->Prop}(G:A.units+1<cLine)(I:Inv X pins σ H s)(g:xn H a y v H')(x:dX y u)(C:dX v r)(h:∀ s',Inv X pins σ H' s'->Q () s'):
  dG (model X.prog X.w) A (setItem (.ref a) u r) Q E s:=by
 rcases g with⟨kvs,k,e,t,l,n⟩|⟨kvs,k,b,e,t,w,l,n⟩
 ·subst t n;obtain⟨z,o,vs,d,dd⟩:=vI I.hok e;have j:vs.length<=dF:=by rw[<- d.length];exact z
  have p:(g9 kvs k v).length<=dF:=by have:=iP kvs k v;lia
  refine wpAny_setItem_pairs (hsz:=j) (oo x) dd fun h' f m=>h _ ?_;have K:∃q,h'.get? a=some q:=let ⟨q,_,_,i,_⟩:=f;⟨q,i⟩
  exact km I (by rw[e];exact True.intro) m K (zX p o (d.put k C) f)
 ·subst t n;cases(show u=Value.ref b from x);obtain⟨z,o,xs,d,dd⟩:=G6 I.hok e;have j:xs.length<=dF:=by rw[<- Paired.length d];exact z
  have p:(g9 kvs k v).length<=dF:=by have:=iP kvs k v;lia
  refine wpAny_setItem_heap (hsz:=j) (tupleKind_room_in1 G) (mK I.hok w) dd fun h' f m=>h _ ?_;obtain⟨q,es,ep,i,h2,D,F,_,J⟩:=f;refine km I (by rw[e];exact True.intro) m ⟨q,i⟩ ⟨p,o,_,(d.put k w C).keeps fun c ys B=>?_,q,es,ep,i,h2,D,F,J⟩;rw[dR (Gs B e (fun z=>nomatch z))];exact B
end
section
variable{X:Cx}{pins:List (dy×Obj)}{σ:St}{H:Hp}{s:dw}{a:dy}{kvs:List (Key×V)}{k:Key}{u:dr}{A:dA}{E:dr->dw->Prop}
end
theorem ss{X:Cx}{pins:List (dy×Obj)}{σ:St}{H:Hp}{s:dw}{a:dy}{y:V}{o:Option V}(I:Inv X pins σ H s)(g:nM H a y o):s.TypeIs (.ref a) "dict":=by
 rcases g with⟨kvs,k,e,_,_⟩|⟨kvs,k,b,e,_,_,_⟩
 ·obtain⟨_,_,vs,_,dd⟩:=sm I.hok e;exact dd.typeIs
 ·obtain⟨_,_,xs,_,dd⟩:=sj I.hok e;exact dd.typeIs
section
variable{X:Cx}{o i e value:Expr}{pos pos' tpos:Pos}{td ty tv:TE}
end
theorem sn{P:dz}{w:dB}{H:Hp}(h:dH)(hb:sysModules<h.objs.size):ew P w H (h.push {cls:=.type "dict",data:=.dict #[]}) h.objs.size (.dK []):=
 ⟨bh _,beq_eq_false_iff_ne.mpr (Ne.symm (nN1 hb)),[],.nil,Heap.DictOf.new h⟩
noncomputable def Dl:TE:=fun _ H Q=>∀p,H p=none->Q (.ref p) (upd H p (.dK []))
section
variable{X:Cx}{pos:Pos}
theorem yE:PE X (.Dict [] [] pos) Dl:=fun pins s σ H Q I h=>
 wpAny_Dict_empty ⟨.ref s.heap.objs.size,_,I.laid (a:=s.heap.objs.size) (o:=.dK []) (t':=s.toks) (fun _ _ q=>hP1 _ q) (nR1 _) (sn s.heap I.big),rfl,h _ (I.hok.fresh (nR1 _))⟩
end
noncomputable def ph:List (TE×TE)->St->Hp->(List (V×V)->Hp->Prop)->Prop
 |[],_,H,Q=>Q [] H
 |(tk,tv)::r,σ,H,Q=>tk σ H fun x H1=>tv σ H1 fun y H2=>ph r σ H2 fun ps H3=>Q ((x,y)::ps) H3
abbrev VV:List (V×V)->List (dr×dr)->Prop:=Paired fun p q=>dX p.1 q.1/\dX p.2 q.2
noncomputable def Ho(X:Cx)(pos:Pos)(keys:List (Option Expr))(values:List Expr)(trs:List (TE×TE)):Prop:=
 ∀(pins:List (dy×Obj)) (s:dw) (σ:St) (H:Hp) (Q:List (V×V)->Hp->Prop),Inv X pins σ H s->ph trs σ H Q ->
  dG (model X.prog X.w) X.A (evalPairs (pairTrees keys values X.env pos)) (fun vs s'=>∃ps H',Inv X pins σ H' s'/\VV ps vs/\Q ps H') X.xe s
theorem AV{X:Cx}{pos:Pos}:Ho X pos [] [] []:=fun pins s σ H Q I h=>pairTrees_nil_walk ⟨[],H,I,.nil,h⟩
theorem yt{X:Cx}{pos:Pos}{k v:Expr}{ks:List (Option Expr)}{vs:List Expr}{tk tv:TE}{a:List (TE×TE)}(hk:PE X k tk)(hv:PE X v tv)(hr:Ho X pos ks vs a):
  Ho X pos (some k::ks) (v::vs) ((tk,tv)::a):=fun pins s σ H Q I h=>
 pairTrees_cons_walk (e6 (hk pins s σ H _ I h) fun u n ⟨x,H1,f,j,l⟩=>e6 (hv pins n σ H1 _ f l) fun q m ⟨y,H2,d,c,e⟩=>
  e6 (hr pins m σ H2 _ d e) fun ws p ⟨ps,i,o,b,g⟩=>⟨(x,y)::ps,i,o,.cons ⟨j,c⟩ b,g⟩)
noncomputable def iq(kvs more:List (Key×V)):List (Key×V):=more.foldl (fun acc kv=>g9 acc kv.1 kv.2) kvs
theorem KV.merge:∀{more:List (Key×V)} {rs:List (Key×dr)} {kvs:List (Key×V)} {vs:List (Key×dr)},KV more rs->KV kvs vs->KV (iq kvs more) (merged vs rs):=by
 intro more rs kvs vs r;unfold KV at r
 induction r generalizing kvs vs with
 |nil=>intro q;exact q
 | @cons p q ps b h t ih=>
  intro a;have e:KV (g9 kvs p.1 p.2) (stored vs q.1 q.2):=by
   have:=a.put p.1 h.2;rw[<- h.1];exact this
  exact ih e
theorem jr:∀(more kvs:List (Key×V)),(iq kvs more).length<=kvs.length+more.length
 |[],kvs=>by show kvs.length<=kvs.length+0;lia
 |p::r,kvs=>by
  have h1:=jr r (g9 kvs p.1 p.2);have h2:=iP kvs p.1 p.2;show(iq (g9 kvs p.1 p.2) r).length<=_;rw[lC1];lia
theorem m6{P:dz}{w:dB}:∀{kvs:List (Key×V)} {ws:List (dr×dr)},VV (kvs.map fun d=>(kV d.1,d.2)) ws -> ∃rs,Carries (eN P w) ws rs/\KV kvs rs
 |[],_,r=>by rw[aZ]at r;cases r;exact⟨[],True.intro,.nil⟩
 |p::kvs,_,r=>by
  rw[mP1]at r;cases r with
  | @cons a b as bs h t=>
   obtain⟨rs,c,q⟩:=m6 (P:=P) (w:=w) t;obtain⟨b1,b2⟩:=b;exact⟨(p.1,b2)::rs,⟨oo h.1,rfl,c⟩,.cons ⟨rfl,h.2⟩ q⟩
noncomputable def FZ(trs:List (TE×TE)):TE:=fun σ H Q=>∀p,H p=none->ph trs σ (upd H p (.dK [])) fun ps H2=>H2 p=some (.dK []) /\ ∃kvs:List (Key×V),ps=kvs.map (fun kv=>(kV kv.1,kv.2))/\kvs.length<=15/\Q (.ref p) (upd H2 p (.dK (iq [] kvs)))
theorem A3{X:Cx}{pos:Pos}{keys:List (Option Expr)}{values:List Expr}{b:List (TE×TE)}(h:Ho X pos keys values b)(d:keys.all (·.isSome)=true)(t:keys.length=values.length)(h0:keys≠[])(i:keys.length<=15):PE X (.Dict keys values pos) (FZ b):=by
 intro pins s σ H Q I q;have u:=I.hok.fresh (nR1 s.heap.objs.size);have p:=I.laid (a:=s.heap.objs.size) (o:=.dK []) (h':=s.heap.push {cls:=.type "dict",data:=.dict #[]}) (t':=s.toks) (fun _ _ q=>hP1 _ q) (nR1 _) (sn s.heap I.big);refine wpAny_Dict_walk (knd:=eN X.prog X.w) d t h0 i (e6 (h pins _ σ _ _ p (q _ u)) fun ws y ⟨ps,H2,j,g,e,kvs,ep,A,n⟩=>?_);subst ep;obtain⟨rs,c,rk⟩:=m6 (P:=X.prog) (w:=X.w) g;obtain⟨z,m,r,v,dd⟩:=vI j.hok e;cases v;refine⟨rs,c,dd,fun h' f l=>⟨.ref s.heap.objs.size,_,?_,rfl,n⟩⟩;have k:(iq [] kvs).length<=dF:=by
  have h1:=jr kvs [];rw[bd]at h1;rw[sizeLine_eq];lia
 have x:∃q,h'.get? s.heap.objs.size=some q:=let ⟨q,_,_,hq,_⟩:=f;⟨q,hq⟩
 exact km j (by rw[e];exact True.intro) l x (zX k m (rk.merge .nil) f)
structure M1 (X:Cx)(o:Expr)(m:Str)(apos:Pos)(e:Expr)(cpos:Pos):Prop where
 base:attributeBase o m X.env (eval o X.env)=eval o X.env
 few:((backTo cpos (dE [e] X.env)).all (fun x=> !x.1)&&(backToKw cpos (keywordEach [] X.env)).all (fun x=>x.1.isSome)
  && decide (([e]:List Expr).length+([]:List Keyword).length+(if([]:List Keyword).isEmpty then 0 else 1)<30))=true
 line:(apos.endLine == cpos.line)=true
 trees:backTo cpos (dE [e] X.env)=[(false,eval e X.env)]
structure M2 (X:Cx)(o:Expr)(m:Str)(apos:Pos)(e f:Expr)(cpos:Pos):Prop where
 base:attributeBase o m X.env (eval o X.env)=eval o X.env
 few:((backTo cpos (dE [e,f] X.env)).all (fun x=> !x.1)&&(backToKw cpos (keywordEach [] X.env)).all (fun x=>x.1.isSome)
  && decide (([e,f]:List Expr).length+([]:List Keyword).length+(if([]:List Keyword).isEmpty then 0 else 1)<30))=true
 line:(apos.endLine == cpos.line)=true
 trees:backTo cpos (dE [e,f] X.env)=[(false,eval e X.env),(false,eval f X.env)]
section
variable{X:Cx}{pins:List (dy×Obj)}{σ:St}{H:Hp}{s:dw}{a:dy}{y d:V}{u r:dr}{o:Option V}{A:dA}{E:dr->dw->Prop}
end
section
variable{X:Cx}{o e f:Expr}{apos cpos:Pos}{td ty tx:TE}
end
section
variable{X:Cx}{pins:List (dy×Obj)}{σ:St}{H:Hp}{s:dw}{a:dy}{kvs:List (Key×V)}{A:dA}{E:dr->dw->Prop}
end
section
variable{X:Cx}{pins:List (dy×Obj)}{σ:St}{H:Hp}{s:dw}{a:dy}{y:V}{u:dr}{A:dA}{E:dr->dw->Prop}
end
end L2
namespace Mi
open PySem PySem.Spec PyProof.Rows L2
inductive TK where
 |non|int (i:Int)|tup (xs:List TK)
instance:DecidableEq TK:=fun _ _=>Classical.propDecidable _
mutual
noncomputable def TK.hash:TK->Int
 | .non=>0xFCA86420
 | .int i=>hashInt i
 | .tup xs=>reduceHash (Builtin.Tuple.tupleHashOf (TK.hashes xs))
noncomputable def TK.hashes:List TK->List Int
 |[]=>[]
 |x::xs=>TK.hash x::TK.hashes xs
end
mutual
noncomputable def TK.draws:TK->Nat
 | .non=>1
 | .int _=>1
 | .tup xs=>TK.drawsAll xs+1
noncomputable def TK.drawsAll:List TK->Nat
 |[]=>0
 |x::xs=>TK.draws x+TK.drawsAll xs
end
mutual
noncomputable def TK.dep:TK->Nat
 | .non=>0
 | .int _=>0
 | .tup xs=>TK.depAll xs+1
noncomputable def TK.depAll:List TK->Nat
 |[]=>0
 |x::xs=>max (TK.dep x) (TK.depAll xs)
end
theorem TK.dep_mem:∀{xs:List TK} {x:TK},x∈xs->x.dep<=TK.depAll xs
 |y::ys,x,h=>by
  rw[TK.depAll];rcases aF.mp h with e|e
  ·rw[e];exact Nat.le_max_left _ _
  ·exact aC (TK.dep_mem e) (Nat.le_max_right _ _)
theorem TK.hashes_app:∀a b:List TK,TK.hashes (a++b)=TK.hashes a++TK.hashes b
 |[],_=>rfl
 |x::xs,b=>by rw[bi,TK.hashes,TK.hashes,TK.hashes_app xs b];rfl
theorem TK.draws_app:∀a b:List TK,TK.drawsAll (a++b)=TK.drawsAll a+TK.drawsAll b
 |[],_=>by simp[TK.drawsAll]
 |x::xs,b=>by rw[bi,TK.drawsAll,TK.drawsAll,TK.draws_app xs b,bj]
noncomputable def uk(xs:Array Nat):Prop:=xs.toList.Pairwise (· < ·)
noncomputable def CC(m:Nat):Nat->Nat->Nat->List Nat
 |0,_,_=>[]
 |n+1,i,b=>List.range' i (SetTable.runEnd m i-i+1)++CC m n (SetTable.leap m i b).1 (SetTable.leap m i b).2
noncomputable def JA(m:Nat):Prop:=m=7\/m=31\/m=127
noncomputable def Ie(m:Nat)(h:Int):List Nat:=CC m (SetTable.turns m) (SetTable.bits h%(m+1)) (SetTable.bits h)
noncomputable def Ih(m:Nat)(occ:List Nat)(h:Int)(j:Nat):Prop:=∃pre post,Ie m h=pre++j::post /\ ∀y∈pre,y∈occ
structure Ig (es:Array (Int×dr))(t:SetTable):Prop where
 mks:JA t.mask
 up:uk t.place
 du:t.dummies = #[]
 sz:t.place.size=es.size
 le:∀j∈t.place.toList,j<=t.mask
 fl:es.size<=t.mask
 rc:∀z∈t.place.toList.zip es.toList,Ih t.mask t.place.toList z.2.1 z.1
noncomputable def stO(es:Array (Int×dr))(ep:Nat)(t:SetTable):Obj:={cls:=.type "set",dict:=none,data:=.set es ep t,slots:= #[]}
noncomputable def Hn(a:dy)(xs:List (TK×dy×dr))(h:dH):Prop:=(xs.map (·.1)).Nodup /\ ∃es ep t,h.get? a=some (stO es ep t)/\Ig es t/\t.tooFull=false/\(∀e∈es.toList,∃z∈xs,e=(z.1.hash,.ref z.2.1))/\(∀z∈xs,(z.1.hash,Value.ref z.2.1)∈es.toList)/\es.size=xs.length
inductive D where
 |non|bl (b:Bool)|int (i:Int)|str (x:Str)|tup (xs:List D)|rol (xs:List D)|ref (n:Nat)|fn (x:Str)
inductive Ob where
 |lst (xs:List D)|dct (kvs:List (Key×D))|dcT (kvs:List (TK×D))|iset (xs:List Int)|dcF (kvs:List (TK×D))|tst (ks:List TK)
abbrev Sto:=List Ob
abbrev Ev:=List (Option D)
abbrev FE:=Ev->Sto->Option (D×Sto)
abbrev FT:=Ev->Sto->Option (Bool×Sto)
abbrev FA:=Ev->Sto->Option (List D×Sto)
abbrev FN:=List D->Sto->Option (D×Sto)
inductive Fl where
 |nx|rt (d:D)|bk|ct
abbrev FS:=Ev->Sto->Option (Fl×Ev×Sto)
noncomputable def RoL(K:Fg1)(H:Hp)(a:dy)(xs:List V):Prop:=(∃o,H a=some (.frz o (.lst xs))) \/
 ∃(o:Obj) (its:Array dr) (n:Nat),K.lookup a=some o/\o.cls = .type "list"/\o.dict=none/\o.data = .seq its n/\its.size<=dF/\ea xs its.toList
theorem RoL.sq{K:Fg1}{H:Hp}{a:dy}{xs:List V}(h:RoL K H a xs):lJ K H a xs:=h.elim (fun⟨o,q⟩=>.inl (.inr ⟨o,q⟩)) .inr
mutual
inductive eB (K:Fg1)(H:Hp)(mu:List dy):D->V->Prop
 |non:eB K H mu .non .non
 |bl (b:Bool):eB K H mu (.bl b) (.bl b)
 |int (i:Int):eB K H mu (.int i) (.int i)
 |str (x:Str):eB K H mu (.str x) (.str x)
 |tup {ds:List D} {vs:List V} {a:dy} (h:jA K H a vs) (r:dW K H mu ds vs):eB K H mu (.tup ds) (.ref a)
 |rol {ds:List D} {vs:List V} {a:dy} (h:RoL K H a vs) (r:dW K H mu ds vs):eB K H mu (.rol ds) (.ref a)
 |ref {n:Nat} {a:dy} (h:mu[n]?=some a):eB K H mu (.ref n) (.ref a)
 |fn {x:Str} {a:dy} (h:wN1 K dD x=some (some (.ref a))):eB K H mu (.fn x) (.ref a)
inductive dW (K:Fg1)(H:Hp)(mu:List dy):List D->List V->Prop
 |nil:dW K H mu [] []
 |cons {d:D} {v:V} {ds:List D} {vs:List V} (r:eB K H mu d v) (t:dW K H mu ds vs):dW K H mu (d::ds) (v::vs)
end
structure Ext (mu mu':List dy)(H H':Hp):Prop where
 pre:mu <+: mu'
 old:∀a o,H a=some o->a∉mu->H' a=some o
 tup:∀a xs,Rd H a (.tup xs)->Rd H' a (.tup xs)
 frz:∀a o u,H a=some (.frz o u)->H' a=some (.frz o u)
 new:∀a∈mu',a∈mu\/H a=none
theorem Ext.refl(mu:List dy)(H:Hp):Ext mu mu H H:=⟨bm,fun _ _ h _=>h,fun _ _ h=>h,fun _ _ _ h=>h,fun _ h=>.inl h⟩
theorem Ext.trans{mu m1 m2:List dy}{H H1 H2:Hp}(a:Ext mu m1 H H1)(b:Ext m1 m2 H1 H2):Ext mu m2 H H2 where
 pre:=a.pre.trans b.pre
 old:=fun c o h n=>b.old c o (a.old c o h n) fun z=>by
  rcases a.new c z with q|q
  ·exact n q
  ·rw[h]at q;cases q
 tup:=fun c xs h=>b.tup c xs (a.tup c xs h)
 frz:=fun c o u h=>b.frz c o u (a.frz c o u h)
 new:=fun c h=>by
  rcases b.new c h with q|q
  ·exact a.new c q
  ·by_cases z:c∈mu
   ·exact .inl z
   ·right;cases e:H c with
    |none=>rfl
    |some o=>rw[a.old c o e z]at q;cases q
theorem Ext.at{mu mu':List dy}{H H':Hp}(e:Ext mu mu' H H'){n:Nat}{a:dy}(h:mu[n]?=some a):mu'[n]?=some a:=by
 obtain⟨t,rfl⟩:=e.pre;have b:n<mu.length:=(gE1.mp h).1;rw[gL1 b];exact h
theorem Ext.back{mu mu':List dy}{H H':Hp}(e:Ext mu mu' H H'):Ext mu mu H H':=⟨bm,e.old,e.tup,e.frz,fun _ h=>.inl h⟩
structure qq (mu mu':List dy)(H H':Hp):Prop where
 pre:mu <+: mu'
 tup:∀a xs,Rd H a (.tup xs)->Rd H' a (.tup xs)
 frz:∀a o u,H a=some (.frz o u)->H' a=some (.frz o u)
theorem Ext.w{mu mu':List dy}{H H':Hp}(e:Ext mu mu' H H'):qq mu mu' H H':=⟨e.pre,e.tup,e.frz⟩
theorem qq.trans{mu m1 m2:List dy}{H H1 H2:Hp}(a:qq mu m1 H H1)(b:qq m1 m2 H1 H2):qq mu m2 H H2:=⟨a.pre.trans b.pre,fun c xs h=>b.tup c xs (a.tup c xs h),fun c o u h=>b.frz c o u (a.frz c o u h)⟩
theorem qq.at{mu mu':List dy}{H H':Hp}(e:qq mu mu' H H'){n:Nat}{a:dy}(h:mu[n]?=some a):mu'[n]?=some a:=by
 obtain⟨t,rfl⟩:=e.pre;have b:n<mu.length:=(gE1.mp h).1;rw[gL1 b];exact h
structure xw (mu mu':List dy)(H H':Hp):Prop where
 pre:mu <+: mu'
 tup:∀a xs,Rd H a (.tup xs)->Rd H' a (.tup xs)
 frl:∀a o xs,H a=some (.frz o (.lst xs))->H' a=some (.frz o (.lst xs))
theorem qq.v{mu mu':List dy}{H H':Hp}(e:qq mu mu' H H'):xw mu mu' H H':=⟨e.pre,e.tup,fun a o xs h=>e.frz a o _ h⟩
theorem Ext.v{mu mu':List dy}{H H':Hp}(e:Ext mu mu' H H'):xw mu mu' H H':=e.w.v
theorem xw.at{mu mu':List dy}{H H':Hp}(e:xw mu mu' H H'){n:Nat}{a:dy}(h:mu[n]?=some a):mu'[n]?=some a:=by
 obtain⟨t,rfl⟩:=e.pre;have b:n<mu.length:=(gE1.mp h).1;rw[gL1 b];exact h
theorem jA.exv{K:Fg1}{mu mu':List dy}{H H':Hp}{a:dy}{vs:List V}(e:xw mu mu' H H')(h:jA K H a vs):jA K H' a vs:=by
 rcases h with h|h
 ·exact .inl (e.tup a vs h)
 ·exact .inr h
theorem RoL.exv{K:Fg1}{mu mu':List dy}{H H':Hp}{a:dy}{vs:List V}(e:xw mu mu' H H')(h:RoL K H a vs):RoL K H' a vs:=by
 rcases h with⟨o,h⟩|h
 ·exact .inl ⟨o,e.frl a o _ h⟩
 ·exact .inr h
theorem eB.exv{K:Fg1}{mu mu':List dy}{H H':Hp}(e:xw mu mu' H H'):∀ {d:D} {v:V},eB K H mu d v->eB K H' mu' d v:=fun h=>h.rec (motive_1:=fun d v _=>eB K H' mu' d v) (motive_2:=fun ds vs _=>dW K H' mu' ds vs)
  .non .bl .int .str (fun h _ ih=>.tup (jA.exv e h) ih) (fun h _ ih=>.rol (RoL.exv e h) ih) (fun h=>.ref (e.at h)) (fun h=>.fn h) .nil (fun _ _ a b=>.cons a b)
theorem dW.ind{K:Fg1}{mu:List dy}{H:Hp}{P:(ds:List D)->(vs:List V)->dW K H mu ds vs->Prop}(hn:P [] [] .nil)(hc:∀{d v ds vs} (r:eB K H mu d v) (t:dW K H mu ds vs),P ds vs t->P (d::ds) (v::vs) (.cons r t)){ds:List D}{vs:List V}(h:dW K H mu ds vs):P ds vs h:=
 h.rec (motive_1:=fun _ _ _=>True) (motive_2:=P) trivial (fun _=>trivial) (fun _=>trivial) (fun _=>trivial) (fun _ _ _=>trivial) (fun _ _ _=>trivial) (fun _=>trivial) (fun _=>trivial) hn (fun r t _ ih=>hc r t ih)
theorem dW.exv{K:Fg1}{mu mu':List dy}{H H':Hp}(e:xw mu mu' H H'):∀{ds:List D} {vs:List V},dW K H mu ds vs->dW K H' mu' ds vs:=fun h=>h.ind (P:=fun ds vs _=>dW K H' mu' ds vs) .nil fun r _ ih=>.cons (eB.exv e r) ih
section
variable{K:Fg1}{mu mu':List dy}{H H':Hp}{a:dy}{vs:List V}
theorem eB.exw(e:qq mu mu' H H'){d:D}{v:V}(h:eB K H mu d v):eB K H' mu' d v:=h.exv e.v
theorem dW.exw(e:qq mu mu' H H'){ds:List D}(h:dW K H mu ds vs):dW K H' mu' ds vs:=h.exv e.v
theorem eB.ext(e:Ext mu mu' H H'){d:D}{v:V}(h:eB K H mu d v):eB K H' mu' d v:=h.exv e.v
theorem dW.ext(e:Ext mu mu' H H'){ds:List D}(h:dW K H mu ds vs):dW K H' mu' ds vs:=h.exv e.v
end
section
variable{K:Fg1}{H:Hp}{mu:List dy}
theorem dW.length:∀{ds:List D} {vs:List V},dW K H mu ds vs->ds.length=vs.length:=fun h=>h.ind (P:=fun ds vs _=>ds.length=vs.length) rfl fun _ _ ih=>congrArg (· + 1) ih
theorem dW.get:∀{ds:List D} {vs:List V} {i:Nat} {d:D},dW K H mu ds vs->ds[i]?=some d -> ∃v,vs[i]?=some v/\eB K H mu d v:=by
 intro ds vs i d h e
 induction h using dW.ind generalizing i with
 |hn=>cases e
 |hc r t ih=>cases i with
  |zero=>cases e;exact⟨_,rfl,r⟩
  |succ i=>exact ih (i:=i) e
theorem dW.getV:∀{ds:List D} {vs:List V} {i:Nat} {v:V},dW K H mu ds vs->vs[i]?=some v -> ∃d,ds[i]?=some d/\eB K H mu d v:=by
 intro ds vs i d h e
 induction h using dW.ind generalizing i with
 |hn=>cases e
 |hc r t ih=>cases i with
  |zero=>cases e;exact⟨_,rfl,r⟩
  |succ i=>exact ih (i:=i) e
theorem dW.append:∀{ds es:List D} {vs ws:List V},dW K H mu ds vs->dW K H mu es ws->dW K H mu (ds++es) (vs++ws):=fun h s=>h.ind (P:=fun ds vs _=>dW K H mu (ds++_) (vs++_)) s fun r _ ih=>.cons r ih
theorem dW.take:∀{ds:List D} {vs:List V} (n:Nat),dW K H mu ds vs->dW K H mu (ds.take n) (vs.take n):=by
 intro ds vs n h
 induction h using dW.ind generalizing n with
 |hn=>rw[av,av];exact .nil
 |hc r t ih=>cases n with
  |zero=>exact .nil
  |succ n=>exact .cons r (ih n)
theorem dW.drop:∀{ds:List D} {vs:List V} (n:Nat),dW K H mu ds vs->dW K H mu (ds.drop n) (vs.drop n):=by
 intro ds vs n h
 induction h using dW.ind generalizing n with
 |hn=>rw[aw,aw];exact .nil
 |hc r t ih=>cases n with
  |zero=>exact .cons r t
  |succ n=>exact ih n
theorem dW.set{d:D}{v:V}(r:eB K H mu d v):∀{ds:List D} {vs:List V} (i:Nat),dW K H mu ds vs->dW K H mu (ds.set i d) (vs.set i v):=by
 intro ds vs i h
 induction h using dW.ind generalizing i with
 |hn=>exact .nil
 |hc q t ih=>cases i with
  |zero=>exact .cons r t
  |succ i=>exact .cons q (ih i)
theorem dW.eraseIdx:∀{ds:List D} {vs:List V} (i:Nat),dW K H mu ds vs->dW K H mu (ds.eraseIdx i) (vs.eraseIdx i):=by
 intro ds vs i h
 induction h using dW.ind generalizing i with
 |hn=>exact .nil
 |hc q t ih=>cases i with
  |zero=>exact t
  |succ i=>exact .cons q (ih i)
end
noncomputable def KR{κ:Type}(K:Fg1)(H:Hp)(mu:List dy):List (κ×D)->List (κ×V)->Prop:=Paired fun p q=>p.1=q.1/\eB K H mu p.2 q.2
mutual
noncomputable def tkD:TK->D
 | .non=>.non
 | .int i=>.int i
 | .tup xs=>.tup (iD xs)
noncomputable def iD:List TK->List D
 |[]=>[]
 |x::xs=>tkD x::iD xs
end
noncomputable def fO(a:dy)(xs:List (TK×dy×dr))(h:dH):Prop:=(a == sysModules)=false/\(xs.map (·.1)).Nodup /\ ∃o es ep,h.get? a=some o/\o.ExactDict/\o.data = .dict es ep/\es.toList=xs.map fun x=>(⟨x.1.hash,.ref x.2.1,x.2.2⟩:DictEntry)
noncomputable def vZ(a:dy)(xs:List (TK×dy×dr))(o:Obj):Prop:=(a == sysModules)=false/\(xs.map (·.1)).Nodup/\o.ExactDict /\ ∃es ep,o.data = .dict es ep/\es.toList=xs.map fun x=>(⟨x.1.hash,.ref x.2.1,x.2.2⟩:DictEntry)
noncomputable def KT(K:Fg1)(H:Hp)(mu:List dy):List (TK×D)->List (TK×dy×dr)->Prop:=Paired fun p q=>p.1=q.1/\p.1.dep<=8/\eB K H mu (tkD p.1) (.ref q.2.1) /\ ∃v,dX v q.2.2/\eB K H mu p.2 v
noncomputable def k0(K:Fg1)(H:Hp)(mu:List dy)(a:dy):Ob->Prop
 | .lst ds=>∃vs,H a=some (.lst vs)/\dW K H mu ds vs
 | .dct kvs=>∃ws,H a=some (.dK ws)/\KR K H mu kvs ws
 | .dcT kvs=>∃xs,H a=some (.ext (fO a xs))/\KT K H mu kvs xs/\xs.length<=dF
 | .iset xs=>H a=some (.set (fun k=>xs.contains k) xs.length)/\xs.Nodup
 | .dcF kvs=>∃xs,(∃o u,H a=some (.frz o u)/\vZ a xs o)/\KT K H mu kvs xs/\xs.length<=dF
 | .tst ks=>∃xs,H a=some (.ext (Hn a xs))/\KT K H mu (ks.map fun k=>(k,D.non)) xs
structure Sim (K:Fg1)(H:Hp)(mu:List dy)(S:Sto):Prop where
 len:mu.length=S.length
 nd:mu.Nodup
 ob:∀(n:Nat) (o:Ob) (a:dy),S[n]?=some o->mu[n]?=some a->k0 K H mu a o
structure fj (K:Fg1)(H:Hp)(mu:List dy)(r:Ev)(σ:L2.St):Prop where
 len:r.length=σ.length
 val:∀(i:Nat) (d:D),r[i]?=some (some d) -> ∃v,σ[i]?=some (some v)/\eB K H mu d v
theorem fj.ext{K:Fg1}{mu mu':List dy}{H H':Hp}{r:Ev}{σ:L2.St}(e:Ext mu mu' H H')(h:fj K H mu r σ):fj K H' mu' r σ:=⟨h.len,fun i d q=>by
 obtain⟨v,b,a⟩:=h.val i d q;exact⟨v,b,a.ext e⟩⟩
theorem KR.ext{κ:Type}{K:Fg1}{mu mu':List dy}{H H':Hp}{ks:List (κ×D)}{ws:List (κ×V)}(e:Ext mu mu' H H')(h:KR K H mu ks ws):KR K H' mu' ks ws:=
 Paired.mapP h fun _ _ z=>⟨z.1,z.2.ext e⟩
theorem KT.ext{K:Fg1}{mu mu':List dy}{H H':Hp}{ks:List (TK×D)}{ws:List (TK×dy×dr)}(e:Ext mu mu' H H')(h:KT K H mu ks ws):KT K H' mu' ks ws:=
 Paired.mapP h fun _ _ ⟨z,d,k,v,a,r⟩=>⟨z,d,k.ext e,v,a,r.ext e⟩
theorem Sim.nil{K:Fg1}{H:Hp}:Sim K H [] []:=⟨rfl,bn,fun n o a h=>by simp at h⟩
theorem Sim.here{K:Fg1}{H:Hp}{mu:List dy}{S:Sto}(s:Sim K H mu S){a:dy}(h:a∈mu):∃o,H a=some o:=by
 obtain⟨n,b⟩:=bo h;have c:n<S.length:=by rw[<- s.len];exact(gE1.mp b).1
 have q:=s.ob n _ a (gG1 c) b;cases e:S[n]with
 |lst ds=>rw[e]at q;obtain⟨vs,z,_⟩:=q;exact⟨_,z⟩
 |dct ks=>rw[e]at q;obtain⟨vs,z,_⟩:=q;exact⟨_,z⟩
 |dcT ks=>rw[e]at q;obtain⟨vs,z,_⟩:=q;exact⟨_,z⟩
 |iset xs=>rw[e]at q;exact⟨_,q.1⟩
 |dcF ks=>rw[e]at q;obtain⟨vs,⟨_,_,z,_⟩,_⟩:=q;exact⟨_,z⟩
 |tst ks=>rw[e]at q;obtain⟨vs,z,_⟩:=q;exact⟨_,z⟩
noncomputable def nN(K:Fg1)(mu:List dy)(H:Hp)(d:D)(S':Sto)(Q:VK):Prop:=∀v H' mu',Ext mu mu' H H'->eB K H' mu' d v->Sim K H' mu' S'->Q v H'
inductive tM (K:Fg1)(m:FE)(σ:L2.St)(H:Hp)(Q:VK):Prop
 |mk (r:Ev) (mu:List dy) (S:Sto) (d:D) (S':Sto) (he:fj K H mu r σ) (hs:Sim K H mu S) (hm:m r S=some (d,S')) (hc:nN K mu H d S' Q)
inductive xV (K:Fg1)(m:FT)(σ:L2.St)(H:Hp)(Q:Bool->Hp->Prop):Prop
 |mk (r:Ev) (mu:List dy) (S:Sto) (b:Bool) (S':Sto) (he:fj K H mu r σ) (hs:Sim K H mu S) (hm:m r S=some (b,S')) (hc:∀H' mu',Ext mu mu' H H'->Sim K H' mu' S'->Q b H')
inductive I0 (K:Fg1)(m:FA)(σ:L2.St)(H:Hp)(Q:List V->Hp->Prop):Prop
 |mk (r:Ev) (mu:List dy) (S:Sto) (ds:List D) (S':Sto) (he:fj K H mu r σ) (hs:Sim K H mu S) (hm:m r S=some (ds,S')) (hc:∀vs H' mu',Ext mu mu' H H'->dW K H' mu' ds vs->Sim K H' mu' S'->Q vs H')
noncomputable def HX(K:Fg1)(mu:List dy)(H:Hp)(r':Ev)(S':Sto)(E:i7)(f:Fl):Prop:=match f with
 | .nx=>∀ σ' H' mu',Ext mu mu' H H'->fj K H' mu' r' σ'->Sim K H' mu' S'->E.nx σ' H'
 | .bk=>∀ σ' H' mu',Ext mu mu' H H'->fj K H' mu' r' σ'->Sim K H' mu' S'->E.bk σ' H'
 | .ct=>∀ σ' H' mu',Ext mu mu' H H'->fj K H' mu' r' σ'->Sim K H' mu' S'->E.ct σ' H'
 | .rt d=>nN K mu H d S' E.rt
inductive uE (K:Fg1)(m:FS)(E:i7)(σ:L2.St)(H:Hp):Prop
 |mk (r:Ev) (mu:List dy) (S:Sto) (f:Fl) (r':Ev) (S':Sto) (he:fj K H mu r σ) (hs:Sim K H mu S) (hm:m r S=some (f,r',S')) (hc:HX K mu H r' S' E f)
inductive rN (K:Fg1)(f:FN)(vs:List V)(H:Hp)(Q:VK):Prop
 |mk (mu:List dy) (S:Sto) (ds:List D) (d:D) (S':Sto) (hr:dW K H mu ds vs) (hs:Sim K H mu S) (hm:f ds S=some (d,S')) (hc:nN K mu H d S' Q)
abbrev ME(X:Cx)(e:Expr)(m:FE):Prop:=PE X e (tM X.K m)
abbrev MT(X:Cx)(e:Expr)(m:FT):Prop:=PT X e (xV X.K m)
abbrev MW(X:Cx)(e:Expr)(m:FT):Prop:=PW X e (xV X.K m)
abbrev MA(X:Cx)(es:List Expr)(m:FA):Prop:=PA X es (I0 X.K m)
abbrev MS(X:Cx)(st:dJ)(m:FS):Prop:=PS X st (uE X.K m)
abbrev xk(X:Cx)(st:List dJ)(m:FS):Prop:=sO X st (uE X.K m)
section
variable{X:Cx}{e:Expr}{es:List Expr}{st:dJ}{sts:List dJ}
theorem eU{t t':TE}(h:PE X e t)(i:∀ σ H Q,t' σ H Q->t σ H Q):PE X e t':=fun pins s σ H Q I q=>h pins s σ H Q I (i σ H Q q)
theorem tz{t t':TT}(h:PT X e t)(i:∀ σ H Q,t' σ H Q->t σ H Q):PT X e t':=fun pins s σ H Q I q=>h pins s σ H Q I (i σ H Q q)
theorem ym{t t':TT}(h:PW X e t)(i:∀ σ H Q,t' σ H Q->t σ H Q):PW X e t':=fun a pins s σ H Q I q=>h a pins s σ H Q I (i σ H Q q)
theorem yG{t t':TA}(h:PA X es t)(i:∀ σ H Q,t' σ H Q->t σ H Q):PA X es t':=fun pos pins s σ H Q I q=>h pos pins s σ H Q I (i σ H Q q)
theorem gU{t t':TS}(h:PS X st t)(i:∀E σ H,t' E σ H->t E σ H):PS X st t':=fun pins s σ H E I q=>h pins s σ H E I (i E σ H q)
theorem pG{t t':TS}(h:sO X sts t)(i:∀E σ H,t' E σ H->t E σ H):sO X sts t':=fun pins s σ H E I q=>h pins s σ H E I (i E σ H q)
end
noncomputable def mV (i:Nat):FE:=fun r S=>match r[i]? with
 |some (some d)=>some (d,S)
 |_=>none
noncomputable def mC (d:D):FE:=fun _ S=>some (d,S)
section
variable{X:Cx}{pos:Pos}
theorem Ew (i:Nat){x:Str}(hN:X.N[i]?=some x)(hv:Vis X.env.scope x)(hd:(x == ("__debug__":Str))=false:=by decide)(hcd:(x == ("__classdict__":Str))=false:=by decide):ME X (.Name x pos) (mV i):=
 eU (yB hN hv hd hcd) <| by
  rintro σ H Q ⟨r,mu,S,d,j,g,b,a,hc⟩;unfold mV at a;split at a
  ·rename_i h e;cases a;obtain⟨v,c,f⟩:=g.val i _ e;exact⟨v,c,hc v H mu (.refl _ _) f b⟩
  ·cases a
theorem y7{e:Expr}{v:V}(d:D)(h:PE X e (tC v))(hr:∀H mu,eB X.K H mu d v):ME X e (mC d):=
 eU h <| by
  rintro σ H Q ⟨r,mu,S,c,f,g,a,b,hc⟩;cases b;exact hc v H mu (.refl _ _) (hr H mu) a
theorem EC{i:Int}{j}:ME X (.Constant (.int i) j pos) (mC (.int i)):=y7 _ DY fun _ _=>.int i
theorem GA{b:Bool}{j}:ME X (.Constant (.bool b) j pos) (mC (.bl b)):=y7 _ Gh fun _ _=>.bl b
theorem EA{j}:ME X (.Constant .none j pos) (mC .non):=y7 _ DW fun _ _=>.non
theorem Ey{x:Str}{j}:ME X (.Constant (.str x) j pos) (mC (.str x)):=y7 _ DV fun _ _=>.str x
end
noncomputable def dN:FA:=fun _ S=>some ([],S)
noncomputable def dM (m:FE)(n:FA):FA:=fun r S=>(m r S).bind fun p=>(n r p.2).bind fun q=>some (p.1::q.1,q.2)
section
variable{X:Cx}{pos:Pos}{e:Expr}{es:List Expr}{m:FE}{n:FA}
theorem EE:MA X [] dN:=yG my <| by
 rintro σ H Q ⟨r,mu,S,ds,d,c,a,b,hc⟩;cases b;exact hc [] H mu (.refl _ _) .nil a
theorem Bw(h:ME X e m)(ht:MA X es n)(hs:dE (e::es) X.env=(false,eval e X.env)::dE es X.env:=by rfl):MA X (e::es) (dM m n):=
 yG (jd h ht hs) <| by
  rintro σ H Q ⟨r,mu,S,ds,s,j,hs,a,hc⟩;unfold dM at a;obtain⟨⟨d,g⟩,k,a⟩:=oB1.mp a;obtain⟨⟨c,t⟩,q,a⟩:=oB1.mp a;cases a;refine⟨r,mu,S,d,g,j,hs,k,fun v H1 mu1 i o p=>?_⟩;refine⟨r,mu1,g,c,_,j.ext i,p,q,fun vs H2 b f r2 l=>?_⟩;exact hc _ H2 b (i.trans f) (.cons (o.ext f) r2) l
end
noncomputable def m2 (f:FN)(a b:FE):FE:=fun r S=>(a r S).bind fun p=>(b r p.2).bind fun q=>f [p.1,q.1] q.2
noncomputable def m1 (f:FN)(a:FE):FE:=fun r S=>(a r S).bind fun p=>f [p.1] p.2
noncomputable def mN (f:FN)(a:FA):FE:=fun r S=>(a r S).bind fun p=>f p.1 p.2
abbrev r2(K:Fg1)(f:FN):R2:=fun x y H Q=>rN K f [x,y] H Q
section
variable{X:Cx}{K:Fg1}{f:FN}{a b:FE}{σ:L2.St}{H:Hp}{Q:VK}
theorem vd(h:tM K (m2 f a b) σ H Q):FR (r2 K f) (tM K a) (tM K b) σ H Q:=by
 obtain⟨r,mu,S,d,y,j,p,c,hc⟩:=h;obtain⟨⟨l,o⟩,t,c⟩:=oB1.mp c;obtain⟨⟨i,m⟩,A,c⟩:=oB1.mp c;refine⟨r,mu,S,l,o,j,p,t,fun v H1 mu1 n B C=>?_⟩;refine⟨r,mu1,o,i,m,j.ext n,C,A,fun u H2 g k r2 z=>?_⟩;exact⟨g,m,[l,i],d,y,.cons (B.ext k) (.cons r2 .nil),z,c,fun v x e w s q=>hc v x e ((n.trans k).trans w) s q⟩
theorem GE(h:tM K (m1 f a) σ H Q):IZ (fun x H Q=>rN K f [x] H Q) (tM K a) σ H Q:=by
 obtain⟨r,mu,S,d,n,s,i,c,hc⟩:=h;obtain⟨⟨e,g⟩,m,c⟩:=oB1.mp c;refine⟨r,mu,S,e,g,s,i,m,fun v H1 mu1 p q t=>?_⟩;exact⟨mu1,g,[e],d,n,.cons q .nil,t,c,fun v k b o l j=>hc v k b (p.trans o) l j⟩
theorem y9{a:FA}(h:tM K (mN f a) σ H Q):I0 K a σ H fun vs H1=>rN K f vs H1 Q:=by
 obtain⟨r,mu,S,d,n,s,i,c,hc⟩:=h;obtain⟨⟨e,g⟩,m,c⟩:=oB1.mp c;refine⟨r,mu,S,e,g,s,i,m,fun v H1 mu1 p q t=>?_⟩;exact⟨mu1,g,e,d,n,q,t,c,fun v k b o l j=>hc v k b (p.trans o) l j⟩
theorem Gx{op:Operator}{x y:Expr}{pos:Pos}(ho:gh X (binaryOp op) (r2 X.K f))(hx:ME X x a)(hy:ME X y b):ME X (.BinOp x op y pos) (m2 f a b):=eU (Ge ho hx hy) fun _ _ _=>vd
theorem Gw{op:UnaryOp}{x:Expr}{pos:Pos}(ho:Fz X (unaryOp op) (fun x H Q=>rN X.K f [x] H Q))(hx:ME X x a):ME X (.UnaryOp op x pos) (m1 f a):=eU (Gd ho hx) fun _ _ _=>GE
theorem ED{op:CmpOp}{x y:Expr}{pos:Pos}(ho:gh X (compareOp op) (r2 X.K f))(hx:ME X x a)(hy:ME X y b)(hm:behindInMarks op y=false):ME X (.Compare x [op] [y] pos) (m2 f a b):=eU (A4 ho hx hy hm) fun _ _ _=>vd
theorem Gy{x y:Expr}{pos:Pos}(ho:C0 X (r2 X.K f))(hx:ME X x a)(hy:ME X y b)(hs:lU y):ME X (.Subscript x y pos) (m2 f a b):=eU (Gf ho hx hy hs) fun _ _ _=>vd
theorem y6 {x:Str}{p pos:Pos}{e:Expr}{es:List Expr}{id:String}{a:FA}(hc:e0 X (.builtin id) (rN X.K f))(hg:Gl X x)(hm:X.mg x=none)(hv:bootBuiltins x=some (.builtin id))(ha:MA X (e::es) a)(hn:x≠"__name__":=by decide)(hdb:(x == ("__debug__":Str))=false:=by decide)
  (he:dE (e::es) X.env=(false,eval e X.env)::dE es X.env:=by rfl) (hpl:(backTo pos (dE es X.env)).any (·.1)=false:=by rfl):ME X (.Call (.Name x p) (e::es) [] pos) (mN f a):=
 eU (ms hc hg hm hv ha hn hdb he hpl) fun _ _ _=>y9
theorem wA {x:Str}{p pos:Pos}{e:Expr}{es:List Expr}{T:String}{a:FA}(hc:e0 X (.type T) (rN X.K f))(hg:Gl X x)(hm:X.mg x=none)(hv:bootBuiltins x=some (.type T))(ha:MA X (e::es) a)(hn:x≠"__name__":=by decide)(hdb:(x == ("__debug__":Str))=false:=by decide)
  (he:dE (e::es) X.env=(false,eval e X.env)::dE es X.env:=by rfl) (hpl:(backTo pos (dE es X.env)).any (·.1)=false:=by rfl):ME X (.Call (.Name x p) (e::es) [] pos) (mN f a):=
 eU (kH hc hg hm hv ha hn hdb he hpl) fun _ _ _=>y9
end
noncomputable def mB (m:FE):FT:=fun r S=>(m r S).bind fun p=>match p.1 with
 | .bl b=>some (b,p.2)
 |_=>none
theorem GD{K:Fg1}{m:FE}{σ:L2.St}{H:Hp}{Q:Bool->Hp->Prop}(h:xV K (mB m) σ H Q):tB (tM K m) σ H Q:=by
 obtain⟨r,mu,S,b,l,i,c,a,hc⟩:=h;obtain⟨⟨d,n⟩,e,a⟩:=oB1.mp a;cases d with
 |bl k=>
  cases a;refine⟨r,mu,S,_,_,i,c,e,fun v H1 mu1 f g j=>?_⟩;cases g;exact⟨_,rfl,hc H1 mu1 f j⟩
 |_=>cases a
noncomputable def tQ(a b:FT):FT:=fun r S=>(a r S).bind fun p=>if p.1=true then b r p.2 else some (false,p.2)
noncomputable def Fv(a b:FT):FT:=fun r S=>(a r S).bind fun p=>if p.1=true then some (true,p.2)else b r p.2
noncomputable def By(a:FT):FT:=fun r S=>(a r S).bind fun p=>some (!p.1,p.2)
noncomputable def Jd(a b:FE):FE:=fun r S=>(a r S).bind fun p=>match p.1 with
 | .bl c=>if c=true then b r p.2 else some (.bl false,p.2)
 |_=>none
noncomputable def JT(a b:FE):FE:=fun r S=>(a r S).bind fun p=>match p.1 with
 | .bl c=>if c=true then some (.bl true,p.2)else b r p.2
 |_=>none
noncomputable def Ja(a:FE):FE:=fun r S=>(a r S).bind fun p=>match p.1 with
 | .bl c=>some (.bl (!c),p.2)
 |_=>none
noncomputable def vc(c:FT)(a b:FE):FE:=fun r S=>(c r S).bind fun p=>if p.1=true then a r p.2 else b r p.2
section
variable{X:Cx}{x y c:Expr}{rest:List Expr}{pos:Pos}{a b:FT}{f g:FE}
theorem Eg{op:CmpOp}{f:FN}{a b:FE}(ho:gh X (compareOp op) (r2 X.K f))(hx:ME X x a)(hy:ME X y b)(hm:behindInMarks op y=false):MT X (.Compare x [op] [y] pos) (mB (m2 f a b)):=
 tz (AO ho hx hy hm) fun σ H Q h=>by
  obtain⟨r,mu,S,d,i,j,c,hm,hc⟩:=GD h;exact vd ⟨r,mu,S,d,i,j,c,hm,fun v H' mu' e g k=>hc v H' mu' e g k⟩
theorem Bg(ha:MT X x a):MW X (.BoolOp .And [x] pos) a:=AM ha
theorem Ed(ha:MT X x a):MW X (.BoolOp .Or [x] pos) a:=DD ha
theorem Ee(ha:MT X x a)(hb:MW X (.BoolOp .And (y::rest) pos) b):MW X (.BoolOp .And (x::y::rest) pos) (tQ a b):=
 ym (DE ha hb) <| by
  rintro σ H Q ⟨r,mu,S,k,m,f,i,c,hc⟩;obtain⟨⟨b1,h⟩,l,c⟩:=oB1.mp c;refine⟨r,mu,S,b1,h,f,i,l,fun H1 mu1 e g=>?_⟩;cases b1 with
  |true=>exact⟨r,mu1,h,k,m,f.ext e,g,c,fun H2 d j n=>hc H2 d (e.trans j) n⟩
  |false=>cases c;exact hc H1 mu1 e g
theorem Gu(ha:MT X x a)(hb:MW X (.BoolOp .Or (y::rest) pos) b):MW X (.BoolOp .Or (x::y::rest) pos) (Fv a b):=
 ym (Ga ha hb) <| by
  rintro σ H Q ⟨r,mu,S,k,m,f,i,c,hc⟩;obtain⟨⟨b1,h⟩,l,c⟩:=oB1.mp c;refine⟨r,mu,S,b1,h,f,i,l,fun H1 mu1 e g=>?_⟩;cases b1 with
  |false=>exact⟨r,mu1,h,k,m,f.ext e,g,c,fun H2 d j n=>hc H2 d (e.trans j) n⟩
  |true=>cases c;exact hc H1 mu1 e g
theorem Iu(h:MW X x a):MT X x a:=PW.pt h
theorem Ef(ha:MT X x a):MT X (.UnaryOp .Not x pos) (By a):=
 tz (DG ha) <| by
  rintro σ H Q ⟨r,mu,S,k,i,f,c,b,hc⟩;obtain⟨⟨b1,h⟩,d,b⟩:=oB1.mp b;cases b;exact⟨r,mu,S,b1,h,f,c,d,fun H1 mu1 e g=>hc H1 mu1 e g⟩
theorem Gz(hc:MT X c a)(hx:ME X x f)(hy:ME X y g):ME X (.IfExp c x y pos) (vc a f g):=
 eU (yD hc hx hy) <| by
  rintro σ H Q ⟨r,mu,S,k,n,l,p,d,hc⟩;obtain⟨⟨b1,m⟩,q,d⟩:=oB1.mp d;refine⟨r,mu,S,b1,m,l,p,q,fun H1 mu1 e o=>?_⟩;cases b1 with
  |true=>exact⟨r,mu1,m,k,n,l.ext e,o,d,fun i H2 b h r2 j=>hc i H2 b (e.trans h) r2 j⟩
  |false=>exact⟨r,mu1,m,k,n,l.ext e,o,d,fun i H2 b h r2 j=>hc i H2 b (e.trans h) r2 j⟩
end
section
variable{X:Cx}{x y z:Expr}{pos:Pos}{f g:FN}{a b c:FE}{op op':CmpOp}
end
mutual
noncomputable def D.und(n:Nat):D->Bool
 | .tup xs=>D.unds n xs
 | .rol xs=>D.unds n xs
 | .ref k=>decide (k<n)
 | .non=>true
 | .bl _=>true
 | .int _=>true
 | .str _=>true
 | .fn _=>true
noncomputable def D.unds(n:Nat):List D->Bool
 |[]=>true
 |d::ds=>D.und n d&&D.unds n ds
end
noncomputable def D.sames(a b:List D):Bool:=@decide (a=b) (Classical.propDecidable _)
theorem D.sames_eq{a b:List D}(h:D.sames a b=true):a=b:=@of_decide_eq_true _ (Classical.propDecidable _) h
theorem D.sames_refl(a:List D):D.sames a a=true:=@decide_eq_true _ (Classical.propDecidable _) rfl
section
variable{K:Fg1}{H:Hp}{mu mu':List dy}
theorem eB.cut{n:Nat}(h:∀ k,k<n->mu[k]? = mu'[k]?):∀ {d:D} {v:V},eB K H mu d v->d.und n=true->eB K H mu' d v:=fun c=>c.rec (motive_1:=fun d v _=>d.und n=true->eB K H mu' d v) (motive_2:=fun ds vs _=>D.unds n ds=true->dW K H mu' ds vs)
  (fun _=>.non) (fun b _=>.bl b) (fun i _=>.int i) (fun x _=>.str x) (fun q _ ih e=>.tup q (ih (by rw[D.und]at e;exact e))) (fun q _ ih e=>.rol q (ih (by rw[D.und]at e;exact e)))
  (fun q e=>.ref (by rw[D.und]at e;rw[<- h _ (of_decide_eq_true e)];exact q)) (fun q _=>.fn q) (fun _=>.nil) (fun _ _ a b e=>by rw[D.unds,bA1]at e;exact .cons (a e.1) (b e.2))
theorem dW.cut{n:Nat}(h:∀k,k<n->mu[k]?=mu'[k]?):∀{ds:List D} {vs:List V},dW K H mu ds vs->D.unds n ds=true->dW K H mu' ds vs:=fun a=>a.ind (P:=fun ds vs _=>D.unds n ds=true->dW K H mu' ds vs) (fun _=>.nil) fun r _ b e=>by rw[D.unds,bA1]at e;exact .cons (eB.cut h r e.1) (b e.2)
end
noncomputable def Ob.und(n:Nat):Ob->Bool
 | .lst xs=>D.unds n xs
 | .dct kvs=>D.unds n (kvs.map (·.2))
 | .dcT kvs=>D.unds n (kvs.map (·.2))
 | .iset _=>true
 | .dcF kvs=>D.unds n (kvs.map (·.2))
 | .tst _=>true
theorem KR.cut{κ:Type}{K:Fg1}{H:Hp}{mu mu':List dy}{n:Nat}(h:∀k,k<n->mu[k]?=mu'[k]?):∀{ks:List (κ×D)} {ws:List (κ×V)},KR K H mu ks ws->D.unds n (ks.map (·.2))=true->KR K H mu' ks ws:=by
 intro ks ws a e
 induction a with
 |nil=>exact .nil
 |cons r t ih=>
  rw[mP1,D.unds,bA1]at e;exact .cons ⟨r.1,r.2.cut h e.1⟩ (ih e.2)
mutual
theorem xS(n:Nat):∀k:TK,(tkD k).und n=true
 | .non=>rfl
 | .int _=>rfl
 | .tup xs=>by rw[tkD,D.und];exact uA n xs
theorem uA(n:Nat):∀ks:List TK,D.unds n (iD ks)=true
 |[]=>rfl
 |x::xs=>by rw[iD,D.unds,xS n x,uA n xs];rfl
end
theorem KT.cut{K:Fg1}{H:Hp}{mu mu':List dy}{n:Nat}(h:∀k,k<n->mu[k]?=mu'[k]?):∀{ks:List (TK×D)} {ws:List (TK×dy×dr)},KT K H mu ks ws->D.unds n (ks.map (·.2))=true->KT K H mu' ks ws:=by
 intro ks ws b e
 induction b with
 |nil=>exact .nil
 |cons r t ih=>
  rw[mP1,D.unds,bA1]at e;obtain⟨z,d,k,v,a,r⟩:=r;exact .cons ⟨z,d,k.cut h (xS n _),v,a,r.cut h e.1⟩ (ih e.2)
theorem u7(n:Nat):∀ks:List TK,D.unds n ((ks.map fun k=>(k,D.non)).map (·.2))=true
 |[]=>rfl
 |_::ks=>by rw[mP1,mP1,D.unds,u7 n ks];rfl
theorem k0.cut{K:Fg1}{H:Hp}{mu mu':List dy}{n:Nat}{a:dy}(h:∀k,k<n->mu[k]?=mu'[k]?):∀{o:Ob},k0 K H mu a o->o.und n=true->k0 K H mu' a o
 | .lst _,⟨vs,e,r⟩,b=>⟨vs,e,r.cut h b⟩
 | .dct _,⟨ws,e,r⟩,b=>⟨ws,e,KR.cut h r b⟩
 | .dcT _,⟨ws,e,r,l⟩,b=>⟨ws,e,KT.cut h r b,l⟩
 | .iset _,q,_=>q
 | .dcF _,⟨ws,e,r,l⟩,b=>⟨ws,e,KT.cut h r b,l⟩
 | .tst ks,⟨ws,e,r⟩,_=>⟨ws,e,KT.cut h r (u7 n ks)⟩
noncomputable def gc(n:Nat)(p:D×Sto):D×Sto:=if p.1.und n&&(p.2.take n).all (Ob.und n)then(p.1,p.2.take n)else p
mutual
noncomputable def D.sh(n:Nat):D->D
 | .tup xs=>.tup (D.shs n xs)
 | .rol xs=>.rol (D.shs n xs)
 | .ref k=>.ref (n+k)
 | .fn x=>.fn x
 | .non=>.non
 | .bl b=>.bl b
 | .int i=>.int i
 | .str x=>.str x
noncomputable def D.shs(n:Nat):List D->List D
 |[]=>[]
 |d::ds=>D.sh n d::D.shs n ds
end
noncomputable def Ob.sh(n:Nat):Ob->Ob
 | .lst xs=>.lst (D.shs n xs)
 | .dct kvs=>.dct (kvs.map fun p=>(p.1,p.2.sh n))
 | .dcT kvs=>.dcT (kvs.map fun p=>(p.1,p.2.sh n))
 | .iset xs=>.iset xs
 | .dcF kvs=>.dcF (kvs.map fun p=>(p.1,p.2.sh n))
 | .tst ks=>.tst ks
theorem eB.sh{K:Fg1}{H:Hp}{mu mu':List dy}:∀ {d:D} {v:V},eB K H mu' d v->eB K H (mu++mu') (d.sh mu.length) v:=fun c=>c.rec (motive_1:=fun d v _=>eB K H (mu++mu') (d.sh mu.length) v) (motive_2:=fun ds vs _=>dW K H (mu++mu') (D.shs mu.length ds) vs)
  .non .bl .int .str (fun h _ ih=>.tup h ih) (fun h _ ih=>.rol h ih) (fun h=>.ref (by rw[gR1 (bq _ _),br];exact h)) (fun h=>.fn h) .nil (fun _ _ a b=>.cons a b)
theorem dW.sh{K:Fg1}{H:Hp}{mu mu':List dy}:∀{ds:List D} {vs:List V},dW K H mu' ds vs->dW K H (mu++mu') (D.shs mu.length ds) vs:=fun h=>h.ind (P:=fun ds vs _=>dW K H (mu++mu') (D.shs mu.length ds) vs) .nil fun r _ ih=>.cons (eB.sh r) ih
theorem KR.sh{κ:Type}{K:Fg1}{H:Hp}{mu mu':List dy}:∀{ks:List (κ×D)} {ws:List (κ×V)},KR K H mu' ks ws->KR K H (mu++mu') (ks.map fun p=>(p.1,p.2.sh mu.length)) ws:=by
 intro ks ws h
 induction h with
 |nil=>exact .nil
 |cons r t ih=>exact .cons ⟨r.1,r.2.sh⟩ ih
mutual
theorem Cz(n:Nat):∀k:TK,(tkD k).sh n=tkD k
 | .non=>rfl
 | .int _=>rfl
 | .tup xs=>by rw[tkD,D.sh,xQ n xs]
theorem xQ(n:Nat):∀ks:List TK,D.shs n (iD ks)=iD ks
 |[]=>rfl
 |x::xs=>by rw[iD,D.shs,Cz n x,xQ n xs]
end
theorem KT.sh{K:Fg1}{H:Hp}{mu mu':List dy}:∀{ks:List (TK×D)} {ws:List (TK×dy×dr)},KT K H mu' ks ws->KT K H (mu++mu') (ks.map fun p=>(p.1,p.2.sh mu.length)) ws:=by
 intro ks ws h
 induction h with
 |nil=>exact .nil
 |cons r t ih=>
  obtain⟨z,d,k,v,a,r⟩:=r;exact .cons ⟨z,d,by have:=k.sh (mu:=mu);rw[Cz]at this;exact this,v,a,r.sh⟩ ih
theorem k0.sh{K:Fg1}{H:Hp}{mu mu':List dy}{a:dy}:∀{o:Ob},k0 K H mu' a o->k0 K H (mu++mu') a (o.sh mu.length)
 | .lst _,⟨vs,e,r⟩=>⟨vs,e,r.sh⟩
 | .dct _,⟨ws,e,r⟩=>⟨ws,e,KR.sh r⟩
 | .dcT _,⟨ws,e,r,l⟩=>⟨ws,e,KT.sh r,l⟩
 | .iset _,q=>q
 | .dcF _,⟨ws,e,r,l⟩=>⟨ws,e,KT.sh r,l⟩
 | .tst ks,⟨ws,e,r⟩=>⟨ws,e,by have:=KT.sh (mu:=mu) r;rw[bt]at this;exact this⟩
theorem eB.mor{K:Fg1}{H:Hp}{mu:List dy}(mu':List dy):∀{d:D} {v:V},eB K H mu d v->eB K H (mu++mu') d v:=fun h=>h.exv ⟨bu _ _,fun _ _ h=>h,fun _ _ _ h=>h⟩
theorem dW.mor{K:Fg1}{H:Hp}{mu:List dy}(mu':List dy):∀{ds:List D} {vs:List V},dW K H mu ds vs->dW K H (mu++mu') ds vs:=fun h=>h.exv ⟨bu _ _,fun _ _ h=>h,fun _ _ _ h=>h⟩
theorem KR.mor{κ:Type}{K:Fg1}{H:Hp}{mu:List dy}(mu':List dy){ks:List (κ×D)}{ws:List (κ×V)}(h:KR K H mu ks ws):KR K H (mu++mu') ks ws:=Paired.mapP h fun _ _ z=>⟨z.1,z.2.mor mu'⟩
theorem k0.mor{K:Fg1}{H:Hp}{mu:List dy}{a:dy}(mu':List dy):∀{o:Ob},k0 K H mu a o->k0 K H (mu++mu') a o
 | .lst _,⟨vs,e,r⟩=>⟨vs,e,r.mor mu'⟩
 | .dct _,⟨ws,e,r⟩=>⟨ws,e,KR.mor mu' r⟩
 | .dcT _,⟨ws,e,r,l⟩=>⟨ws,e,Paired.mapP r fun _ _ ⟨z,d,k,v,b,r⟩=>⟨z,d,k.mor mu',v,b,r.mor mu'⟩,l⟩
 | .iset _,q=>q
 | .dcF _,⟨ws,e,r,l⟩=>⟨ws,e,Paired.mapP r fun _ _ ⟨z,d,k,v,b,r⟩=>⟨z,d,k.mor mu',v,b,r.mor mu'⟩,l⟩
 | .tst _,⟨ws,e,r⟩=>⟨ws,e,Paired.mapP r fun _ _ ⟨z,d,k,v,b,r⟩=>⟨z,d,k.mor mu',v,b,r.mor mu'⟩⟩
noncomputable def oK(f:FN):FN:=fun ds S=>if D.unds 0 ds=true then(f ds []).map fun p=>if p.1.und 0=true then(p.1,S)else(p.1.sh S.length,S++p.2.map (Ob.sh S.length))else(f ds S).map (gc S.length)
theorem k0.keep{K:Fg1}{H H':Hp}{mu:List dy}{a:dy}(e:Ext mu mu H H')(h:∀o,H a=some o->H' a=some o):∀{o:Ob},k0 K H mu a o->k0 K H' mu a o
 | .lst _,⟨vs,q,r⟩=>⟨vs,h _ q,r.ext e⟩
 | .dct _,⟨ws,q,r⟩=>⟨ws,h _ q,KR.ext e r⟩
 | .dcT _,⟨ws,q,r,l⟩=>⟨ws,h _ q,KT.ext e r,l⟩
 | .iset _,q=>⟨h _ q.1,q.2⟩
 | .dcF _,⟨ws,⟨o,u,b,c⟩,r,l⟩=>⟨ws,⟨o,u,h _ b,c⟩,KT.ext e r,l⟩
 | .tst _,⟨ws,q,r⟩=>⟨ws,h _ q,KT.ext e r⟩
theorem z7{K:Fg1}{f:FN}{vs:List V}{H:Hp}{Q:VK}(h:rN K (oK f) vs H Q):rN K f vs H Q:=by
 obtain⟨mu,S,ds,d,M,D,c,g,hc⟩:=h;unfold oK at g;split at g
 ·rename_i j;obtain⟨⟨u,p⟩,w,g⟩:=oM1.mp g;refine⟨[],[],ds,u,p,D.cut (n:=0) (fun k i=>absurd i (bv _)) j,.nil,w,fun v H' mu' x r s=>?_⟩;have y:Ext mu mu H H':=⟨bm,fun a o e _=>x.old a o e (by simp),x.tup,x.frz,fun _ z=>.inl z⟩;dsimp only at g;split at g
  ·rename_i J;cases g;refine hc v H' mu y (r.cut (n:=0) (fun k i=>absurd i (bv _)) J) ⟨c.len,c.nd,fun n o a h1 h2=>?_⟩;exact(c.ob n o a h1 h2).keep y fun o e=>x.old a o e (by simp)
  ·cases g;have C:∀ a∈mu',H a=none:=fun a B=>(x.new a B).resolve_left (by simp);have G:Ext mu (mu++mu') H H':=⟨bu _ _,fun a o e _=>x.old a o e (by simp),x.tup,x.frz,fun a z=>by
    rcases aG.mp z with z|z
    ·exact .inl z
    ·exact .inr (C a z)⟩
   refine hc v H' (mu++mu') G (by rw[<- c.len];exact r.sh) ⟨by rw[lA1,lA1,lM1,c.len,s.len],?_,fun n o a h1 h2=>?_⟩
   ·refine bw.mpr ⟨c.nd,s.nd,fun a B b j z=>?_⟩;subst z;obtain⟨o,e⟩:=c.here B;rw[C a j]at e;cases e
   ·by_cases l:n<S.length
    ·rw[gL1 l]at h1;rw[gL1 (by rw[c.len];exact l)]at h2;exact((c.ob n o a h1 h2).keep y fun o e=>x.old a o e (by simp)).mor mu'
    ·have m:=Nat.le_of_not_lt l;rw[gR1 m]at h1;rw[gR1 (by rw[c.len];exact m)]at h2;rw[gP1]at h1;obtain⟨I,F,L⟩:=oM1.mp h1;subst L;have q:=s.ob (n-S.length) I a F (by rw[c.len]at h2;exact h2);rw[<- c.len];exact q.sh
 ·obtain⟨⟨u,p⟩,w,g⟩:=oM1.mp g;refine⟨mu,S,ds,u,p,D,c,w,fun v H' mu' x r s=>?_⟩;unfold gc at g;split at g
  ·rename_i j;cases g;rw [bA1] at j;have i:∀ k,k<S.length->mu'[k]? = mu[k]?:=fun k i=>by
    obtain⟨t,rfl⟩:=x.pre;rw[gL1 (by rw[c.len];exact i)]
   refine hc v H' mu x.back (r.cut i j.1) ⟨?_,c.nd,fun n o a h1 h2=>?_⟩
   ·have:=s.len;have E:=x.pre.length_le;rw[aR,<- s.len];rw[c.len]at E ⊢;exact(bA E).symm
   ·have l:n<S.length:=by rw[<- c.len];exact(gE1.mp h2).1
    have A:p[n]?=some o:=by rw[aT l]at h1;exact h1
    refine(s.ob n o a A ((i n l).trans h2)).cut i ?_;exact bB.mp j.2 o (gM1 h1)
  ·cases g;exact hc v H' mu' x r s
noncomputable def Am(K:Fg1)(n:Nat)(f:FN):Sp:=fun vs H Q _=>vs.length=n/\rN K f vs H Q
section
variable{X:Cx}{k n:Nat}{f:dy}{fd:dI}{ps:List Str}{x:Str}{p pos:Pos}{e:Expr}{es:List Expr}{m:FN}{a:FA}
noncomputable def dS (n:Nat)(f:FN):FN:=fun ds S=>if ds.length=n then oK f ds S else none
theorem Bv (F:k3 X.prog X.w X.K X.mg X.base sK k f fd ps (Am X.K n m))(hr:fF k X.A)(hg:Gl X x)(hm:X.mg x=some (.ref f))(hk:wK1 X.K (.ref f)=true)(hb:kA X.K fd ps [])
  (ha:MA X (e::es) a) (hdb:(x == ("__debug__":Str))=false:=by decide) (he:dE (e::es) X.env=(false,eval e X.env)::dE es X.env:=by rfl) (hpl:(backTo pos (dE es X.env)).any (·.1)=false:=by rfl):
  ME X (.Call (.Name x p) (e::es) [] pos) (mN (dS n m) a):=
 eU (A5 (E:=E0) F hr hg hm hk hb .nil Gi ha hdb he hpl) fun σ H Q h=>by
  obtain⟨r,mu,S,ds,t,he,g,hm,hc⟩:=y9 h;refine⟨r,mu,S,ds,t,he,g,hm,fun vs H' mu' u v l=>?_⟩;have q:=hc vs H' mu' u v l;show Am X.K n m (vs++[]) H' Q E0;rw[aN];obtain⟨c,w,d,i,j,h1,h2,b,s⟩:=q;unfold dS at b;split at b
  ·rename_i o;exact⟨by rw[<- h1.length];exact o,z7 ⟨c,w,d,i,j,h1,h2,b,s⟩⟩
  ·cases b
end
noncomputable def rG:FS:=fun r S=>some (.nx,r,S)
noncomputable def d5 (a b:FS):FS:=fun r S=>(a r S).bind fun p=>match p.1 with
 | .nx=>b p.2.1 p.2.2
 |f=>some (f,p.2.1,p.2.2)
noncomputable def e9 (m:FE):FS:=fun r S=>(m r S).bind fun p=>some (.rt p.1,r,p.2)
noncomputable def I9:FS:=fun r S=>some (.rt .non,r,S)
noncomputable def fx (m:FE):FS:=fun r S=>(m r S).bind fun p=>some (.nx,r,p.2)
noncomputable def hE (c:FT)(a b:FS):FS:=fun r S=>(c r S).bind fun p=>if p.1=true then a r p.2 else b r p.2
section
variable{X:Cx}{pos:Pos}{e c:Expr}{st:dJ}{rest as bs:List dJ}{a b:FS}{m:FE}{t:FT}
theorem Bi:xk X [] rG:=pG AR <| by
 rintro E σ H ⟨r,mu,S,f,d,e,c,a,b,hc⟩;cases b;exact hc σ H mu (.refl _ _) c a
theorem yZ(h1:MS X st a)(h2:xk X rest b):xk X (st::rest) (d5 a b):=pG (yp h1 h2) <| by
 rintro E σ H ⟨r,mu,S,f,q,t,u,o,h,hc⟩;obtain⟨⟨l,m,n⟩,s,h⟩:=oB1.mp h;refine⟨r,mu,S,l,m,n,u,o,s,?_⟩;cases l with
 |nx=>
  intro p H1 mu1 i k j;refine⟨m,mu1,n,f,q,t,k,j,h,?_⟩;cases f with
  |nx=>exact fun e H2 c g=>hc e H2 c (i.trans g)
  |bk=>exact fun e H2 c g=>hc e H2 c (i.trans g)
  |ct=>exact fun e H2 c g=>hc e H2 c (i.trans g)
  |rt d=>exact fun v H2 c g=>hc v H2 c (i.trans g)
 |bk=>cases h;exact hc
 |ct=>cases h;exact hc
 |rt d=>cases h;exact hc
theorem Bh(h1:MS X st a):xk X [st] a:=AQ h1
theorem Bj(h:ME X e m)(hs:swapsWith e none pos.line X.env=pure false:=by rfl):MS X (.Expr e pos) (fx m):=gU (AS h hs) <| by
 rintro E σ H ⟨r,mu,S,f,i,j,b,hs,a,hc⟩;obtain⟨⟨d,l⟩,c,a⟩:=oB1.mp a;cases a;exact⟨r,mu,S,d,_,b,hs,c,fun v H' mu' x k g=>hc σ H' mu' x (b.ext x) g⟩
theorem Ei(h:ME X e m):MS X (.Return (some e) pos) (e9 m):=gU (DJ h) <| by
 rintro E σ H ⟨r,mu,S,f,i,j,g,b,a,hc⟩;obtain⟨⟨d,k⟩,c,a⟩:=oB1.mp a;cases a;exact⟨r,mu,S,d,_,g,b,c,hc⟩
theorem Gv(hc:MT X c t)(ha:xk X as a)(hb:xk X bs b):MS X (.If c as bs pos) (hE t a b):=gU (Gb hc ha hb) <| by
 rintro E σ H ⟨r,mu,S,f,n,o,p,q,i,hc⟩;obtain⟨⟨k,l⟩,s,i⟩:=oB1.mp i;refine⟨r,mu,S,k,l,p,q,s,fun H1 mu1 j u=>?_⟩;have m:∀c:FS,c r l=some (f,n,o)->uE X.K c E σ H1:=fun c i=>by
  refine⟨r,mu1,l,f,n,o,p.ext j,u,i,?_⟩;cases f with
  |nx=>exact fun g H2 e h=>hc g H2 e (j.trans h)
  |bk=>exact fun g H2 e h=>hc g H2 e (j.trans h)
  |ct=>exact fun g H2 e h=>hc g H2 e (j.trans h)
  |rt d=>exact fun v H2 e h=>hc v H2 e (j.trans h)
 cases k with
 |true=>exact m a i
 |false=>exact m b i
end
abbrev FG:=D->Ev->Sto->Option (Ev×Sto)
abbrev Al:=List D->Ev->Sto->Option (Ev×Sto)
inductive Dk (K:Fg1)(g:FG)(v:V)(σ:L2.St)(H:Hp)(Q:L2.St->Hp->Prop):Prop
 |mk (r:Ev) (mu:List dy) (S:Sto) (d:D) (r':Ev) (S':Sto) (he:fj K H mu r σ) (hs:Sim K H mu S) (hr:eB K H mu d v) (hm:g d r S=some (r',S')) (hc:∀ σ' H' mu',Ext mu mu' H H'->fj K H' mu' r' σ'->Sim K H' mu' S'->Q σ' H')
inductive HZ (K:Fg1)(g:Al)(vs:List V)(σ:L2.St)(H:Hp)(Q:L2.St->Hp->Prop):Prop
 |mk (r:Ev) (mu:List dy) (S:Sto) (ds:List D) (r':Ev) (S':Sto) (he:fj K H mu r σ) (hs:Sim K H mu S) (hr:dW K H mu ds vs) (hm:g ds r S=some (r',S')) (hc:∀ σ' H' mu',Ext mu mu' H H'->fj K H' mu' r' σ'->Sim K H' mu' S'->Q σ' H')
abbrev MG(X:Cx)(e:Expr)(g:FG):Prop:=PG X e (Dk X.K g)
abbrev Hr(X:Cx)(es:List Expr)(g:Al):Prop:=Fp X es (HZ X.K g)
noncomputable def gN (i:Nat):FG:=fun d r S=>some (r.set i (some d),S)
noncomputable def gNl:Al:=fun ds r S=>match ds with
 |[]=>some (r,S)
 |_=>none
noncomputable def gCs (g:FG)(gs:Al):Al:=fun ds r S=>match ds with
 |d::ds=>(g d r S).bind fun p=>gs ds p.1 p.2
 |[]=>none
noncomputable def gT (n:Nat)(gs:Al):FG:=fun d r S=>match d with
 | .tup ds=>if ds.length=n then gs ds r S else none
 |_=>none
theorem fj.set{K:Fg1}{H:Hp}{mu:List dy}{r:Ev}{σ:L2.St}{i:Nat}{d:D}{v:V}(h:fj K H mu r σ)(q:eB K H mu d v):fj K H mu (r.set i (some d)) (σ.set i (some v)):=by
 refine⟨by rw[aW,aW];exact h.len,fun j c e=>?_⟩;by_cases a:i=j
 ·subst a;have b:i<r.length:=by
   have:=(gE1.mp e).1
   rwa [aW]at this
  rw[aI b]at e;cases e;exact⟨v,aI (by rw[<- h.len];exact b),q⟩
 ·rw[gS1 a]at e;obtain⟨f,g,k⟩:=h.val j c e;exact⟨f,by rw[gS1 a];exact g,k⟩
section
variable{X:Cx}{pos:Pos}
theorem tF{e:Expr}{t t':TG}(h:PG X e t)(i:∀v σ H Q,t' v σ H Q->t v σ H Q):PG X e t':=fun pins s σ H v u Q I r q=>h pins s σ H v u Q I r (i v σ H Q q)
theorem uR{e:List Expr}{t t':CY}(h:Fp X e t)(i:∀v σ H Q,t' v σ H Q->t v σ H Q):Fp X e t':=fun pins s σ H v u Q I r q=>h pins s σ H v u Q I r (i v σ H Q q)
theorem Br(i:Nat){x:Str}(hN:X.N.Nodup)(hi:X.N[i]?=some x)(hx:uo X.env.scope x)(hf:X.fn x=true\/X.env.scope.names.lookup x=some .local:=by first|exact .inl rfl|exact .inr rfl|assumption):MG X (.Name x pos) (gN i):=
 tF (uS hN hi hx hf) <| by
  rintro v σ H Q ⟨r,mu,S,d,f,g,e,a,b,c,hc⟩;cases c;exact hc _ H mu (.refl _ _) (e.set b) a
theorem Bq:Hr X [] gNl:=uR A1 <| by
 rintro vs σ H Q ⟨r,mu,S,ds,e,f,d,b,c,a,hc⟩;unfold gNl at a;split at a
 ·cases a;cases c;exact⟨rfl,hc σ H mu (.refl _ _) d b⟩
 ·cases a
theorem y2{e:Expr}{es:List Expr}{g:FG}{i:Al}(h1:MG X e g)(h2:Hr X es i)(hs:(assignEach (e::es) X.env).map (·.2)=assign e X.env::(assignEach es X.env).map (·.2):=by rfl):Hr X (e::es) (gCs g i):=
 uR (yA h1 h2 hs) <| by
  rintro vs σ H Q ⟨r,mu,S,ds,o,s,u,hs,m,a,hc⟩;unfold gCs at a;split at a
  ·obtain⟨⟨f,j⟩,p,a⟩:=oB1.mp a;cases m with
   |cons q t=>
    exact⟨_,_,rfl,r,mu,S,_,f,j,u,hs,q,p,fun l H1 mu1 h c n=>⟨f,mu1,j,_,o,s,c,n,t.ext h,a,fun d H2 b k=>hc d H2 b (h.trans k)⟩⟩
  ·cases a
theorem Es{es:List Expr}{k:Nat}{b:Al}{n:Nat}(hc:X.calm=true)(h:Hr X es b)(hn:(assignEach es X.env).length=n:=by rfl)(hst:(assignEach es X.env).findIdx? (·.1)=none:=by rfl):MG X (.Tuple es k pos) (gT n b):=
 tF (DS hc h hn hst) <| by
  rintro v σ H Q ⟨r,mu,S,d,g,i,j,c,e,a,hc⟩;cases d with
  |tup ds=>
   rw[gT]at a;split at a
   ·rename_i f;cases e with
    |tup q t=>exact⟨_,_,rfl,q,by rw[<- t.length];exact f,r,mu,S,ds,g,i,j,c,t,a,hc⟩
   ·cases a
  |_=>cases a
inductive rU (K:Fg1)(f:FN)(o i v:V)(H:Hp)(Q:Hp->Prop):Prop
 |mk (mu:List dy) (S:Sto) (ds:List D) (d:D) (S':Sto) (hr:dW K H mu ds [o,i,v]) (hs:Sim K H mu S) (hm:f ds S=some (d,S')) (hc:∀H' mu',Ext mu mu' H H'->Sim K H' mu' S'->Q H')
noncomputable def gS(f:FN)(a b:FE):FG:=fun d r S=>(a r S).bind fun p=>(b r p.2).bind fun q=>(f [p.1,q.1,d] q.2).bind fun t=>some (r,t.2)
theorem Et{o i:Expr}{a b:FE}{f:FN}(ho:ME X o a)(hi:ME X i b)(hs:um X (rU X.K f))(ha:∀v,assign (.Subscript o i pos) X.env v=(do
   let ov<-holding [v] (eval o X.env)
   let iv<-holding [v,ov] (eval i X.env)
   standAt pos
   holding [v,ov,iv] (setItem ov iv v)
   release [v,ov,iv] []):=by intro _;rfl):MG X (.Subscript o i pos) (gS f a b):=
 tF (DT ho hi hs ha) <| by
  rintro v σ H Q ⟨r,mu,S,d,I,F,j,hs,w,c,hc⟩;obtain⟨⟨m,q⟩,u,c⟩:=oB1.mp c;obtain⟨⟨l,p⟩,A,c⟩:=oB1.mp c;obtain⟨⟨t,G⟩,x,c⟩:=oB1.mp c;cases c;refine⟨r,mu,S,m,q,j,hs,u,fun E H1 mu1 g B C=>?_⟩;refine⟨r,mu1,q,l,p,j.ext g,C,A,fun D H2 k e r2 z=>?_⟩;exact⟨k,p,[m,l,d],t,_,.cons (B.ext e) (.cons r2 (.cons ((w.ext g).ext e) .nil)),z,x,fun y h n s=>hc σ y h ((g.trans e).trans n) (((j.ext g).ext e).ext n) s⟩
noncomputable def d6 (m:FE)(g:FG):FS:=fun r S=>(m r S).bind fun p=>(g p.1 r p.2).bind fun q=>some (.nx,q.1,q.2)
theorem pS{K:Fg1}{m:FE}{g:FG}{E:i7}{σ:L2.St}{H:Hp}(h:uE K (d6 m g) E σ H):xW (tM K m) (Dk K g) E σ H:=by
 obtain⟨r,mu,S,f,t,u,j,k,a,hc⟩:=h;obtain⟨⟨e,d⟩,n,a⟩:=oB1.mp a;obtain⟨⟨r2,v⟩,q,a⟩:=oB1.mp a;cases a;refine⟨r,mu,S,e,d,j,k,n,fun s H1 mu1 i o p=>?_⟩;exact⟨r,mu1,d,e,_,_,j.ext i,p,o,q,fun c H2 b l=>hc c H2 b (i.trans l)⟩
theorem El{tg e:Expr}{m:FE}{g:FG}(he:ME X e m)(hg:MG X tg g)(hs:swapsWithSole [tg] e pos.line X.env=pure false:=by rfl)(hw:swappedStores [tg] e X.env=pure none:=by rfl)(h1:(assignEach [tg] X.env).map (·.2)=[assign tg X.env]:=by rfl):MS X (.Assign [tg] e pos) (d6 m g):=gU (DN he hg hs hw h1) fun _ _ _=>pS
theorem Eh(i:Nat){x:Str}{e:Expr}{m:FE}{pos':Pos}(hN:X.N.Nodup)(hi:X.N[i]? = some x)(hx:uo X.env.scope x)(he:ME X e m)(hs:swapsWith e (some (.Name x pos')) pos.line X.env=pure false:=by rfl)(hf:X.fn x=true\/X.env.scope.names.lookup x=some .local:=by first | exact .inl rfl | exact .inr rfl | assumption):
  MS X (.Assign [.Name x pos'] e pos) (d6 m (gN i)):=gU (DI hN hi hx he hs hf) fun E σ H h=>by
 obtain⟨r,mu,S,d,l,h1,h2,g,j⟩:=pS h;refine⟨r,mu,S,d,l,h1,h2,g,fun v H' mu' n p q=>?_⟩;obtain⟨r2,a,w,s,u,t,k,c,f,o,b⟩:=j v H' mu' n p q;cases o;exact b _ H' a (.refl _ _) (k.set f) c
noncomputable def BA(i:Nat)(f:FN)(m:FE):FS:=fun r S=>match r[i]? with
 |some (some d)=>(m r S).bind fun p=>(f [d,p.1] p.2).bind fun q=>some (.nx,r.set i (some q.1),q.2)
 |_=>none
theorem Ek(i:Nat){x:Str}{e:Expr}{m:FE}{op:Operator}{f:FN}{pos':Pos}(hN:X.N.Nodup)(hi:X.N[i]? = some x)(hx:uo X.env.scope x)(he:ME X e m)(ho:HM X op (r2 X.K f))(hf:X.fn x=true\/X.env.scope.names.lookup x=some .local:=by first | exact .inl rfl | exact .inr rfl | assumption):
  MS X (.AugAssign (.Name x pos') op e pos) (BA i f m):=gU (DM hN hi hx he ho hf) <| by
 rintro E σ H ⟨r,mu,S,z,F,C,he,k,a,hc⟩;unfold BA at a;split at a
 ·rename_i d e;obtain⟨⟨g,j⟩,s,a⟩:=oB1.mp a;obtain⟨⟨l,D⟩,u,a⟩:=oB1.mp a;cases a;obtain⟨v,p,o⟩:=he.val i d e;refine⟨v,p,r,mu,S,g,j,he,k,s,fun A H1 mu1 c w y=>?_⟩;exact⟨mu1,j,[d,g],l,_,.cons (o.ext c) (.cons w .nil),y,u,fun B t b h q n=>hc _ t b (c.trans h) (((he.ext c).ext h).set q) n⟩
 ·cases a
end
noncomputable def qo (c:FT)(b:FS):Nat->FS
 |0=>fun _ _=>none
 | n+1=>fun r S=>(c r S).bind fun p=>if p.1=true then (b r p.2).bind fun q=>match q.1 with
   | .nx=>qo c b n q.2.1 q.2.2
   | .ct=>qo c b n q.2.1 q.2.2
   | .bk=>some (.nx,q.2.1,q.2.2)
   | .rt d=>some (.rt d,q.2.1,q.2.2)
  else some (.nx,r,p.2)
theorem C6{K:Fg1}{c:FT}{b:FS}{n:Nat}{E:i7}{σ:L2.St}{H:Hp}(h:uE K (qo c b n) E σ H):xU (xV K c) (uE K b) E σ H:=by
 refine⟨fun m a H'=>uE K (qo c b m) E a H',⟨n,h⟩,fun m u H1 q=>?_⟩;obtain⟨r,mu,S,f,C,A,t,F,i,hc⟩:=q;cases m with
 |zero=>cases i
 |succ m=>
  obtain⟨⟨k,z⟩,G,i⟩:=oB1.mp i;refine⟨r,mu,S,k,z,t,F,G,fun H2 e o B=>?_⟩;cases k with
  |false=>
   cases i;exact hc u H2 e o (t.ext o) B
  |true=>
   obtain⟨⟨D,p,s⟩,I,i⟩:=oB1.mp i;have w:∀{a H' mu'},Ext e mu' H2 H'->fj K H' mu' p a->Sim K H' mu' s->qo c b m p s=some (f,C,A)->uE K (qo c b m) E a H':=fun{a H' mu'} x g l i=>by
    refine⟨p,mu',s,f,C,A,g,l,i,?_⟩;cases f with
    |nx=>exact fun j H2 e y=>hc j H2 e ((o.trans x).trans y)
    |bk=>exact fun j H2 e y=>hc j H2 e ((o.trans x).trans y)
    |ct=>exact fun j H2 e y=>hc j H2 e ((o.trans x).trans y)
    |rt d=>exact fun v H2 e y=>hc v H2 e ((o.trans x).trans y)
   refine⟨fun a H'=>uE K (qo c b m) E a H',fun a H' q=>⟨m,bC _,q⟩,r,e,z,D,p,s,t.ext o,B,I,?_⟩;cases D with
   |nx=>exact fun a H' mu' x g l=>w x g l i
   |ct=>exact fun a H' mu' x g l=>w x g l i
   |bk=>cases i;exact fun a H' mu' x g l=>hc a H' mu' (o.trans x) g l
   |rt d=>cases i;exact fun v H' mu' x p l=>hc v H' mu' (o.trans x) p l
theorem y0{X:Cx}{pos:Pos}(n:Nat){c:Expr}{a:List dJ}{t:FT}{b:FS}(hp:PassesOwn (model X.prog X.w) X.A X.env X.xe)(hc:MT X c t)(hb:xk X a b):MS X (.While c a [] pos) (qo t b n):=
 gU (yq hp hc hb) fun _ _ _=>C6
structure Ak where
 items:List D
 chk:List (Nat×List D)
noncomputable def n3 (S:Sto):List (Nat×List D)->Bool
 |[]=>true
 | (n,xs)::c=>(match S[n]? with
   |some (.lst ys)=>D.sames ys xs
   |_=>false)&&n3 S c
noncomputable def ItR(K:Fg1)(j:It)(J:Ak)(mu:List dy)(H:Hp):Prop:=∀i H1 mu1 S1,qq mu mu1 H H1->Sim K H1 mu1 S1->n3 S1 J.chk=true ->
 (∀d,J.items[i]?=some d->j.go i H1 /\ ∀x H2,j.yld i H1 x H2->Ext mu1 mu1 H1 H2/\Sim K H2 mu1 S1/\eB K H2 mu1 d x)/\(J.items.length<=i->j.stop i H1)
abbrev FI:=Ev->Sto->Option (Ak×Sto)
inductive HY (K:Fg1)(m:FI)(σ:L2.St)(H:Hp)(R:It->Hp->Prop):Prop
 |mk (r:Ev) (mu:List dy) (S:Sto) (J:Ak) (S':Sto) (he:fj K H mu r σ) (hs:Sim K H mu S) (hm:m r S=some (J,S')) (hc:∀j H' mu',Ext mu mu' H H'->ItR K j J mu' H'->Sim K H' mu' S'->R j H')
abbrev MI(X:Cx)(tg iter:Expr)(m:FI):Prop:=PI X tg iter (HY X.K m)
theorem mo{X:Cx}{tg e:Expr}{t t':TI}(h:PI X tg e t)(i:∀ σ H R,t' σ H R->t σ H R):PI X tg e t':=fun pins s σ H R I q=>h pins s σ H R I (i σ H R q)
theorem Gc{X:Cx}{tg e:Expr}{t t':TI}(h:PI X tg e t)(h':PI X tg e t'):PI X tg e (fun σ H R=>t σ H R\/t' σ H R):=fun pins s σ H R I q=>q.elim (h pins s σ H R I) (h' pins s σ H R I)
noncomputable def j8 (c:List (Nat×List D))(g:FG)(b:FS):List D->FS
 |[]=>fun r S=>if n3 S c=true then some (.nx,r,S)else none
 | d::ds=>fun r S=>if n3 S c=true then (g d r S).bind fun p=>(b p.1 p.2).bind fun q=>match q.1 with
   | .nx=>j8 c g b ds q.2.1 q.2.2
   | .ct=>j8 c g b ds q.2.1 q.2.2
   | .bk=>some (.nx,q.2.1,q.2.2)
   | .rt v=>some (.rt v,q.2.1,q.2.2)
  else none
noncomputable def iE (m:FI)(g:FG)(b:FS):FS:=fun r S=>(m r S).bind fun p=>j8 p.1.chk g b p.1.items r p.2
theorem lz{α:Type}{l:List α}{i:Nat}{d:α}{ds:List α}(h:l.drop i=d::ds):l[i]?=some d/\l.drop (i+1)=ds:=by
 have h1:l[i]?=some d:=by
  have:=congrArg (·[0]?) h;simpa using this
 refine⟨h1,?_⟩;rw[<- bD,h];rfl
inductive IU (K:Fg1)(mu1:List dy)(H1:Hp)(c:List (Nat×List D))(g:FG)(b:FS)(f:Fl)(r':Ev)(S':Sto)(L:List D)(σ':L2.St)(H':Hp):Prop
 |mk (r2:Ev) (mu2:List dy) (S2:Sto):Ext mu1 mu2 H1 H'->fj K H' mu2 r2 σ'->Sim K H' mu2 S2->j8 c g b L r2 S2=some (f,r',S')->IU K mu1 H1 c g b f r' S' L σ' H'
theorem Bz{K:Fg1}{m:FI}{g:FG}{b:FS}{E:i7}{σ:L2.St}{H:Hp}(h:uE K (iE m g b) E σ H):FX (HY K m) (Dk K g) (uE K b) E σ H:=by
 obtain⟨r,mu,S,f,U,Q,M,W,C,hc⟩:=h;obtain⟨⟨J,V⟩,e1,C⟩:=oB1.mp C;refine⟨r,mu,S,J,V,M,W,e1,fun j H1 mu1 A R s1=>?_⟩;refine⟨fun i k w H'=>k=(J.items.drop i).length/\IU K mu1 H1 J.chk g b f U Q (J.items.drop i) w H',⟨_,rfl,r,mu1,V,.refl _ _,M.ext A,s1,C⟩,?_⟩;rintro i k L H2 ⟨rfl,r2,l,S2,o,t,I,a⟩;cases hl:J.items.drop i with
 |nil=>
  left;rw[hl]at a;rw[j8]at a;dsimp only at a;split at a
  ·rename_i ok;cases a;refine⟨(R i H2 l _ o.w I ok).2 (List.drop_eq_nil_iff.mp hl),?_⟩;exact hc L H2 l (A.trans o) t I
  ·cases a
 |cons d ds=>
  right;rw[hl]at a;obtain⟨hi,P⟩:=lz hl;rw[j8]at a;dsimp only at a;split at a
  ·rename_i ok;obtain⟨⟨N,T⟩,e3,a⟩:=oB1.mp a;obtain⟨⟨O,B,G⟩,e4,a⟩:=oB1.mp a;obtain⟨go,yl⟩:=(R i H2 l _ o.w I ok).1 d hi;refine⟨go,IU K mu1 H1 J.chk g b f U Q ds,?_,fun x H3 y=>?_⟩
   ·intro w H' h5;exact⟨ds.length,bC _,(congrArg List.length P).symm,P.symm ▸ h5⟩
   ·obtain⟨s,Y,Z⟩:=yl x H3 y;refine⟨r2,l,S2,d,N,T,t.ext s,Y,Z,e3,fun σ4 H4 D z F s4=>?_⟩;refine⟨N,D,T,O,B,G,F,s4,e4,?_⟩;cases O with
    |nx=>exact fun p u c n e q=>⟨B,c,G,(o.trans s).trans (z.trans n),e,q,a⟩
    |ct=>exact fun p u c n e q=>⟨B,c,G,(o.trans s).trans (z.trans n),e,q,a⟩
    |bk=>cases a;exact fun p u c n e q=>hc p u c ((A.trans o).trans (s.trans (z.trans n))) e q
    |rt v=>cases a;exact fun X u c n r5 q=>hc X u c ((A.trans o).trans (s.trans (z.trans n))) r5 q
  ·cases a
theorem Ej{X:Cx}{pos:Pos}{tg iter:Expr}{a:List dJ}{m:FI}{g:FG}{b:FS}(hp:PassesOwn (model X.prog X.w) X.A X.env X.xe)(hc:X.calm=true)(hi:MI X tg iter m)(hg:MG X tg g)(hb:xk X a b)(hs:∀x,foldedSetIterable iter X.env x=pure x:=by intro _;rfl):MS X (.For tg iter a [] pos) (iE m g b):=gU (DL hp hc hi hg hb hs) fun _ _ _=>Bz
noncomputable def gz(n:Nat)(ds:List D):Ev:=ds.map some++aP (n-ds.length) none
noncomputable def iy (n:Nat)(b:FS):FN:=fun ds S=>(b (gz n ds) S).bind fun p=>match p.1 with
 | .rt d=>some (d,p.2.2)
 | .nx=>some (.non,p.2.2)
 |_=>none
theorem wg{K:Fg1}{H:Hp}{mu:List dy}{ds:List D}{vs:List V}(N:List Str)(h:dW K H mu ds vs):fj K H mu (gz N.length ds) (L2.iI N vs):=by
 refine⟨?_,fun i d e=>?_⟩
 ·unfold gz L2.iI;rw[lA1,lA1,lM1,lM1,lR1,lR1,h.length]
 ·unfold gz at e;unfold L2.iI;by_cases hi:i<ds.length
  ·rw[gL1 (by rw[lM1];exact hi),gP1]at e;obtain⟨f,a,c⟩:=oM1.mp e;cases c;obtain⟨v,b,r⟩:=h.get a;refine⟨v,?_,r⟩;rw[gL1 (by rw[lM1,<- h.length];exact hi),gP1,b];rfl
  ·rw[gR1 (by rw[lM1];lia)]at e;have:=gM1 e;rw[List.mem_replicate]at this;cases this.2
theorem GV{P:dz}{w:dB}{K:Fg1}{mg:Str->Option dr}{base:dH}{x c:Str}{st:dJ}{f:dy}{fd:dI}{N ps:List Str}{k:Nat}{b:FS}(F:xu K x c st f fd)(S:fX N ps (d3 st))(i:∀(e:dr) (A:dA) (a:List Env) (s:dw) (H:Hp) (E:XK),fF k (A.deeper (envOfC c (d3 st) s.heap.objs.size f e)) ->
   xk (lH sK P w K mg base N c (d3 st) f e A a s H E).nox (fb st) b):k3 P w K mg base sK (k+1) f fd ps (Am K ps.length (iy N.length b)):=by
 refine xu.ok F S (fun vs H Q E h=>h.1) fun e A a s H vs Q E n j=>⟨_,i e A a s H E n,?_⟩;obtain⟨_,mu,St,ds,d,t,h1,h2,g,l⟩:=j;unfold iy at g;obtain⟨⟨m,q,o⟩,r,g⟩:=oB1.mp g;refine⟨_,mu,St,m,q,o,wg N h1,h2,r,?_⟩;cases m with
 |nx=>cases g;exact fun p H' mu' x u s=>l .non H' mu' x .non s
 |rt d=>cases g;exact l
 |bk=>cases g
 |ct=>cases g
noncomputable def iX(cells:List (Str×dy)):List (Str×NameKind)->List (Str×dy)->Option (List (Str×dy))
 |[],acc=>some acc
 |(n,k)::r,acc=>if k == .free then(cells.lookup n).bind fun c=>iX cells r ((n,c)::acc)else iX cells r acc
theorem ue{env:Env}(f:Str×NameKind->List (Str×dy)->Sem (ForInStep (List (Str×dy))))(hf:∀n k d,f (n,k) d=if k == .free then(do let c<-cellOf env n;pure (.yield ((n,c)::d)))else pure (.yield d)):
  ∀(a:List (Str×NameKind)) (acc b:List (Str×dy)),iX env.cells a acc=some b->forIn a acc f=(pure b:Sem (List (Str×dy)))
 |[],acc,b,h=>by cases h;rfl
 |(n,k)::r,acc,b,h=>by
  rw[bE,hf];unfold iX at h;split at h
  ·rename_i g;rw[if_pos g];obtain⟨c,e,h⟩:=oB1.mp h;have:cellOf env n=pure c:=by unfold cellOf;rw[e]
   rw[this,pure_bind,pure_bind];exact ue f hf r _ b h
  ·rename_i g;rw[if_neg g,pure_bind];exact ue f hf r _ b h
theorem z0{scope:dL}{env:Env}{cl:List (Str×dy)}(h:iX env.cells scope.names []=some cl):closureFor scope env=pure cl:=by
 simp only[closureFor];rw[ue (env:=env) _ (fun n k a=>by cases hk:k == NameKind.free<;>simp[hk]) scope.names [] cl h];rfl
theorem ud{a:List (Str×dy)}:∀{b:List (Str×NameKind)} {acc d:List (Str×dy)},iX a b acc=some d->(∀x c,acc.lookup x=some c->a.lookup x=some c) -> ∀x c,d.lookup x=some c->a.lookup x=some c
 |[],acc,d,h,ha=>by cases h;exact ha
 |(n,k)::r,acc,d,h,ha=>by
  unfold iX at h;split at h
  ·obtain⟨c,e,h⟩:=oB1.mp h;refine ud h fun x f q=>?_;rw[bF]at q;split at q
   ·rename_i g;cases q;rw[beq_iff_eq.mp g];exact e
   ·exact ha x f q
  ·exact ud h ha
theorem lT{b:List (Str×dy)}{x:Str}:∀{a:List (Str×NameKind)} {acc d:List (Str×dy)},iX b a acc=some d->(a.lookup x=some .free\/(acc.lookup x).isSome=true)->(d.lookup x).isSome=true
 |[],acc,d,h,ha=>by
  cases h;rcases ha with q|q
  ·cases q
  ·exact q
 |(n,k)::r,acc,d,h,ha=>by
  unfold iX at h;split at h
  ·obtain⟨c,e,h⟩:=oB1.mp h;refine lT h ?_;rcases ha with q|q
   ·rw[bF]at q;split at q
    ·rename_i g;right;rw[bF,g];rfl
    ·exact .inl q
   ·right;rw[bF];split
    ·rfl
    ·exact q
  ·rename_i f;refine lT h ?_;rcases ha with q|q
   ·rw[bF]at q;split at q
    ·cases q;exact absurd rfl f
    ·exact .inl q
   ·exact .inr q
theorem fW{x:Str}{c:dy}:∀{a:List (Str×NameKind)} {n:Nat} {acc:List (Str×dy)},(cellsFrom n a acc).lookup x=some c->(n<=c/\(x,c)∈cellsFrom n a [])\/acc.lookup x=some c
 |[],_,_,h=>.inr h
 |(y,k)::r,n,acc,h=>by
  unfold cellsFrom at h ⊢;split at h
  ·rename_i b;rw [if_pos b];have app:∀ (a:List (Str×NameKind)) (m:Nat) (acc:List (Str×dy)),cellsFrom m a acc=cellsFrom m a []++acc:=by
    intro a
    induction a with
    |nil=>intro m acc;rfl
    |cons p r ih=>
     obtain⟨z,q⟩:=p;intro m acc;unfold cellsFrom;split
     ·rw[ih _ ((z,m)::acc),ih _ [(z,m)],bG];rfl
     ·exact ih m acc
   rcases fW h with⟨h1,h2⟩|h1
   ·refine .inl ⟨by lia,?_⟩;rw[app];exact aH _ h2
   ·rw[bF]at h1;split at h1
    ·rename_i d;cases h1;refine .inl ⟨nR1 _,?_⟩;rw[app,beq_iff_eq.mp d];exact mA1 _ mS1
    ·exact .inr h1
  ·rename_i b;rw[if_neg b];exact fW h
theorem nI{x:Str}{c:dy}{n:Nat}{acc:List (Str×dy)}{a:List (Str×NameKind)}(hx:a.lookup x=some .cell)(h:(cellsFrom n a acc).lookup x=some c):n<=c:=by
 have app:∀(a:List (Str×NameKind)) (m:Nat) (acc:List (Str×dy)),cellsFrom m a acc=cellsFrom m a []++acc:=by
  intro a
  induction a with
  |nil=>intro m acc;rfl
  |cons p r ih=>
   obtain⟨z,q⟩:=p;intro m acc;unfold cellsFrom;split
   ·rw[ih _ ((z,m)::acc),ih _ [(z,m)],bG];rfl
   ·exact ih m acc
 rw[app,List.lookup_append]at h;have q:=PySem.W.cellsFrom_some a n [] (.inl hx);obtain⟨b,e⟩:=aQ.mp q;rw[e]at h;cases h;rcases fW e with⟨h1,_⟩|h1
 ·exact h1
 ·cases h1
theorem jp {M:Model}{A:dA}{E:dr->dw->Prop}{s:dw}{scope:dL}{globals:dy}{c:List (Str×dy)}{qual:Str}{func:Option dy}{code:dr}{env:Env}{b:dy}{Q:Env->dw->Prop}
  (d:Q {scope,locals:=s.heap.objs.size,globals,cells:=cellsFrom (s.heap.objs.size+1) scope.names c,qual,func,code:=env.code,frame:=env.frame,builtins:=env.builtins}
   {s with heap:=pushCells (s.heap.push {cls:=.type "dict",data:=.dict #[]}) scope.names}):
  dG M A (newFunctionEnv scope globals c [] qual func code (some env) b) Q E s:=by
 simp only[newFunctionEnv,Option.isSome_some,if_true];refine wB1 (wpAny_alloc ?_);refine wB1 (wpAny_layCells _ (fun name a cells=>by cases hkc:a == NameKind.cell<;>simp[hkc]) _ _ _ _ ?_);rw[show({s with heap:=s.heap.push {cls:=.type "dict",data:=.dict #[]}}:dw).heap.objs.size=s.heap.objs.size+1 from hZ1 ..];refine wB1 ?_;rw[List.forIn_nil];exact wP1 (wP1 d)
noncomputable def cxC(X:Cx)(scope:dL)(cl:List (Str×dy))(T:List Str)(keep:List Nat)(s:dw)(H:Hp)(fp:List dy):Cx where
 prog:=X.prog
 w:=X.w
 K:=X.K
 mg:=X.mg
 base:=X.base
 A:=X.A
 N:=T++keep.map fun i=>X.N.getD i (Str.ofString "")
 s₀:=s
 H₀:=H
 env:=compEnvC scope (cellsFrom (s.heap.objs.size+1) scope.names cl) s.heap.objs.size X.env
 outer:=X.stack
 stack:=X.stack
 ex:=fp
 fn:=fun x=>scope.names.lookup x == some .cell
 calm:=X.calm
 pn:=[]
 xe:=fun _ _=>False
noncomputable def pW(k:Nat)(keep:List Nat)(σ:L2.St):L2.St:=aP k none++keep.map fun i=>(σ[i]?).join
theorem iO{env:Env}{x:Str}:∀ {a:List (Str×NameKind)},
  (a.map fun(n,k)=>if(k == NameKind.free&&env.scope.kind == .function&&env.kindOf n == some .cell)then(n,NameKind.cell)else(n,k)).lookup x =
   (a.lookup x).map fun k=>if(k == NameKind.free&&env.scope.kind == .function&&env.kindOf x == some .cell)then NameKind.cell else k
 |[]=>rfl
 |(n,k)::r=>by
  show List.lookup x ((if(k == NameKind.free&&env.scope.kind == .function&&env.kindOf n == some .cell)=true then(n,NameKind.cell)else(n,k))::_)=_;cases hx:x == n with
  |true=>
   have e:=beq_iff_eq.mp hx;subst e;by_cases hc:(k == NameKind.free&&env.scope.kind == .function&&env.kindOf x == some .cell)=true
   ·rw[if_pos hc,bF,hx,bF,hx];simp only[oP1,if_pos hc]
   ·rw[if_neg hc,bF,hx,bF,hx];simp only[oP1,if_neg hc]
  |false=>
   have ih:=@iO env x r;by_cases hc:(k == NameKind.free&&env.scope.kind == .function&&env.kindOf n == some .cell)=true
   ·rw[if_pos hc,bF,hx,bF,hx];exact ih
   ·rw[if_neg hc,bF,hx,bF,hx];exact ih
structure FB (X:Cx)(scope:dL)(T:List Str)(keep:List Nat):Prop where
 kind:scope.kind = .function
 names:∀x∈scope.names,x.2 = .local->scope.names.lookup x.1=some .local
 free:∀i∈keep,∃x,X.N[i]?=some x/\scope.names.lookup x=some .free/\(X.env.kindOf x=some .cell\/X.env.kindOf x=some .free)/\(x,NameKind.cell)∉scope.names
theorem rT{X:Cx}{pins:List (dy×Obj)}{σ:L2.St}{H:Hp}{s:dw}{scope:dL}{w:List (Str×dy)}{T:List Str}{keep:List Nat}{D:List dy}(I:Inv X pins σ H s)(C:FB X scope T keep)(A:iX X.env.cells scope.names []=some w)(hf:∀b∈D,jl X pins H b)(K:∀b∈D,∃o,s.heap.get? b=some o):
  Inv (cxC X scope w T keep s H D) [] (pW T.length keep σ) H {s with heap:=pushCells (s.heap.push {cls:=.type "dict",data:=.dict #[]}) scope.names}:=by
 have kept:∀b o,s.heap.get? b=some o->(pushCells (s.heap.push {cls:=.type "dict",data:=.dict #[]}) scope.names).get? b=some o:=fun b o e=>pushCells_keeps _ _ b o (hP1 _ e);have B:=cellsFrom_ok scope.names (s.heap.push {cls:=.type "dict",data:=.dict #[]}) (s.heap.objs.size+1) [] ⟨fun _ _ U=>(nomatch U),List.Pairwise.nil⟩ (by rw[hZ1];exact nR1 _);rw[hZ1]at B;have L:=ud A (fun x c q=>by cases q)
 -- a cell of the block: its own or an elder one
 have d:∀x c,(cellsFrom (s.heap.objs.size+1) scope.names w).lookup x=some c->(s.heap.objs.size+1<=c/\(x,c)∈cellsFrom (s.heap.objs.size+1) scope.names [])\/X.env.cells.lookup x=some c:=fun x c h=>by
  rcases fW h with h1|h1
  ·exact .inl h1
  ·exact .inr (L x c h1)
 have g:∀x c,X.env.cells.lookup x=some c->c<s.heap.objs.size:=fun x c e=>by
  obtain⟨v,z⟩:=I.cell x c e;exact z.lt
 have t:∀b∈D,b<s.heap.objs.size:=fun b l=>by
  obtain⟨o,e⟩:=K b l;exact hL1 e
 have fst:∀b∈D,b∉frs X.stack:=fun b l z=>by
  rcases aF.mp (I.stkSub b z)with q|q
  ·exact(hf b l).2.1 q
  ·exact(hf b l).2.2.1 q
 have kindOf:∀x,(cxC X scope w T keep s H D).env.kindOf x=(scope.names.lookup x).map fun k=>if(k == NameKind.free&&X.env.scope.kind == .function&&X.env.kindOf x == some .cell)then NameKind.cell else k:=fun x=>iO
 refine⟨⟨I.ok.mod,C.kind,I.ok.glob,I.ok.blt,nR1 _,fun x y c h1 h2=>?_,fun x E=>?_,fun x c h1 h2=>?_,I.ok.hd,I.ok.frames,.inl rfl,fun b l=>⟨nN1 (t b l),fun x c h z=>?_⟩,fun b o e=>I.bs b o e,aC I.ok.bsz I.sz,fun b o e l=>?_,fst,I.stack,I.stkFree⟩,
  rfl,I.bare,Un.kept kept,⟨fun _=>none,(Heap.Ns.new s.heap (.type "dict")).keeps (pushCells_keeps _ _),fun i x v h1 h2 h3=>?_⟩,fun x c h=>?_,I.hok.fresh (nR1 _),fun x c h=>?_,fun p hp=>absurd (show p∈([]:List (dy×Obj))from hp) (by simp),I.hok.kept kept,?_⟩
 ·rcases d x c h1 with⟨a1,a2⟩|a1<;>rcases d y c h2 with⟨b1,b2⟩|b1
  ·exact name_of_addr B.apart a2 b2
  ·exact absurd (bH (bI a1) (g y c b1)) (az _)
  ·exact absurd (bH (bI b1) (g x c a1)) (az _)
  ·exact I.ok.inj x y c a1 b1
 ·have F:scope.names.lookup x=some .cell\/scope.names.lookup x=some .free:=by
   rw[kindOf x]at E;cases e:scope.names.lookup x with
   |none=>rw[e]at E;rcases E with z|z<;>cases z
   |some k=>
    rw[e]at E;simp only[oP1]at E;cases k<;>simp_all
  have:((cellsFrom (s.heap.objs.size+1) scope.names w).lookup x).isSome=true:=by
   rcases F with z|z
   ·exact PySem.W.cellsFrom_some _ _ _ (.inl z)
   ·exact PySem.W.cellsFrom_some _ _ _ (.inr (lT A (.inl z)))
  exact aQ.mp this
 ·have f:scope.names.lookup x=some .cell:=by simpa[cxC]using h1
  have:=nI f h2;exact aC (aX _) this
 ·subst z;rcases d x c h with⟨a1,_⟩|a1
  ·exact absurd (bH (bI a1) (t c l)) (az _)
  ·exact(hf c l).2.2.2.2.1 x c a1 rfl
 ·rcases(hf b l).2.2.2.1 with z|z
  ·exact I.ok.noex b o e z
  ·exact absurd (nL1 (hL1 e) (aC I.ok.bsz z)) (az _)
 ·-- a name of the block that has a value:one of the outer text's
  have hi:T.length<=i:=by
   refine Nat.le_of_not_lt fun hi=>?_;unfold pW at h2;rw[gL1 (by rw[lR1];exact hi),aS]at h2;split at h2<;>cases h2
  unfold pW at h2;rw[gR1 (by rw[lR1];exact hi),lR1,gP1]at h2;obtain⟨j,O,h2⟩:=oM1.mp h2;have f:X.N.getD j (Str.ofString "")=x:=by
   have f:(T++keep.map fun i=>X.N.getD i (Str.ofString ""))[i]?=some x:=h1;rw[gR1 hi,gP1,O]at f;exact Option.some.inj f
  obtain⟨y,N,P,ky,Z⟩:=C.free j (gM1 O);have G:y=x:=by rw[<- f,bJ,N];rfl
  subst G;have M:σ[j]?=some (some v):=by
   cases e:σ[j]? with
   |none=>rw[e]at h2;cases h2
   |some o=>rw[e]at h2;cases h2;rfl
  obtain⟨m,hn,hl⟩:=I.loc;obtain⟨u,Y,R⟩:=hl j y v N M (by
   rcases ky with z|z
   ·exact .inr (.inl z)
   ·exact .inr (.inr z))
  refine⟨u,Y,?_⟩;rcases R with⟨z,_⟩|⟨_,c,V,zc⟩
  ·rcases ky with q|q<;>(rw[z]at q;cases q)
  ·right;refine⟨?_,c,?_,zc.keeps kept⟩
   ·rw[kindOf,P];simp only[oP1];split
    ·exact .inl rfl
    ·exact .inr rfl
   ·obtain⟨c',S⟩:=aQ.mp (PySem.W.cellsFrom_some scope.names (s.heap.objs.size+1) w (.inr (lT A (.inl P))):((cellsFrom (s.heap.objs.size+1) scope.names w).lookup y).isSome=true);have Q:(cellsFrom (s.heap.objs.size+1) scope.names w).lookup y=some c':=S;rcases d y c' Q with⟨a1,a2⟩|a1
    ·-- an own cell of that name:its kind would be cell
     exfalso;have:∀(names:List (Str×NameKind)) (n:Nat),(y,c')∈cellsFrom n names []->(y,NameKind.cell)∈names:=by
      have app:∀(names:List (Str×NameKind)) (m:Nat) (acc:List (Str×dy)),cellsFrom m names acc=cellsFrom m names []++acc:=by
       intro names
       induction names with
       |nil=>intro m acc;rfl
       |cons p r ih=>
        obtain⟨z,q⟩:=p;intro m acc;unfold cellsFrom;split
        ·rw[ih _ ((z,m)::acc),ih _ [(z,m)],bG];rfl
        ·exact ih m acc
      intro names
      induction names with
      |nil=>intro n h;cases h
      |cons p r ih=>
       obtain⟨z,q⟩:=p;intro n h;unfold cellsFrom at h;split at h
       ·rename_i W;rw[app]at h;rcases aG.mp h with h|h
        ·exact mC1 _ (ih _ h)
        ·have:(y,c')=(z,n):=by simpa using h
         cases this;have J:q=NameKind.cell:=by simpa using W
         subst J;exact mS1
       ·exact mC1 _ (ih _ h)
     exact Z (this _ _ a2)
    ·rw[V]at a1;cases a1;exact Q
 ·rcases d x c h with⟨a1,a2⟩|a1
  ·exact⟨_,(B.empty x c a2).1⟩
  ·obtain⟨v,z⟩:=I.cell x c a1;exact⟨v,z.keeps kept⟩
 ·rcases d x c h with⟨a1,a2⟩|a1
  ·exact I.hok.fresh (bI a1)
  ·exact I.freeC x c a1
 ·show(pW T.length keep σ).length=(T++keep.map fun i=>X.N.getD i (Str.ofString "")).length;unfold pW;rw[lA1,lA1,lR1,lM1,lM1]
noncomputable def qw(p:Pos)(tg:Expr)(ifs:List Expr)(it:dr)(env:Env)(emit:Sem Unit)(c:Code):Sem PySem.Fin:=do
 standAt p
 match<-pyNext it with
 |none=>pure (.done .next)
 |some v=>
  letOwnedTupleGo tg it v
  assign tg env v
  let mut ok:=true
  for c in ifs do
   if ok then ok<-isTrue c env (eval c env)
  if ok then emit
  again c
noncomputable def oG(elt:Expr)(acc:dr)(env:Env):Sem Unit:=do let _<-call (.builtin "list.append") [acc,<- eval elt env]
theorem tf(elt tg iter:Expr)(ifs:List Expr)(scope:dL)(pos:Pos)(it acc:dr)(env:Env):
  compTurn (.ListComp elt [⟨tg,iter,ifs,0⟩] scope pos) 0 it acc env=qw iter.pos tg ifs it env (oG elt acc env) (.compLoop (.ListComp elt [⟨tg,iter,ifs,0⟩] scope pos) 0 it acc env):=by rfl
noncomputable def nL(X:Cx)(ifs:List Expr)(t:TT):Prop:=
 ∀(pins:List (dy×Obj)) (s:dw) (σ:L2.St) (H:Hp) (Q:Bool->Hp->Prop),Inv X pins σ H s->t σ H Q ->
  dG (model X.prog X.w) X.A (forIn ifs true fun c r=>if r=true then do let ok<-isTrue c X.env (eval c X.env);pure (ForInStep.yield ok)else pure (ForInStep.yield r)) (TP X pins σ Q) X.xe s
theorem yw{X:Cx}:nL X [] (fun σ H Q=>Q true H):=fun pins s σ H Q I h=>wpAny_tests_nil ⟨H,I,h⟩
theorem yv{X:Cx}{c:Expr}{t:TT}(h:PT X c t):nL X [c] t:=fun pins s σ H Q I q=>wpAny_tests_one (h pins s σ H Q I q)
noncomputable def PU(X:Cx)(m:Sem Unit)(t:TS):Prop:=
 ∀(pins:List (dy×Obj)) (s:dw) (σ:L2.St) (H:Hp) (E:i7),Inv X pins σ H s->t E σ H->dG (model X.prog X.w) X.A m (fun _ s'=>∃ σ' H',Inv X pins σ' H' s'/\E.nx σ' H') X.xe s
theorem oH{X:Cx}(hx:X.xe=fun _ _=>False)(hc:X.calm=true){elt:Expr}{c:List Comprehension}{scope:dL}{pos p:Pos}{d:Nat}{tg:Expr}{ifs:List Expr}{acc:dr}{emit:Sem Unit}{J:It}{v:List dy}{it:dy}{O:Nat->dH->Prop}{g:TG}{ti:TT}{tb:TS}(eq:compTurn (.ListComp elt c scope pos) d (.ref it) acc X.env=qw p tg ifs (.ref it) X.env emit (.compLoop (.ListComp elt c scope pos) d (.ref it) acc X.env))(T:sI X.prog X.w X.K tg J v it O)(hg:PG X tg g)(hi:nL X ifs ti)(he:PU X emit tb){pins:List (dy×Obj)}{s:dw}{σ:L2.St}{H:Hp}{D:i7}(I:Inv X pins σ H s)(st:O 0 s.heap)(Z:∀b∈v,jl X pins H b)(h:∃W:Nat->Nat->L2.St->Hp->Prop,(∃m,W 0 m σ H) /\ ∀i m σ H,W i m σ H ->
   (J.stop i H/\D.nx σ H)\/(J.go i H /\ ∃N:L2.St->Hp->Prop,(∀a H',N a H' -> ∃P,P<m/\W (i+1) P a H') /\ ∀x H',J.yld i H x H'->g x σ H' fun z H2=>ti z H2 fun b y=>if b=true then tb {D with nx:=N} z y else N z y)):
  codeAny (model X.prog X.w) X.A (.compLoop (.ListComp elt c scope pos) d (.ref it) acc X.env) (fun r s'=>match r with | .ok _=>∃a H',Inv X pins a H' s'/\D.nx a H' | .error _=>False) s:=by
 obtain⟨W,⟨m0,w0⟩,L⟩:=h;have j:∀{H':Hp},(∀b∈v,H' b=none) -> ∀b∈v,jl X pins H' b:=fun hn b l=>⟨hn b l,(Z b l).2⟩;refine codeAny_loop rfl (fun n s'=>∃i a H',Inv X pins a H' s'/\O i s'.heap/\(∀b∈v,H' b=none)/\W i n a H') ?_ m0 ⟨0,σ,H,I,st,fun b l=>(Z b l).1,w0⟩;rintro n S ⟨i,k,y,I3,K,M,w3⟩;show dG _ _ ((compTurn (.ListComp elt c scope pos) d (.ref it) acc X.env).onRaise (fun x=>do noteFrame x X.env;theTreesLotGoes x)) _ _ S;refine wpAny_noted ?_;rw[eq];have B:∀{α:Type} {m:Sem α} {Q:α->dw->Prop} {s:dw} {E:dr->dw->Prop},dG (model X.prog X.w) X.A m Q X.xe s->dG (model X.prog X.w) X.A m Q E s:=fun h=>by
  rw[hx]at h;exact wpAny_mono h (fun _ _ q=>q) fun _ _ q=>q.elim
 unfold qw;refine wB1 (wpAny_standAt (wB1 ?_));rcases L i n k y w3 with⟨G,qn⟩|⟨go,N,hN,step⟩
 ·refine B (e6 (T.done X rfl rfl rfl hc i pins S k y X.xe I3 (j M) K G) fun r s4 ⟨U,I4⟩=>?_);subst U;exact wP1 ⟨k,y,I4,qn⟩
 ·refine B (e6 (T.item X rfl rfl rfl hc i pins S k y X.xe I3 (j M) K go) fun r s4 ⟨u,U,h4⟩=>?_);subst U;refine wB1 (B (e6 h4 fun _ s5 ⟨x,H5,I5,r5,y5,t,V⟩=>?_));have R:=I5.pinned (j V) (T.obj _ _ t);refine wB1 (B (e6 (hg _ s5 k H5 x u _ R r5 (step x H5 y5)) fun _ s6 ⟨F,H6,I6,q6⟩=>?_));refine wB1 (B (e6 (hi _ s6 F H6 _ I6 q6) fun ok C ⟨w,A,Y⟩=>?_));have again':∀ {f:L2.St} {w:Hp} {C:dw},Inv X (pins++mm v s5.heap) f w C->N f w -> ∃ m,m<n /\ ∃ i a H',Inv X pins a H' C/\O i C.heap/\(∀ b∈v,H' b=none)/\W i m a H':=fun {f w C} A n7=>by
   obtain⟨P,hm,w7⟩:=hN f w n7;refine⟨P,hm,i+1,f,w,A.unpinned,T.keep _ _ _ t fun b l o e=>(A.pin (b,o) (mA1 _ (mA1 _ (iu l e)))).1,fun b l=>?_,w7⟩;obtain⟨o,e,d⟩:=T.obj _ _ t b l;exact(A.pin (b,o) (mA1 _ (mA1 _ (iu l e)))).2.1
  cases ok with
  |false=>exact wP1 ⟨rfl,again' A Y⟩
  |true=>exact wB1 (B (e6 (he _ C F w _ A Y) fun _ s8 ⟨σ8,H8,I8,q8⟩=>wP1 ⟨rfl,again' I8 q8⟩))
noncomputable def qy(p:dy)(te:TE):TS:=fun D σ H=>te σ H fun x H1=>∃xs,H1 p=some (.lst xs)/\xs.length<dF/\D.nx σ (upd H1 p (.lst (xs++[x])))
theorem pF{X:Cx}{elt:Expr}{te:TE}(h:PE X elt te)(p:dy):PU X (oG elt (.ref p) X.env) (qy p te):=by
 intro pins s σ H E I q;unfold oG;refine wB1 (e6 (h pins s σ H _ I q) fun u i ⟨x,H1,c,g,xs,f,d,e⟩=>?_);refine wB1 (e6 (n9 pins i σ H1 (.ref p) [x] (.ref p) [u] (fun _ H'=>E.nx σ H') c rfl (.cons g .nil) ⟨p,xs,x,rfl,rfl,f,d,e⟩) fun _ j ⟨_,H2,a,_,b⟩=>?_);exact wP1 ⟨σ,H2,a,b⟩
noncomputable def CB(J:It)(g:TG)(ti:TT)(tb:TS):TS:=fun D σ H=>∃W:Nat->Nat->L2.St->Hp->Prop,(∃m,W 0 m σ H) /\ ∀i m σ H,W i m σ H ->
 (J.stop i H/\D.nx σ H)\/(J.go i H /\ ∃N:L2.St->Hp->Prop,(∀ σ' H',N σ' H' -> ∃m',m'<m/\W (i+1) m' σ' H') /\ ∀x H',J.yld i H x H'->g x σ H' fun σ2 H2=>ti σ2 H2 fun b H3=>if b=true then tb {D with nx:=N} σ2 H3 else N σ2 H3)
theorem Un.sameBut{fs ex:List dy}{H H':Hp}{h h1 h2:dH}{c:dy}(u:Un fs ex H H' h h1)(hs:Heap.SameBut c h1 h2)(hc:h.get? c=none):Un fs ex H H' h h2:=by
 have ne:∀{b o},h.get? b=some o->b≠c:=fun e z=>by rw[z,hc]at e;cases e
 refine⟨fun b o e n d a=>(hs.2 b (ne e)).trans (u.keep b o e n d a),fun b o e n d a=>?_,u.free,fun b o e a=>?_,u.tups,u.frzs,u.tbls⟩
 ·obtain⟨sl,q⟩:=u.slot b o e n d a;exact⟨sl,(hs.2 b (ne e)).trans q⟩
 ·obtain⟨o',q⟩:=u.there b o e a;exact⟨o',(hs.2 b (ne e)).trans q⟩
noncomputable def uF(k:Nat)(keep:List Nat)(wi:TI)(g:TG)(ti:TT)(tb:dy->TS):TE:=fun σ H Q=>wi σ H fun J H1=>∀p,H1 p=none ->
 CB J g ti (tb p) {nx:=fun _ H'=>Q (.ref p) H',rt:=fun _ _=>False} (pW k keep σ) (upd H1 p (.lst []))
theorem uU{X:Cx}(hc:X.calm=true){elt tg iter:Expr}{ifs:List Expr}{rest:List Comprehension}{scope:dL}{pos:Pos}{T:List Str}{keep:List Nat}{k:List (Str×dy)}{L:TI}{g:TG}{ti:TT}{tb:dy->TS}{emit:dr->Env->Sem Unit}(eq:∀it l i,compTurn (.ListComp elt (⟨tg,iter,ifs,0⟩::rest) scope pos) 0 it l i=qw iter.pos tg ifs it i (emit l i) (.compLoop (.ListComp elt (⟨tg,iter,ifs,0⟩::rest) scope pos) 0 it l i))(C:FB X scope T keep)(w:iX X.env.cells scope.names []=some k)(hi:PI X tg iter L)(hb:∀s H d p,PG (cxC X scope k T keep s H d) tg g/\nL (cxC X scope k T keep s H d) ifs ti/\PU (cxC X scope k T keep s H d) (emit (.ref p) (cxC X scope k T keep s H d).env) (tb p))(hs:∀x,foldedSetIterable iter X.env x=pure x:=by intro _;rfl):
  PE X (.ListComp elt (⟨tg,iter,ifs,0⟩::rest) scope pos) (uF T.length keep L g ti tb):=by
 intro pins s σ H Q I h;rw[eval_ListComp];refine wpAny_comprehension_free (use:=none) rfl hs (z0 w) C.kind C.names ?_;refine e6 (hi pins s σ H _ I h) fun v s1 h1=>e6 h1 fun itv a h2=>?_;obtain⟨it,d,O,J,H2,rfl,F,TT,u,G,N⟩:=h2;refine wO1 ?_;have M:Inv X pins σ (upd H2 a.heap.objs.size (.lst [])) {a with heap:=a.heap.push {cls:=.type "list",data:=.seq ([]:List dr).toArray}}:=F.lnew (t':=a.toks) .nil (bh _);have old:∀b∈d,∃o,a.heap.get? b=some o:=fun b hb=>by
  obtain⟨o,e,_⟩:=TT.obj 0 a.heap u b hb;exact⟨o,e⟩
 have D:∀b∈d,b≠a.heap.objs.size:=fun b hb z=>by
  obtain⟨o,e⟩:=old b hb;have:=hL1 e;rw[z]at this;exact az _ this
 have B:∀b∈d,jl X pins (upd H2 a.heap.objs.size (.lst [])) b:=fun b hb=>⟨by rw[dR (D b hb)];exact(G b hb).1,(G b hb).2⟩;have Y:∀b∈d,∃o,({a with heap:=a.heap.push {cls:=.type "list",data:=.seq ([]:List dr).toArray}}:dw).heap.get? b=some o:=fun b hb=>by
  obtain⟨o,e⟩:=old b hb;exact⟨o,hP1 _ e⟩
 have A:=rT M C w B Y;obtain⟨S,R,P⟩:=hb {a with heap:=a.heap.push {cls:=.type "list",data:=.seq ([]:List dr).toArray}} (upd H2 a.heap.objs.size (.lst [])) d a.heap.objs.size;refine jp ?_;have U:∀b∈d,jl (cxC X scope k T keep {a with heap:=a.heap.push {cls:=.type "list",data:=.seq ([]:List dr).toArray}} (upd H2 a.heap.objs.size (.lst [])) d) [] (upd H2 a.heap.objs.size (.lst [])) b:=fun b hb=>
  ⟨(B b hb).1,(A.ok.exf b hb).1,A.ok.exfs b hb,.inl hb,(A.ok.exf b hb).2,fun p hp=>absurd (show p∈([]:List (dy×Obj))from hp) (by simp)⟩
 have t:O 0 (pushCells ((a.heap.push {cls:=.type "list",data:=.seq ([]:List dr).toArray}).push {cls:=.type "dict",data:=.dict #[]}) scope.names):=
  TT.keep 0 a.heap _ u fun b hb o e=>pushCells_keeps scope.names _ b o (hP1 _ (hP1 _ e))
 have j:=oH (X:=cxC X scope k T keep {a with heap:=a.heap.push {cls:=.type "list",data:=.seq ([]:List dr).toArray}} (upd H2 a.heap.objs.size (.lst [])) d) rfl hc (eq (.ref it) (.ref a.heap.objs.size) _) TT S R P A t U
  (N a.heap.objs.size (F.hok.fresh (nR1 _)))
 refine codeAny_mono (codeAny_compStart_list j (TT.self X.A 0 _ _ _ t j)) fun r s' K=>?_;cases r with
 |error e=>exact K.elim
 |ok f=>
  obtain⟨σ',H',n,W⟩:=K;obtain⟨m,Z,_⟩:=id n.loc;refine⟨m,Z,fun h' y=>⟨.ref a.heap.objs.size,H',?_,rfl,W⟩⟩;refine M.call' (s':={s' with heap:=h'}) (ch:=d) n.os (Un.sameBut n.base y (Heap.get?_none_of_le (nR1 _))) (fun b V e=>?_) n.bare fun b hb=>(B b hb).2.2.2 |> fun z=>⟨z.1,(B b hb).2.1,z.2.1,z.2.2⟩
  refine(n.hok b V e).stay (fun c w' hc q=>(y.2 c ?_).trans q) (fun _ q=>q) fun _ _ q=>q;rintro rfl;have E:=n.free;rcases hc with rfl|hc
  ·exact nomatch E.symm.trans e
  ·exact nomatch E.symm.trans hc
section
variable{K:Fg1}{H:Hp}{mu:List dy}{S:Sto}{p:dy}{u:HO}{o:Ob}{n:Nat}
theorem Rd.ne{a:dy}{x:HO}(h:H p=none)(q:Rd H a x):a≠p:=by
 rintro rfl;rcases q with q|⟨_,q⟩<;>(rw[h]at q;cases q)
theorem Ext.fresh(hp:H p=none):Ext mu mu H (upd H p u) where
 pre:=bm
 old:=fun a o h _=>by rw[dR (ei h hp)];exact h
 tup:=fun a xs h=>by
  have ne:=Rd.ne hp h;rcases h with h|⟨b,h⟩
  ·exact .inl (by rw[dR ne];exact h)
  ·exact .inr ⟨b,by rw[dR ne];exact h⟩
 frz:=fun a o x h=>by rw[dR (ei h hp)];exact h
 new:=fun _ h=>.inl h
theorem Ext.new_(hp:H p=none):Ext mu (mu++[p]) H (upd H p u) where
 pre:=bu _ _
 old:=(Ext.fresh (mu:=mu) hp).old
 tup:=(Ext.fresh (mu:=mu) hp).tup
 frz:=(Ext.fresh (mu:=mu) hp).frz
 new:=fun a h=>by
  rcases aG.mp h with h|h
  ·exact .inl h
  ·have:a=p:=by simpa using h
   subst this;exact .inr hp
theorem Sim.fresh(s:Sim K H mu S)(hp:H p=none):Sim K (upd H p u) mu S:=
 ⟨s.len,s.nd,fun k o a h1 h2=>(s.ob k o a h1 h2).keep (Ext.fresh hp) fun b e=>by rw[dR (ei e hp)];exact e⟩
theorem Sim.notin(s:Sim K H mu S)(hp:H p=none):p∉mu:=fun h=>by
 obtain⟨o,e⟩:=s.here h;rw[hp]at e;cases e
theorem k0.more{a:dy}{mu':List dy}{H':Hp}(e:Ext mu mu' H H')(h:∀o,H a=some o->H' a=some o):∀{o:Ob},k0 K H mu a o->k0 K H' mu' a o
 | .lst _,⟨vs,q,r⟩=>⟨vs,h _ q,r.ext e⟩
 | .dct _,⟨ws,q,r⟩=>⟨ws,h _ q,KR.ext e r⟩
 | .dcT _,⟨ws,q,r,l⟩=>⟨ws,h _ q,KT.ext e r,l⟩
 | .iset _,q=>⟨h _ q.1,q.2⟩
 | .dcF _,⟨ws,⟨o,u,b,c⟩,r,l⟩=>⟨ws,⟨o,u,h _ b,c⟩,KT.ext e r,l⟩
 | .tst _,⟨ws,q,r⟩=>⟨ws,h _ q,KT.ext e r⟩
theorem Sim.new(s:Sim K H mu S)(hp:H p=none)(ho:k0 K (upd H p u) (mu++[p]) p o):Sim K (upd H p u) (mu++[p]) (S++[o]):=by
 refine⟨by rw[lA1,lA1,s.len];rfl,?_,fun k o' a h1 h2=>?_⟩
 ·rw[bw];refine⟨s.nd,by simp,fun a g b f e=>?_⟩;have:b=p:=by simpa using f
  subst this;subst e;exact s.notin hp g
 ·by_cases d:k<S.length
  ·rw[gL1 d]at h1;rw[gL1 (by rw[s.len];exact d)]at h2;exact(s.ob k o' a h1 h2).more (Ext.new_ hp) fun h e=>by rw[dR (ei e hp)];exact e
  ·have c:k=S.length:=by
    have:=(gE1.mp h1).1;rw[lA1]at this;simp at this;lia
   subst c;rw[gR1 (nR1 _)]at h1;rw[<- s.len,gR1 (nR1 _)]at h2;simp at h1 h2;subst h1;subst h2;exact ho
theorem Ext.put{x:HO}(hp:H p=some x)(hm:Mut (some x))(b:p∈mu):Ext mu mu H (upd H p u) where
 pre:=bm
 old:=fun a o h n=>by rw[dR (fun e=>n (by rw[e];exact b))];exact h
 tup:=fun a xs h=>by
  have ne:a≠p:=by
   rintro rfl;rcases h with h|⟨_,h⟩<;>(rw[hp]at h;cases h;exact hm)
  rcases h with h|⟨c,h⟩
  ·exact .inl (by rw[dR ne];exact h)
  ·exact .inr ⟨c,by rw[dR ne];exact h⟩
 frz:=fun a o y h=>by
  rw[dR (fun e=>?_)]
  ·exact h
  ·subst e;rw[hp]at h;cases h;exact hm
 new:=fun _ h=>.inl h
theorem Sim.put(s:Sim K H mu S){x:HO}(hn:mu[n]?=some p)(hp:H p=some x)(hm:Mut (some x))(ho:k0 K (upd H p u) mu p o):Sim K (upd H p u) mu (S.set n o):=by
 refine⟨by rw[aW];exact s.len,s.nd,fun k o' a h1 h2=>?_⟩;by_cases b:n=k
 ·subst b;have c:n<S.length:=by
   have:=(gE1.mp h1).1
   rwa [aW]at this
  rw[aI c]at h1;cases h1;rw[hn]at h2;cases h2;exact ho
 ·rw [gS1 b] at h1;have ne:a≠p:=fun e=>by
   subst e;obtain⟨i,d⟩:=gE1.mp hn;obtain⟨h,f⟩:=gE1.mp h2;exact b ((List.getElem_inj s.nd).mp (d.trans f.symm))
  exact(s.ob k o' a h1 h2).keep (Ext.put hp hm (gM1 hn)) fun g e=>by rw[dR ne];exact e
theorem Sim.lst(s:Sim K H mu S){ds:List D}{a:dy}(h:S[n]?=some (.lst ds))(hn:mu[n]?=some a):∃vs,H a=some (.lst vs)/\dW K H mu ds vs:=s.ob n _ a h hn
theorem Sim.dcT(s:Sim K H mu S){ks:List (TK×D)}{a:dy}(h:S[n]?=some (.dcT ks))(hn:mu[n]?=some a):∃ws,H a=some (.ext (fO a ws))/\KT K H mu ks ws/\ws.length<=dF:=s.ob n _ a h hn
theorem Sim.dct(s:Sim K H mu S){ks:List (Key×D)}{a:dy}(h:S[n]?=some (.dct ks))(hn:mu[n]?=some a):∃ws,H a=some (.dK ws)/\KR K H mu ks ws:=s.ob n _ a h hn
theorem Sim.newL(s:Sim K H mu S){ds:List D}{vs:List V}(r:dW K H mu ds vs)(hp:H p=none):Sim K (upd H p (.lst vs)) (mu++[p]) (S++[.lst ds]):=s.new hp ⟨vs,d2,r.ext (Ext.new_ hp)⟩
theorem Sim.putL(s:Sim K H mu S){ds:List D}{vs ws:List V}(r:dW K H mu ds vs)(hn:mu[n]?=some p)(hp:H p=some (.lst ws)):Sim K (upd H p (.lst vs)) mu (S.set n (.lst ds)):=
 s.put hn hp trivial ⟨vs,d2,r.ext (Ext.put hp trivial (gM1 hn))⟩
end
theorem gi{mu:List dy}{S:Sto}(h:mu.length=S.length)(p:dy):(mu++[p])[S.length]?=some p:=by
 rw[<- h,gR1 (nR1 _)];simp
noncomputable def eQ (a:FA):FE:=fun r S=>(a r S).bind fun p=>if p.1.length<=dF then some (.tup p.1,p.2)else none
noncomputable def jv (a:FA):FE:=fun r S=>(a r S).bind fun p=>if p.1.length<=dF then some (.ref p.2.length,p.2++[.lst p.1])else none
section
variable{X:Cx}{es:List Expr}{pos:Pos}{a:FA}
theorem Ex{x1}(h:MA X es a):ME X (.Tuple es x1 pos) (eQ a):=eU (DU h) <| by
 rintro σ H Q ⟨r,mu,S,d,l,j,f,b,hc⟩;obtain⟨⟨ds,m⟩,i,b⟩:=oB1.mp b;dsimp only at b;split at b
 ·rename_i g;cases b;refine⟨r,mu,S,ds,_,j,f,i,fun vs H1 mu1 x1 e k=>⟨by rw[<- e.length];exact g,fun p c=>?_⟩⟩;exact hc _ _ mu1 (x1.trans (Ext.fresh c)) (.tup (jA.of d2) (e.ext (Ext.fresh c))) (k.fresh c)
 ·cases b
theorem EB(h:MA X es a):ME X (.List es pos) (jv a):=eU (DX h) <| by
 rintro σ H Q ⟨r,mu,S,d,m,l,g,b,hc⟩;obtain⟨⟨ds,n⟩,j,b⟩:=oB1.mp b;dsimp only at b;split at b
 ·rename_i i;cases b;refine⟨r,mu,S,ds,_,l,g,j,fun vs H1 mu1 k e f=>⟨by rw[<- e.length];exact i,fun p c=>?_⟩⟩;exact hc _ _ (mu1++[p]) (k.trans (Ext.new_ c)) (.ref (gi f.len p)) (f.newL e c)
 ·cases b
end
noncomputable def nE(k:Nat)(keep:List Nat)(r:Ev):Ev:=aP k none++keep.map fun i=>(r[i]?).join
noncomputable def fQ:FT:=fun _ S=>some (true,S)
theorem CL{K:Fg1}{H:Hp}{mu:List dy}{r:Ev}{σ:L2.St}(k:Nat)(keep:List Nat)(h:fj K H mu r σ):fj K H mu (nE k keep r) (pW k keep σ):=by
 refine⟨by unfold nE pW;rw[lA1,lA1,lM1,lM1,lR1,lR1],fun i d e=>?_⟩;unfold nE at e;unfold pW;by_cases hi:i<k
 ·rw[gL1 (by rw[lR1];exact hi),aS]at e;split at e<;>cases e
 ·rw [gR1 (by rw [lR1];lia),lR1,gP1] at e;rw [gR1 (by rw [lR1];lia),lR1,gP1];obtain ⟨j,f,e⟩:=oM1.mp e;rw [f];have b:r[j]? = some (some d):=by
   cases q:r[j]? with
   |none=>rw[q]at e;cases e
   |some o=>rw[q]at e;cases e;rfl
  obtain⟨v,a,c⟩:=h.val j d b;exact⟨v,by rw[oP1,a];rfl,c⟩
section
variable{X:Cx}
theorem yx{ifs:List Expr}{t t':L2.TT}(h:nL X ifs t)(i:∀ σ H Q,t' σ H Q->t σ H Q):nL X ifs t':=fun pins s σ H Q I q=>h pins s σ H Q I (i σ H Q q)
theorem Bo:nL X [] (xV X.K fQ):=yx yw fun σ H Q ⟨r,mu,S,b,e,d,a,c,hc⟩=>by cases c;exact hc H mu (.refl _ _) a
theorem Bn{c:Expr}{t:FT}(h:MT X c t):nL X [c] (xV X.K t):=yv h
end
open PySem.AutoSeq1 (wpAny_loadPart')
noncomputable def SIt(b:Bool)(h:dH)(it a:dy)(i:Nat):Prop:=match b with
 |true=>h.IsListIter it a i
 |false=>h.IsTupleIter it a i
noncomputable def SCo(b:Bool)(h:dH)(a:dy)(xs:Array dr):Prop:=match b with
 |true=>h.IsList a xs
 |false=>h.IsTuple a xs
theorem SIt.to{b:Bool}{h h':dH}{it a:dy}{i:Nat}(x:SIt b h it a i)(k:∀o,h.get? it=some o->h'.get? it=some o):SIt b h' it a i:=by
 cases b<;>(obtain⟨o,e,r⟩:=x;exact⟨o,k o e,r⟩)
theorem SIt.rec_{b:Bool}{h:dH}{it a:dy}{i:Nat}(x:SIt b h it a i):∃o,h.get? it=some o /\ ∀v,o.data ≠ .cell v:=by
 cases b<;>(obtain⟨o,e,c,d⟩:=x;exact⟨o,e,fun v z=>by rw[d]at z;cases z⟩)
theorem SCo.to{b:Bool}{h h':dH}{a:dy}{xs:Array dr}(x:SCo b h a xs)(k:∀o,h.get? a=some o->h'.get? a=some o):SCo b h' a xs:=by
 cases b<;>(obtain⟨o,e,r⟩:=x;exact⟨o,k o e,r⟩)
noncomputable def ge(b:Bool)(a:dy):Obj:=match b with
 |true=>{cls:=.type "list_iterator",data:=.fields #[.ref a,.int 0 0]}
 |false=>{cls:=.type "tuple_iterator",data:=.fields #[.ref a,.int 0 0]}
section
variable{prog:dz}{w:dB}{A:dA}{E:dr->dw->Prop}{s:dw}
theorem px{b:Bool}{h:dH}{it a:dy}(e:h.get? it=some (ge b a)):SIt b h it a 0:=by
 cases b<;>exact⟨_,e,rfl,rfl⟩
theorem jK{b:Bool}{a:dy}{xs:Array dr}{Q:dr->dw->Prop}(x:SCo b s.heap a xs)(h:Q (.ref s.heap.objs.size) {s with heap:=s.heap.push (ge b a)}):dG (model prog w) A (pyIter (.ref a)) Q E s:=by
 cases b
 ·exact wpAny_pyIter_tuple x h
 ·exact wpAny_pyIter_list x h
theorem yS{it l:dy}{i:Nat}{xs:Array dr}{x:dr}{Q:dr->dw->Prop}(ti:s.heap.IsTupleIter it l i)(tl:s.heap.IsTuple l xs)(hx:xs[i]? = some x)(e:∀h',h'.IsTupleIter it l (i+1)->Heap.SameBut it s.heap h'->Q x {s with heap:=h'}):dG (model prog w) A (Builtin.SmallTypes.nextOf (.ref it)) Q E s:=by
 obtain⟨o,b,hc,a⟩:=id ti;obtain⟨g,d,_,f,c⟩:=tl;unfold Builtin.SmallTypes.nextOf;refine wB1 (wpAny_callSpecial?_slot (name:=Str.ofString "__next__") ti.typeIs F.slot_tuple_iterator_next (wE1 F.slot_tuple_iterator_next ti.typeIs F.entry_tuple_iterator_next ?_ (F.args_tuple_iterator_next_1 _)));show dG _ _ (field (.ref it) 0 >>= _) _ _ s;refine wB1 (wpAny_field b a (x:=.ref l) rfl ?_);show dG _ _ (if(Value.ref l == Value.none)=true then _ else _) _ _ s;rw[if_neg (show¬ ((Value.ref l == Value.none)=true)from aK)];show dG _ _ (field (.ref it) 1 >>= _) _ _ s;refine wB1 (wpAny_field b a (x:=.int i 0) rfl ?_);show dG _ _ (seqItems? (.ref l) >>= _) _ _ s;refine wB1 (wpAny_seqItems d c ?_);simp only[Int.toNat_natCast,hx];refine wB1 (wpAny_setField b a (by simp) (wP1 ⟨x,rfl,wP1 (e _ ⟨_,hW1 _ b (Obj.isFreed_of_fields (Obj.data_mapFields a _)),(Obj.cls_mapFields ..).trans hc,by rw[Obj.data_mapFields a];simp[rawInt]⟩ (Heap.SameBut.update ..))⟩))
theorem pP {it l:dy}{i:Nat}{xs:Array dr}{Q:dr->dw->Prop}(g:A.handled=none)(ti:s.heap.IsTupleIter it l i)(tl:s.heap.IsTuple l xs)(hx:xs[i]? = none)
  (h:∀h' e,Heap.ExtBut it s.heap h'->(∃o,h'.get? e=some o/\o.cls = .type "StopIteration")->E (.ref e) {s with heap:=h'}):dG (model prog w) A (Builtin.SmallTypes.nextOf (.ref it)) Q E s:=by
 obtain⟨o,f,hc,b⟩:=id ti;obtain⟨k,d,_,j,c⟩:=tl;unfold Builtin.SmallTypes.nextOf;refine wB1 (wpAny_callSpecial?_slot (name:=Str.ofString "__next__") ti.typeIs F.slot_tuple_iterator_next (wE1 F.slot_tuple_iterator_next ti.typeIs F.entry_tuple_iterator_next ?_ (F.args_tuple_iterator_next_1 _)));show dG _ _ (field (.ref it) 0 >>= _) _ _ s;refine wB1 (wpAny_field f b (x:=.ref l) rfl ?_);show dG _ _ (if(Value.ref l == Value.none)=true then _ else _) _ _ s;rw[if_neg (show¬ ((Value.ref l == Value.none)=true)from aK)];show dG _ _ (field (.ref it) 1 >>= _) _ _ s;refine wB1 (wpAny_field f b (x:=.int i 0) rfl ?_);show dG _ _ (seqItems? (.ref l) >>= _) _ _ s;refine wB1 (wpAny_seqItems d c ?_);simp only[Int.toNat_natCast,hx];refine wB1 (wpAny_rule (wB1 (wpAny_setField f b (by simp) ?_)));show dG _ _ (newExc (.type "StopIteration") [] >>= _) _ _ _;refine wB1 ?_;simp only[newExc,newTuple];refine wB1 (wO1 ?_ (by size_fits));refine wB1 (m:=firstArgMember _ _) (wpAny_of_eq (a:=Value.none) (by first|rfl|(simp only[firstArgMember];rfl)) ?_);refine wO1 ?_ (by size_fits);simp only[raiseNew];refine wB1 (wpAny_handled ?_)
 first|rw[show A.in1.handled=none from g] | rw[g]
 refine wB1 (wP1 (wpAny_throw ?_));exact h _ _ (((Heap.SameBut.update ..).extBut.push _).push _) ⟨_,hS1 _ rfl,rfl⟩
theorem jY{b:Bool}{it l:dy}{i:Nat}{xs:Array dr}{x:dr}{Q:dr->dw->Prop}(ti:SIt b s.heap it l i)(tl:SCo b s.heap l xs)(hx:xs[i]? = some x)(a:∀h',SIt b h' it l (i+1)->Heap.SameBut it s.heap h'->Q x {s with heap:=h'}):dG (model prog w) A (Builtin.SmallTypes.nextOf (.ref it)) Q E s:=by
 cases b
 ·exact yS ti tl hx a
 ·exact wpAny_nextOf_list_item ti tl hx a
theorem ip {b:Bool}{it l:dy}{i:Nat}{xs:Array dr}{Q:dr->dw->Prop}(a:A.handled=none)(ti:SIt b s.heap it l i)(tl:SCo b s.heap l xs)(hx:xs[i]? = none)
  (c:∀h' e,Heap.ExtBut it s.heap h'->(∃o,h'.get? e=some o/\o.cls = .type "StopIteration")->E (.ref e) {s with heap:=h'}):dG (model prog w) A (Builtin.SmallTypes.nextOf (.ref it)) Q E s:=by
 cases b
 ·exact pP a ti tl hx c
 ·exact wpAny_nextOf_list_end a ti tl hx c
theorem zK{b:Bool}(l:dy)(xs:Array dr):
  Meets (Builtin.«enumerate.__new__» ⟨[.type "enumerate",.ref l],[]⟩) (fun _ R s=>SCo b s.heap l xs /\
   R (.ok (.ret (.ref (s.heap.push (ge b l)).objs.size))) {s with heap:=(s.heap.push (ge b l)).push {cls:=.type "enumerate",data:=.fields #[.none,.bool false,.ref s.heap.objs.size,rawInt 0,.none,.none]}}):=
 .of_wp fun prog w A R s h=>by
  obtain⟨j,g,d,tk,m⟩:=s;obtain⟨i,h⟩:=h;have f:=sub_enumerate
  have k:SCo b (Shared.heap ⟨j,g,d,tk,m⟩) l xs:=i;obtain⟨n,a⟩:∃o,j.get? l=some o:=by cases b<;>(obtain⟨o,e,_⟩:=i;exact⟨o,e⟩)
  wp_walk using wpAny_loadPart' a
  refine wpAny_stack_any fun st=>wP1 ?_;split
  ·rename_i c _ _ _ _ _;cases(c == Value.type "enumerate")<;>(wp_walk using wpAny_loadPart' a,jK k;exact⟨_,rfl,h⟩)
  ·wp_walk using wpAny_loadPart' a,jK k
   exact⟨_,rfl,h⟩
theorem wW{b:Bool}{l:dy}{xs:Array dr}{Q:dr->dw->Prop}(f:SCo b s.heap l xs)(h:∀h',IsEnum h' (s.heap.objs.size+1) s.heap.objs.size 0 .none->SIt b h' s.heap.objs.size l 0->h'.objs.size=s.heap.objs.size+2->(∀b o,s.heap.get? b=some o->h'.get? b=some o)->Q (.ref (s.heap.objs.size+1)) {s with heap:=h'}):
  dG (model prog w) A (call (.type "enumerate") [.ref l]) Q E s:=by
 refine callType_new F.called_enumerate (by decide) (F.typeCall_enumerate_1 _) (F.newCall_enumerate_1 _) (fun d=>F.args_object_init_2 d _) F.entry_enumerate_new (zK (b:=b) l xs) ⟨f,?_⟩;have a:(s.heap.push (ge b l)).objs.size=s.heap.objs.size+1:=hZ1 ..
 show _/\_;rw[a];have e:IsEnum ((s.heap.push (ge b l)).push {cls:=.type "enumerate",data:=.fields #[.none,.bool false,.ref s.heap.objs.size,rawInt 0,.none,.none]}) (s.heap.objs.size+1) s.heap.objs.size 0 .none:=by
  have q:=hS1 (s.heap.push (ge b l)) (o:={cls:=.type "enumerate",data:=.fields #[.none,.bool false,.ref s.heap.objs.size,rawInt 0,.none,.none]}) rfl;rw[a]at q;exact q
 have hi:(s.heap.push (ge b l)).get? s.heap.objs.size=some (ge b l):=hS1 _ (by cases b<;>rfl);refine⟨⟨_,e,rfl⟩,h _ e (px (hP1 _ hi)) (by rw[hZ1,a]) fun c o x=>hP1 _ (hP1 _ x)⟩
theorem wV {b:Bool}{e it l:dy}{i:Nat}{xs:Array dr}{x old:dr}{Q:Option dr->dw->Prop}(he:IsEnum s.heap e it i old)(ti:SIt b s.heap it l i)(tl:SCo b s.heap l xs)(hx:xs[i]? = some x)(n:e≠it)
  (U:∀h',IsEnumOut h' e it ((i:Int)+1) x s.heap.objs.size->SIt b h' it l (i+1)->h'.get? s.heap.objs.size=some {cls:=.type "tuple",data:=.seq #[.int i s.toks,x]}->h'.objs.size=s.heap.objs.size+1 ->
   (∀b o,b≠e->b≠it->s.heap.get? b=some o->h'.get? b=some o)->Q (some (.ref s.heap.objs.size)) {s with heap:=h',toks:=s.toks+1}):dG (model prog w) A (pyNext (.ref e)) Q E s:=by
 have T:s.TypeIs (.ref e) "enumerate":=⟨_,he,rfl⟩;unfold pyNext;refine wB1 (wpAny_attempt (wpAny_callSpecial?_slot (name:=Str.ofString "__next__") T F.slot_enumerate_next (wE1 F.slot_enumerate_next T F.entry_enumerate_next ?_ (F.args_enumerate_next_1 _))));obtain⟨r,g,d,tk,t⟩:=s;show dG _ _ (field (.ref e) 2 >>= _) _ _ _;refine wB1 (wpAny_field he rfl (x:=.ref it) rfl ?_);refine wB1 (jY ti tl hx fun h1 H G=>?_);replace G:Heap.SameBut it r h1:=G;have k:IsEnum h1 e it i old:=(G.2 e n).trans he;show dG _ _ (field (.ref e) 3 >>= _) _ _ ⟨h1,g,d,tk,t⟩;refine wB1 (wpAny_field k rfl (x:=rawInt i) rfl ?_);show dG _ _ (field (.ref e) 4 >>= _) _ _ ⟨h1,g,d,tk,t⟩;refine wB1 (wpAny_field k rfl (x:=.none) rfl ?_);show dG _ _ (mkInt i >>= _) _ _ ⟨h1,g,d,tk,t⟩;refine wB1 (wpAny_mkInt ?_);show dG _ _ (setField (.ref e) 3 (rawInt ((i:Int)+1)) >>= _) _ _ ⟨h1,g,d,tk+1,t⟩;refine wB1 (wS1 k (by simp) fun h2 m D=>?_);replace D:Heap.SameBut e h1 h2:=D;replace m:IsEnum h2 e it ((i:Int)+1) old:=m;show dG _ _ (setField (.ref e) 4 .none >>= _) _ _ ⟨h2,g,d,tk+1,t⟩;refine wB1 (wS1 m (by simp) fun h3 h C=>?_);replace C:Heap.SameBut e h2 h3:=C;replace h:IsEnum h3 e it ((i:Int)+1) old:=h;show dG _ _ (newTuple [.int i tk,x] >>= _) _ _ ⟨h3,g,d,tk+1,t⟩;refine wB1 (wpAny_newTuple ?_);have j:IsEnum (h3.push {cls:=.type "tuple",data:=.seq #[.int i tk,x]}) e it ((i:Int)+1) old:=hP1 _ h;generalize f:h3.push {cls:=.type "tuple",data:=.seq #[.int i tk,x]}=h4 at j;have p:h3.objs.size=r.objs.size:=by rw[C.1,D.1,G.1]
 have L:e<r.objs.size:=hL1 he;have P:h4.get? r.objs.size=some {cls:=.type "tuple",data:=.seq #[.int i tk,x]}:=by rw[<- f,<- p];exact hS1 _ rfl
 have S:h4.objs.size=r.objs.size+1:=by rw[<- f,hZ1,p]
 have M:∀b o,b≠e->b≠it->r.get? b=some o->h4.get? b=some o:=fun b o a y O=>by
  rw[<- f];exact hP1 _ (C.extBut b o a (D.extBut b o a (G.extBut b o y O)))
 have R:SIt b h4 it l (i+1):=H.to fun o q=>by rw[<- f];exact hP1 _ (C.extBut _ _ (Ne.symm n) (D.extBut _ _ (Ne.symm n) q))
 show dG _ _ (Builtin.SmallTypes.ownedTupleIsFree (.ref e) >>= _) _ _ ⟨h4,g,d,tk+1,t⟩;rw[p];clear f h C m D k G H p h3 h2 h1;refine wB1 ?_;unfold Builtin.SmallTypes.ownedTupleIsFree;refine wB1 (wpAny_field j rfl (x:=.none) rfl (wP1 ?_));simp only[if_true];refine wB1 (wpAny_rule ?_);refine wB1 (wpAny_field j rfl (x:=old) rfl ?_);refine wB1 (wS1 j (by simp) fun h5 v I=>?_);replace I:Heap.SameBut e h4 h5:=I;replace v:IsEnum h5 e it ((i:Int)+1) x:=v;show dG _ _ (Builtin.SmallTypes.ownedTupleHandOut (.ref e) (.ref r.objs.size) >>= _) _ _ ⟨h5,g,d,tk+1,t⟩;refine wB1 ?_;unfold Builtin.SmallTypes.ownedTupleHandOut;refine wB1 (wS1 v (by simp) fun h6 u J=>?_);replace J:Heap.SameBut e h5 h6:=J;replace u:IsEnumOut h6 e it ((i:Int)+1) x r.objs.size:=u;refine wS1 u (by simp) fun h7 B K=>?_;replace K:Heap.SameBut e h6 h7:=K;replace B:IsEnumOut h7 e it ((i:Int)+1) x r.objs.size:=B;have N:∀c o,c≠e->h4.get? c=some o->h7.get? c=some o:=fun c o z q=>K.extBut _ _ z (J.extBut _ _ z (I.extBut _ _ z q));refine wB1 (wpAny_letGo (wP1 ⟨_,rfl,wP1 (U h7 B (R.to fun o q=>N _ o (Ne.symm n) q) (N _ _ (nG1 L) P) (by rw[K.1,J.1,I.1,S]) fun c o a y O=>N c o a (M c o a y O))⟩))
theorem zL{b:Bool}{e it l:dy}{i:Nat}{xs:Array dr}{old:dr}{Q:Option dr->dw->Prop}(g:A.handled=none)(he:IsEnum s.heap e it i old)(ti:SIt b s.heap it l i)(tl:SCo b s.heap l xs)(hx:xs[i]? = none)(f:∀h',Heap.ExtBut it s.heap h'->Q none {s with heap:=h'}):dG (model prog w) A (pyNext (.ref e)) Q E s:=by
 have d:s.TypeIs (.ref e) "enumerate":=⟨_,he,rfl⟩;unfold pyNext;refine wB1 (wpAny_attempt (wpAny_callSpecial?_slot (name:=Str.ofString "__next__") d F.slot_enumerate_next (wE1 F.slot_enumerate_next d F.entry_enumerate_next ?_ (F.args_enumerate_next_1 _))));show dG _ _ (field (.ref e) 2 >>= _) _ _ _;refine wB1 (wpAny_field he rfl (x:=.ref it) rfl ?_);refine wB1 (ip g ti tl hx fun h' x c a=>?_);obtain⟨o,h,hc⟩:=a;refine wB1 (wpAny_isInstance (T:="StopIteration") (b:=true) ⟨o,h,hc⟩ isSubtype_stop ?_);exact wP1 (f _ c)
theorem oD{e it:dy}{i:Int}{old:dr}{Q:dr->dw->Prop}(he:IsEnum s.heap e it i old)(h:Q (.ref e) s):dG (model prog w) A (pyIter (.ref e)) Q E s:=by
 have a:s.TypeIs (.ref e) "enumerate":=⟨_,he,rfl⟩;refine wpAny_pyIter_slot a F.slot_enumerate_iter (wE1 F.slot_enumerate_iter a F.entry_enumerate_iter ?_ (F.args_enumerate_iter_1 _));show dG _ _ (ret (.ref e)) _ _ s;exact wP1 ⟨_,rfl,"enumerate",_,a,F.slot_enumerate_next.lookup,h⟩
end
open PySem.AutoSeq1 (wpAny_loadPart')
structure IQ (z ti to i1 i2:dy):Prop where
 a1:ti≠z
 a2:to≠z
 a3:i1≠z
 a4:i2≠z
 a5:ti≠to
 a6:ti≠i1
 a7:ti≠i2
 a8:to≠i1
 a9:to≠i2
 a10:i1≠i2
section
variable{prog:dz}{w:dB}{A:dA}{E:dr->dw->Prop}{s:dw}{b1 b2:Bool}
theorem SCo.ne{b:Bool}{h:dH}{a c:dy}{xs:Array dr}{o:Obj}(x:SCo b h a xs)(e:h.get? c=some o)(n:∀ys k,o.data ≠ .seq ys k):a≠c:=by
 rintro rfl;cases b<;>(obtain⟨o',f,g,k,d⟩:=x;rw[e]at f;cases f;exact n _ _ d)
theorem SCo.ne_it{b f:Bool}{h:dH}{a it l:dy}{xs:Array dr}{i:Nat}(x:SCo b h a xs)(y:SIt f h it l i):a≠it:=by
 cases f<;>(obtain⟨o,e,c,d⟩:=y;exact x.ne e fun ys k z=>by rw[d]at z;cases z)
theorem xz{z ti to i1 i v n:dy}{N P:Nat}{xs ys:Array dr}{x y a b:dr}{Q:Option dr->dw->Prop}(D:IQ z ti to i1 i)(h:IsZip s.heap z ti to .none)(hti:IsPair s.heap ti (.ref i1) (.ref i))(hto:IsPair s.heap to a b)(n1:v≠to)(n2:n≠to)(h1:SIt b1 s.heap i1 v N)(h2:SIt b2 s.heap i n P)(c1:SCo b1 s.heap v xs)(c2:SCo b2 s.heap n ys)(hx:xs[N]?=some x)(hy:ys[P]?=some y)(hQ:∀h',IsZip h' z ti to (rawInt s.heap.objs.size)->IsPair h' to x y->SIt b1 h' i1 v (N+1)->SIt b2 h' i n (P+1)->IsPair h' s.heap.objs.size x y->h'.objs.size=s.heap.objs.size+1 ->
   (∀c o,c≠z->c≠to->c≠i1->c≠i->s.heap.get? c=some o->h'.get? c=some o)->Q (some (.ref s.heap.objs.size)) {s with heap:=h'}):dG (model prog w) A (pyNext (.ref z)) Q E s:=by
 have hT:s.TypeIs (.ref z) "zip":=⟨_,h,rfl⟩;have X:v≠z:=c1.ne h fun _ _ q=>by cases q
 have l2z:n≠z:=c2.ne h fun _ _ q=>by cases q
 have I:n≠i1:=c2.ne_it h1;unfold pyNext;refine wB1 (wpAny_attempt (wpAny_callSpecial?_slot (name:=Str.ofString "__next__") hT F.slot_zip_next (wE1 F.slot_zip_next hT F.entry_zip_next ?_ (F.args_zip_next_1 _))));show dG _ _ (field (.ref z) 2 >>= _) _ _ _;refine wB1 (wpAny_field h rfl (x:=.bool false) rfl ?_);show dG _ _ (field (.ref z) 3 >>= _) _ _ _;refine wB1 (wpAny_field h rfl (x:=.ref ti) rfl ?_);refine wB1 (wpAny_seqItems hti rfl ?_);show dG _ _ (Builtin.SmallTypes.ownedTupleIsFree (.ref z) >>= _) _ _ _;refine wB1 ?_;unfold Builtin.SmallTypes.ownedTupleIsFree;refine wB1 (wpAny_field h rfl (x:=.none) rfl (wP1 ?_));simp only[if_true];refine wB1 (wpAny_rule ?_);refine wB1 (wpAny_field h rfl (x:=.ref to) rfl ?_);refine wB1 (wS1 h (by simp) fun g1 r t=>?_);replace r:IsZip g1 z ti to .ellipsis:=r;refine wB1 ?_;simp only[bK,List.zipIdx_nil,bE,List.forIn_nil];refine wB1 (wB1 (wpAny_onRaise ?_));show dG _ _ (Builtin.SmallTypes.nextOf (.ref i1) >>= _) _ _ _
 refine wB1 (jY (h1.to fun o q=>t.extBut _ _ D.a3 q) (c1.to fun o q=>t.extBut _ _ X q) hx fun g2 Z B=>wP1 ?_);have j:IsPair g2 to a b:=B.extBut _ _ D.a8 (t.extBut _ _ D.a2 hto);refine wB1 (wpAny_seqItems j rfl ?_);refine wB1 (wpAny_updateSeq_pair j fun g3 f u=>?_);replace f:IsPair g3 to x b:=f;refine wB1 (wpAny_letGo (wP1 ?_));refine wB1 (wB1 (wpAny_onRaise ?_));show dG _ _ (Builtin.SmallTypes.nextOf (.ref i) >>= _) _ _ _
 refine wB1 (jY (h2.to fun o q=>u.extBut _ _ D.a9.symm (B.extBut _ _ D.a10.symm (t.extBut _ _ D.a4 q))) (c2.to fun o q=>u.extBut _ _ n2 (B.extBut _ _ I (t.extBut _ _ l2z q))) hy fun g4 S G=>wP1 ?_);have k:IsPair g4 to x b:=G.extBut _ _ D.a9 f;refine wB1 (wpAny_seqItems k rfl ?_);refine wB1 (wpAny_updateSeq_pair k fun d e L=>?_);replace e:IsPair d to x y:=e;refine wB1 (wpAny_letGo (wP1 (wP1 ?_)));refine wB1 (wpAny_seqItems e rfl ?_);refine wB1 (wpAny_newTuple ?_);have M:d.objs.size=s.heap.objs.size:=by rw[L.1,G.1,u.1,B.1,t.1]
 have H:IsZip d z ti to .ellipsis:=L.extBut _ _ D.a2.symm (G.extBut _ _ D.a4.symm (u.extBut _ _ D.a2.symm (B.extBut _ _ D.a3.symm r)));have hk5:∀c o,c≠z->c≠to->c≠i1->c≠i->s.heap.get? c=some o->d.get? c=some o:=fun c o p O T V q=>L.extBut _ _ O (G.extBut _ _ V (u.extBut _ _ O (B.extBut _ _ T (t.extBut _ _ p q))));have U:SIt b1 d i1 v (N+1):=Z.to fun o q=>L.extBut _ _ D.a8.symm (G.extBut _ _ D.a10 (u.extBut _ _ D.a8.symm q));have h25:SIt b2 d i n (P+1):=S.to fun o q=>L.extBut _ _ D.a9.symm q;have l:z<d.objs.size:=hL1 H;show dG _ _ (Builtin.SmallTypes.ownedTupleHandOut (.ref z) (.ref d.objs.size) >>= _) _ _ _;refine wB1 ?_;unfold Builtin.SmallTypes.ownedTupleHandOut;have Y:IsZip (d.push {cls:=.type "tuple",data:=.seq #[x,y]}) z ti to .ellipsis:=hP1 _ H;refine wB1 (wS1 Y (by simp) fun g7 m s7=>?_);replace m:IsZip g7 z ti to (rawInt d.objs.size):=m;refine wS1 m (by simp) fun J g W=>?_;replace g:IsZip J z ti to (rawInt d.objs.size):=g;have R:∀c o,c≠z->d.get? c=some o->J.get? c=some o:=fun c o p q=>W.extBut _ _ p (s7.extBut _ _ p (hP1 _ q));have K:IsPair J d.objs.size x y:=W.extBut _ _ (nG1 l) (s7.extBut _ _ (nG1 l) (hS1 _ rfl));have C:J.objs.size=d.objs.size+1:=by rw[W.1,s7.1,hZ1]
 rw[M]at g K C;refine wP1 ⟨_,rfl,wP1 ?_⟩;show Q (some (.ref d.objs.size)) _;rw[M]
 exact hQ J g (R _ _ D.a2 e) (U.to fun o q=>R _ o D.a3 q) (h25.to fun o q=>R _ o D.a4 q) K C fun c o p O T V q=>R c o p (hk5 c o p O T V q)
theorem Ar{z ti to i1 u G y:dy}{H L:Nat}{xs ys:Array dr}{a b:dr}{Q:Option dr->dw->Prop}(Y:A.handled=none)(D:IQ z ti to i1 u)(j:IsZip s.heap z ti to .none)(R:IsPair s.heap ti (.ref i1) (.ref u))(P:IsPair s.heap to a b)(n1:G≠to)(n2:y≠to)(h1:SIt b1 s.heap i1 G H)(h2:SIt b2 s.heap u y L)(J:SCo b1 s.heap G xs)(S:SCo b2 s.heap y ys)(p:xs[H]?=none\/ys[L]?=none)(X:∀h',(∀c o,c≠z->c≠to->c≠i1->c≠u->s.heap.get? c=some o->h'.get? c=some o)->Q none {s with heap:=h'}):dG (model prog w) A (pyNext (.ref z)) Q E s:=by
 have Z:s.TypeIs (.ref z) "zip":=⟨_,j,rfl⟩;have t:G≠z:=J.ne j fun _ _ q=>by cases q
 have N:y≠z:=S.ne j fun _ _ q=>by cases q
 have r:y≠i1:=S.ne_it h1;unfold pyNext;refine wB1 (wpAny_attempt (wpAny_callSpecial?_slot (name:=Str.ofString "__next__") Z F.slot_zip_next (wE1 F.slot_zip_next Z F.entry_zip_next ?_ (F.args_zip_next_1 _))));show dG _ _ (field (.ref z) 2 >>= _) _ _ _;refine wB1 (wpAny_field j rfl (x:=.bool false) rfl ?_);show dG _ _ (field (.ref z) 3 >>= _) _ _ _;refine wB1 (wpAny_field j rfl (x:=.ref ti) rfl ?_);refine wB1 (wpAny_seqItems R rfl ?_);show dG _ _ (Builtin.SmallTypes.ownedTupleIsFree (.ref z) >>= _) _ _ _;refine wB1 ?_;unfold Builtin.SmallTypes.ownedTupleIsFree;refine wB1 (wpAny_field j rfl (x:=.none) rfl (wP1 ?_));simp only[if_true];refine wB1 (wpAny_rule ?_);refine wB1 (wpAny_field j rfl (x:=.ref to) rfl ?_);refine wB1 (wS1 j (by simp) fun g1 g i=>?_);replace g:IsZip g1 z ti to .ellipsis:=g;refine wB1 ?_;simp only[bK,List.zipIdx_nil,bE,List.forIn_nil];refine wB1 (wB1 (wpAny_onRaise ?_));show dG _ _ (Builtin.SmallTypes.nextOf (.ref i1) >>= _) _ _ _
 cases hx:xs[H]? with
 |none=>
  refine wB1 (ip Y (h1.to fun o q=>i.extBut _ _ D.a3 q) (J.to fun o q=>i.extBut _ _ t q) hx fun O e l M=>?_);obtain⟨K,d,f⟩:=M;have v:IsZip O z ti to .ellipsis:=l _ _ D.a3.symm g;have n:e≠z:=fun q=>by subst q;rw[v]at d;cases d;simp at f
  refine wS1 v (by simp) fun U _ m=>?_;refine wB1 (wpAny_isInstance (T:="StopIteration") (b:=true) ⟨K,m.extBut _ _ n d,f⟩ isSubtype_stop ?_);exact wP1 (X U fun c o B _ I _ q=>m.extBut _ _ B (l _ _ I (i.extBut _ _ B q)))
 |some x=>
  have hy:ys[L]?=none:=by rcases p with h|h;rw[hx]at h;cases h;exact h
  refine wB1 (jY (h1.to fun o q=>i.extBut _ _ D.a3 q) (J.to fun o q=>i.extBut _ _ t q) hx fun O h12 l=>wP1 ?_);have k:IsPair O to a b:=l.extBut _ _ D.a8 (i.extBut _ _ D.a2 P);refine wB1 (wpAny_seqItems k rfl ?_);refine wB1 (wpAny_updateSeq_pair k fun U W m=>?_);refine wB1 (wpAny_letGo (wP1 ?_));refine wB1 (wB1 (wpAny_onRaise ?_));show dG _ _ (Builtin.SmallTypes.nextOf (.ref u) >>= _) _ _ _
  refine wB1 (ip Y (h2.to fun o q=>m.extBut _ _ D.a9.symm (l.extBut _ _ D.a10.symm (i.extBut _ _ D.a4 q))) (S.to fun o q=>m.extBut _ _ n2 (l.extBut _ _ r (i.extBut _ _ N q))) hy fun g4 e V M=>?_);obtain⟨K,d,f⟩:=M;have C:IsZip g4 z ti to .ellipsis:=V _ _ D.a4.symm (m.extBut _ _ D.a2.symm (l.extBut _ _ D.a3.symm g));have n:e≠z:=fun q=>by subst q;rw[C]at d;cases d;simp at f
  refine wS1 C (by simp) fun g5 _ s5=>?_;refine wB1 (wpAny_isInstance (T:="StopIteration") (b:=true) ⟨K,s5.extBut _ _ n d,f⟩ isSubtype_stop ?_);exact wP1 (X g5 fun c o B q2 I q4 q=>s5.extBut _ _ B (V _ _ q4 (m.extBut _ _ q2 (l.extBut _ _ I (i.extBut _ _ B q)))))
noncomputable def zH(b1 b2:Bool)(h:dH)(l1 l2:dy):dH:=((((h.push (ge b1 l1)).push (ge b2 l2)).push {cls:=.type "tuple",data:=.seq #[.ref h.objs.size,.ref (h.objs.size+1)]}).push {cls:=.type "tuple",data:=.seq #[.none,.none]}).push
 {cls:=.type "zip",data:=.fields #[.none,.bool false,.bool false,.ref (h.objs.size+2),.ref (h.objs.size+3)]}
theorem Aq(a b:dy)(xs ys:Array dr):Meets (Builtin.«zip.__new__» ⟨[.type "zip",.ref a,.ref b],[]⟩) (fun _ R s=>SCo b1 s.heap a xs/\SCo b2 s.heap b ys/\R (.ok (.ret (.ref (s.heap.objs.size+4)))) {s with heap:=zH b1 b2 s.heap a b}):=
 .of_wp fun prog w A R s h=>by
  obtain⟨c,g,d,tk,f⟩:=s;obtain⟨j,k,h⟩:=h;have e:=sub_zip
  have l:SCo b1 (Shared.heap ⟨c,g,d,tk,f⟩) a xs:=j;have i:SCo b2 (Shared.heap ⟨c.push (ge b1 a),g,d,tk,f⟩) b ys:=k.to fun o q=>hP1 _ q
  wp_walk using jK l,jK i
  refine⟨_,rfl,?_⟩;have m:(c.push (ge b1 a)).objs.size=c.objs.size+1:=hZ1 ..
  simp only[hZ1,zH]at h ⊢;exact h
theorem xA{b d:dy}{xs ys:Array dr}{Q:dr->dw->Prop}(l:SCo b1 s.heap b xs)(p:SCo b2 s.heap d ys)(h:∀h',IsZip h' (s.heap.objs.size+4) (s.heap.objs.size+2) (s.heap.objs.size+3) .none->IsPair h' (s.heap.objs.size+2) (.ref s.heap.objs.size) (.ref (s.heap.objs.size+1))->IsPair h' (s.heap.objs.size+3) .none .none ->
   SIt b1 h' s.heap.objs.size b 0->SIt b2 h' (s.heap.objs.size+1) d 0->h'.objs.size=s.heap.objs.size+5->(∀c o,s.heap.get? c=some o->h'.get? c=some o)->Q (.ref (s.heap.objs.size+4)) {s with heap:=h'}):
  dG (model prog w) A (call (.type "zip") [.ref b,.ref d]) Q E s:=by
 refine callType_new F.called_zip (by decide) (F.typeCall_zip_2 _ _) (F.newCall_zip_2 _ _) (fun g=>F.args_object_init_3 g _ _) F.entry_zip_new (Aq (b1:=b1) (b2:=b2) b d xs ys) ⟨l,p,?_⟩;have a:∀{h:dH} {o:Obj} {c:dy} {u:Obj},h.get? c=some u->(h.push o).get? c=some u:=fun q=>hP1 _ q;have at_:∀{h:dH} {o:Obj} {n:Nat},h.objs.size=n->o.isFreed=false->(h.push o).get? n=some o:=fun e f=>by rw[<- e];exact hS1 _ f
 have r:(ge b1 b).isFreed=false:=by cases b1<;>rfl
 have v:(ge b2 d).isFreed=false:=by cases b2<;>rfl
 have j:(zH b1 b2 s.heap b d).get? s.heap.objs.size=some (ge b1 b):=a (a (a (a (at_ rfl r))));have m:(zH b1 b2 s.heap b d).get? (s.heap.objs.size+1)=some (ge b2 d):=a (a (a (at_ (by simp only[hZ1]) v)));have k:IsPair (zH b1 b2 s.heap b d) (s.heap.objs.size+2) (.ref s.heap.objs.size) (.ref (s.heap.objs.size+1)):=a (a (at_ (by simp only[hZ1]) rfl));have t:IsPair (zH b1 b2 s.heap b d) (s.heap.objs.size+3) .none .none:=a (at_ (by simp only[hZ1]) rfl);have i:IsZip (zH b1 b2 s.heap b d) (s.heap.objs.size+4) (s.heap.objs.size+2) (s.heap.objs.size+3) .none:=at_ (by simp only[hZ1]) rfl;exact⟨⟨_,i,rfl⟩,h _ i k t (px j) (px m) (by simp only[zH,hZ1]) fun c o q=>a (a (a (a (a q))))⟩
end
noncomputable def ql(K:Fg1)(b:Bool)(H:Hp)(a:dy)(xs:List V):Prop:=match b with
 |true=>lJ K H a xs
 |false=>jA K H a xs
section
variable{X:Cx}{pins:List (dy×Obj)}{σ:L2.St}{H:Hp}{s:dw}
theorem eH{b:Bool}{a:dy}{xs:List V}(I:Inv X pins σ H s)(h:ql X.K b H a xs):∃c:List dr,ea xs c/\SCo b s.heap a c.toArray/\xs.length<=dF:=by
 cases b
 ·obtain⟨c,r,p,z⟩:=I.tuple h;exact⟨c,r,p,z⟩
 ·obtain⟨c,r,p,z⟩:=I.list h;exact⟨c,r,p.isList,z⟩
theorem lO{b:Bool}{a:dy}{xs ys:List V}(I:Inv X pins σ H s)(h:ql X.K b H a xs)(h':ql X.K b H a ys):xs=ys:=by
 cases b
 ·exact I.tuple_inj h h'
 ·exact I.list_inj h h'
theorem pp{b:Bool}{a c:dy}{xs:List V}(I:Inv X pins σ H s)(h:ql X.K b H a xs)(f:jl X pins H c):a≠c:=by
 rintro rfl;have d:∀{o},X.K.lookup a=some o->False:=fun{o} e=>by
  have g:=I.ok.mod.kin _ _ e;rcases f.2.2.2.1 with z|z
  ·exact I.ok.noex _ _ g z
  ·exact absurd (nL1 (hL1 g) (aC I.ok.bsz z)) (az _)
 cases b
 ·rcases h with(h|⟨_,h⟩)|⟨_,_,_,h,_⟩
  ·rw[f.1]at h;cases h
  ·rw[f.1]at h;cases h
  ·exact d h
 ·rcases h with(h|⟨_,h⟩)|⟨_,_,_,h,_⟩
  ·rw[f.1]at h;cases h
  ·rw[f.1]at h;cases h
  ·exact d h
theorem rS(I:Inv X pins σ H s){fp:List dy}(hf:∀ b∈fp,jl X pins H b){h':dH}{p:dy}{xs:List V}{its:List dr}{t':Nat}(hp:s.heap.objs.size<=p)(f:∀ b o,b∉fp->s.heap.get? b=some o->h'.get? b=some o)(j:IsTup h' p its.toArray)(k:ea xs its)(i:xs.length<=dF):Inv X pins σ (upd H p (.tup xs)) {s with heap:=h',toks:=t'}:=by
 have d:H p=none:=I.hok.fresh hp;have g:∀{b o},s.heap.get? b=some o->b≠p:=fun e=>nN1 (nL1 (hL1 e) hp);have h:∀{b u},H b=some u->b∉fp:=fun e z=>by rw[(hf _ z).1]at e;cases e
 refine I.step (g':=s.gens) (d':=s.drawn) (ch:=fp) (fun b a=>⟨(hf b a).2.2.2.1,(hf b a).2.1,(hf b a).2.2.2.2.1,(hf b a).2.2.2.2.2⟩) (fun b o _ _ hc e _=>f b o hc e) (fun b o _ _ hc e _=>⟨o.slots,f b o hc e⟩) (fun b o _ e n=>?_)
  (fun b o hc e=>⟨o,f b o hc e⟩) (fun b ys e=>?_) (fun b o u e=>?_) (fun b ps e=>⟨#[],?_⟩) (fun m t=>?_) (fun b u e=>?_) I.bare
 ·rw[dR (g e)];exact n
 ·rw[dR (ei e d)];exact e
 ·rw[dR (ei e d)];exact e
 ·rw[dR (ei e d),e];simp
 ·obtain⟨o,es,ep,l,r⟩:=t;exact⟨o,es,ep,f _ o (fun z=>(hf _ z).2.1 rfl) l,r⟩
 ·by_cases a:b=p
  ·subst a;rw[d2]at e;cases e;exact⟨i,its,k,j⟩
  ·rw[dR a]at e;refine(I.hok b u e).stay (fun c v hc q=>f c v ?_ q) (fun c q=>by rw[dR (ei q d)];exact q) fun c ys q=>by rw[dR (ei q d)];exact q
   rcases hc with z|z
   ·rw[z];exact h e
   ·exact h z
theorem mM(I:Inv X pins σ H s){fp:List dy}(hf:∀b∈fp,jl X pins H b){h':dH}{t':Nat}(a:∀b o,b∉fp->s.heap.get? b=some o->h'.get? b=some o):Inv X pins σ H {s with heap:=h',toks:=t'}:=by
 have f:∀{b u},H b=some u->b∉fp:=fun e z=>by rw[(hf _ z).1]at e;cases e
 refine I.step (g':=s.gens) (d':=s.drawn) (ch:=fp) (fun b d=>⟨(hf b d).2.2.2.1,(hf b d).2.1,(hf b d).2.2.2.2.1,(hf b d).2.2.2.2.2⟩) (fun b o _ _ hc e _=>a b o hc e) (fun b o _ _ hc e _=>⟨o.slots,a b o hc e⟩) (fun b o _ e n=>n)
  (fun b o hc e=>⟨o,a b o hc e⟩) (fun b ys e=>e) (fun b o u e=>e) (fun b ps e=>⟨#[],by rw[e];simp⟩) (fun m h=>?_) (fun b u e=>?_) I.bare
 ·obtain⟨o,es,ep,g,r⟩:=h;exact⟨o,es,ep,a _ o (fun z=>(hf _ z).2.1 rfl) g,r⟩
 ·refine(I.hok b u e).stay (fun c v hc q=>a c v ?_ q) (fun c q=>q) fun c ys q=>q;rcases hc with z|z
  ·rw[z];exact f e
  ·exact f z
end
theorem qv:(2:Nat)<=dF:=by decide
noncomputable def Js(K:Fg1)(b:Bool)(a:dy):It:=
 ⟨fun i H=>∃xs x,ql K b H a xs/\xs[i]?=some x,fun i H x H'=>∃p v,H p=none/\x = .ref p/\H'=upd H p (.tup [.int i,v]) /\ ∀xs,ql K b H a xs->xs[i]?=some v,fun i H=>∃xs,ql K b H a xs/\xs.length<=i⟩
theorem wb{P:dz}{w:dB}{K:Fg1}{elts:List Expr}{k:Nat}{pos:Pos}(b:Bool)(a e it:dy)(ne:e≠it):sI P w K (.Tuple elts k pos) (Js K b a) [e,it] e (fun i h=>(∃old,IsEnum h e it (i:Nat) old)/\SIt b h it a i) where
 mem:=by simp
 obj:=by
  rintro i h ⟨⟨old,st⟩,M⟩ c hc;rcases aF.mp hc with z|z
  ·subst z;exact⟨_,st,fun v q=>by cases q⟩
  ·have U:c=it:=by simpa using z
   subst U;exact M.rec_
 keep:=fun i h h' ⟨⟨old,st⟩,M⟩ R=>⟨⟨old,R e (by simp) _ st⟩,M.to fun o q=>R it (by simp) o q⟩
 item:=by
  intro X B n J hc i pins s σ H E I j st A;subst B n J;obtain⟨⟨old,g⟩,m⟩:=st;obtain⟨xs,x,l,N⟩:=A;obtain⟨C,p,t,S⟩:=eH I l;obtain⟨u,hu,W⟩:=p.get N;refine wV g m t (x:=u) (by simpa using hu) ne fun h1 G y F hz1 L=>?_;refine⟨.ref s.heap.objs.size,rfl,?_⟩;refine wpAny_letOwnedTupleGo_enum G fun h2 D d=>?_;have Q:s.heap.objs.size≠e:=nG1 (hL1 g);have r:∀c o,c∉[e,it]->s.heap.get? c=some o->h2.get? c=some o:=fun c o hc q=>by
   have f:c≠e:=fun z=>hc (by simp[z]);have c2:c≠it:=fun z=>hc (by simp[z]);exact d.extBut _ _ f (L c o f c2 q)
  have T:IsTup h2 s.heap.objs.size [.int (i:Nat) s.toks,u].toArray:=⟨_,d.extBut _ _ Q F,rfl,_,rfl⟩;have V:=rS I j (t':=s.toks+1) (nR1 _) r T (xs:=[.int i,x]) (.cons ⟨_,rfl⟩ (.cons W .nil)) qv;have hn:H s.heap.objs.size=none:=I.hok.fresh (nR1 _);refine⟨.ref s.heap.objs.size,_,V,rfl,⟨_,x,hn,rfl,rfl,fun ys hy=>by rw[lO I hy l];exact N⟩,⟨⟨u,?_⟩,y.to fun o q=>d.extBut _ _ (Ne.symm ne) q⟩,fun c hc=>?_⟩
  ·have:((i+1:Nat):Int)=(i:Int)+1:=by push_cast;rfl
   rw[this];exact D
  ·have f:c≠s.heap.objs.size:=fun z=>by
    rcases aF.mp hc with q|q
    ·exact Q (z.symm.trans q)
    ·have Z:c=it:=by simpa using q
     obtain⟨o,O,_⟩:=m.rec_;rw[<- Z,z]at O;exact az _ (hL1 O)
   rw[dR f];exact(j c hc).1
 done:=by
  intro X B n J hc i pins s σ H E I j st A;subst B n J;obtain⟨⟨old,g⟩,m⟩:=st;obtain⟨xs,l,N⟩:=A;obtain⟨C,p,t,S⟩:=eH I l;have hl:=p.length;refine zL (I.ok.hd hc) g m t (by simp;lia) fun h' Y=>⟨rfl,mM I (t':=s.toks) j fun c o hc q=>Y c o (fun z=>hc (by simp[z])) q⟩
 self:=fun _ _ _ _ _ ⟨⟨_,st⟩,_⟩ h=>oD st h
noncomputable def Jp(K:Fg1)(b1 b2:Bool)(a1 a2:dy):It:=
 ⟨fun i H=>∃xs ys x y,ql K b1 H a1 xs/\ql K b2 H a2 ys/\xs[i]?=some x/\ys[i]?=some y,fun i H x H'=>∃p v u,H p=none/\x = .ref p/\H'=upd H p (.tup [v,u])/\(∀xs,ql K b1 H a1 xs->xs[i]?=some v) /\ ∀ys,ql K b2 H a2 ys->ys[i]?=some u,
  fun i H=>∃xs ys,ql K b1 H a1 xs/\ql K b2 H a2 ys/\(xs.length<=i\/ys.length<=i)⟩
theorem xM{P:dz}{w:dB}{K:Fg1}{elts:List Expr}{k:Nat}{pos:Pos}(b1 b2:Bool)(a1 a2 z ti to m t:dy)(D:IQ z ti to m t):sI P w K (.Tuple elts k pos) (Jp K b1 b2 a1 a2) [z,ti,to,m,t] z
  (fun i h=>IsZip h z ti to .none/\IsPair h ti (.ref m) (.ref t)/\(∃u v,IsPair h to u v)/\SIt b1 h m a1 i/\SIt b2 h t a2 i) where
 mem:=by simp
 obj:=by
  rintro i h ⟨l,b,⟨u,v,d⟩,f,g⟩ c hc;simp only[aF,bL,or_false]at hc;rcases hc with rfl|rfl|rfl|rfl|rfl
  ·exact⟨_,l,fun v q=>by cases q⟩
  ·exact⟨_,b,fun v q=>by cases q⟩
  ·exact⟨_,d,fun v q=>by cases q⟩
  ·exact f.rec_
  ·exact g.rec_
 keep:=fun i h h' ⟨l,b,⟨u,v,d⟩,f,g⟩ F=>⟨F z (by simp) _ l,F ti (by simp) _ b,⟨u,v,F to (by simp) _ d⟩,f.to fun o q=>F m (by simp) o q,g.to fun o q=>F t (by simp) o q⟩
 item:=by
  intro X T J W hc i pins s σ H E I j st Q;subst T J W;obtain⟨l,b,⟨u0,v0,d⟩,f,g⟩:=st;obtain⟨xs,ys,x,y,B,A,ex,ey⟩:=Q;obtain⟨U,L,N,hz⟩:=eH I B;obtain⟨C,p,n,V⟩:=eH I A;obtain⟨u,hu,ru⟩:=L.get ex;obtain⟨O,S,Y⟩:=p.get ey;refine xz D l b d (pp I B (j to (by simp))) (pp I A (j to (by simp))) f g N n (x:=u) (y:=O) (by simpa using hu) (by simpa using S) fun h1 p1 p2 p3 p4 p5 p6 G=>?_;refine⟨.ref s.heap.objs.size,rfl,?_⟩;refine wpAny_letOwnedTupleGo_zip p1 fun h2 z2 a=>?_;have lt:∀c∈[z,ti,to,m,t],c≠s.heap.objs.size:=fun c hc e=>by
   obtain⟨o,Z⟩:∃o,s.heap.get? c=some o:=by
    simp only[aF,bL,or_false]at hc;rcases hc with rfl|rfl|rfl|rfl|rfl
    ·exact⟨_,l⟩
    ·exact⟨_,b⟩
    ·exact⟨_,d⟩
    ·obtain⟨o,e,_⟩:=f.rec_;exact⟨o,e⟩
    ·obtain⟨o,e,_⟩:=g.rec_;exact⟨o,e⟩
   rw[e]at Z;exact az _ (hL1 Z)
  have M:∀c o,c∉[z,ti,to,m,t]->s.heap.get? c=some o->h2.get? c=some o:=fun c o hc q=>by
   simp only[aF,bL,or_false,not_or]at hc;exact a.extBut _ _ hc.1 (G c o hc.1 hc.2.2.1 hc.2.2.2.1 hc.2.2.2.2 q)
  have tp:IsTup h2 s.heap.objs.size [u,O].toArray:=⟨_,a.extBut _ _ (Ne.symm (lt z (by simp))) p5,rfl,_,rfl⟩;have I2:=rS I j (t':=s.toks) (nR1 _) M tp (xs:=[x,y]) (.cons ru (.cons Y .nil)) qv;have hn:H s.heap.objs.size=none:=I.hok.fresh (nR1 _);refine⟨.ref s.heap.objs.size,_,I2,rfl,⟨_,x,y,hn,rfl,rfl,fun R r=>by rw[lO I r B];exact ex,fun R r=>by rw[lO I r A];exact ey⟩,
   ⟨z2,a.extBut _ _ D.a1 (G _ _ D.a1 D.a5 D.a6 D.a7 b),⟨u,O,a.extBut _ _ D.a2 p2⟩,p3.to fun o q=>a.extBut _ _ D.a3 q,p4.to fun o q=>a.extBut _ _ D.a4 q⟩,fun c hc=>?_⟩
  rw[dR (lt c hc)];exact(j c hc).1
 done:=by
  intro X T J W hc i pins s σ H E I j st Q;subst T J W;obtain⟨l,b,⟨u0,v0,d⟩,f,g⟩:=st;obtain⟨xs,ys,B,A,hl⟩:=Q;obtain⟨U,L,N,hz⟩:=eH I B;obtain⟨C,p,n,V⟩:=eH I A;have l1:=L.length;have l2:=p.length;refine Ar (I.ok.hd hc) D l b d (pp I B (j to (by simp))) (pp I A (j to (by simp))) f g N n (by simp;lia) fun h' eb=>⟨rfl,mM I (t':=s.toks) j fun c o hc q=>?_⟩;simp only[aF,bL,or_false,not_or]at hc;exact eb c o hc.1 hc.2.2.1 hc.2.2.2.1 hc.2.2.2.2 q
 self:=fun _ _ _ _ _ ⟨st,_⟩ h=>wpAny_pyIter_zip st h
section
variable{X:Cx}{elts:List Expr}{k:Nat}{tpos:Pos}
noncomputable def GO(K:Fg1)(ta:TA):TI:=fun σ H R=>ta σ H fun vs H1=>∃a b,vs=[.ref a]/\(∃xs,ql K b H1 a xs)/\R (Js K b a) H1
theorem A0 {a:Expr}{ta:TA}{p pos:Pos}(hg:Gl X "enumerate")(hm:X.mg "enumerate"=none)(ha:PA X [a] ta)(hs:dE [a] X.env=[(false,eval a X.env)]:=by rfl):PI X (.Tuple elts k tpos) (.Call (.Name "enumerate" p) [a] [] pos) (GO X.K ta):=by
 intro pins s σ H R I h;refine Call_ (iQ I hg hm boot_enumerate (PyProof.Rows.callWith_type1 (e6 (ha pos pins s σ H _ I h) fun D g ⟨vs,H1,f,x,w⟩=>?_) hs rfl));obtain⟨c,b,e,⟨xs,t⟩,q⟩:=w;subst e;cases x with
 |cons r u=>
  cases u;cases r;obtain⟨v,C,A,B⟩:=eH f t;refine wW A fun h' i y j o=>oD i ?_;have m:Inv X pins σ H1 {g with heap:=h'}:=f.kept (t':=g.toks) o;refine⟨g.heap.objs.size+1,[g.heap.objs.size+1,g.heap.objs.size],_,_,H1,rfl,m,wb b c _ _ (Nat.succ_ne_self _),⟨⟨.none,i⟩,y⟩,fun d n=>?_,q⟩;rcases aF.mp n with z|z
  ·subst z;exact f.fpOk (aX _) (f.hok.fresh (aX _))
  ·have l:d=g.heap.objs.size:=by simpa using z
   subst l;exact f.fpOk (nR1 _) (f.hok.fresh (nR1 _))
noncomputable def IC(K:Fg1)(ta:TA):TI:=fun σ H R=>ta σ H fun vs H1=>∃a1 b1 a2 b2,vs=[.ref a1,.ref a2]/\(∃xs,ql K b1 H1 a1 xs)/\(∃xs,ql K b2 H1 a2 xs)/\R (Jp K b1 b2 a1 a2) H1
theorem DP {a b:Expr}{ta:TA}{p pos:Pos}(hg:Gl X "zip")(hm:X.mg "zip"=none)(ha:PA X [a,b] ta)(hs:dE [a,b] X.env=[(false,eval a X.env),(false,eval b X.env)]:=by rfl)(hs2:dE [b] X.env=[(false,eval b X.env)]:=by rfl):
  PI X (.Tuple elts k tpos) (.Call (.Name "zip" p) [a,b] [] pos) (IC X.K ta):=by
 intro pins s σ H R I h;refine Call_ (iQ I hg hm boot_zip (PyProof.Rows.callWith_type1 (e6 (ha pos pins s σ H _ I h) fun Q c ⟨vs,H1,f,J,F⟩=>?_) (by rw[hs,hs2]) (by rw[hs2];rfl)));obtain⟨u,b1,K,b2,e,⟨xs,L⟩,⟨ys,D⟩,q⟩:=F;subst e;cases J with
 |cons r j=>
  cases j with
  |cons G j=>
   cases j;cases r;cases G;obtain⟨A,O,w,M⟩:=eH f L;obtain⟨l,v,i,E⟩:=eH f D;refine xA w i fun h' n t y o B P C=>wpAny_pyIter_zip n ?_;have x:Inv X pins σ H1 {c with heap:=h'}:=f.kept (t':=c.toks) C;refine⟨c.heap.objs.size+4,[c.heap.objs.size+4,c.heap.objs.size+2,c.heap.objs.size+3,c.heap.objs.size,c.heap.objs.size+1],_,_,H1,rfl,x,xM b1 b2 u K _ _ _ _ _ ?_,⟨n,t,⟨_,_,y⟩,o,B⟩,fun d m=>?_,q⟩
   ·constructor<;>(intro z;have N:((_:Nat)=_):=z;lia)
   ·have g:c.heap.objs.size<=d:=by
     simp only[aF,bL,or_false]at m;rcases m with rfl|rfl|rfl|rfl|rfl
     ·exact bq _ _
     ·exact bq _ _
     ·exact bq _ _
     ·exact nR1 _
     ·exact bq _ _
    exact f.fpOk g (f.hok.fresh g)
end
noncomputable def dY (S:Sto):D->Option (Bool×List D)
 | .tup xs=>some (false,xs)
 | .rol xs=>some (true,xs)
 | .ref n=>match S[n]? with
  |some (.lst xs)=>some (true,xs)
  |_=>none
 |_=>none
noncomputable def iY(S:Sto):D->List (Nat×List D)
 | .ref n=>match S[n]? with
  |some (.lst xs)=>[(n,xs)]
  |_=>[]
 |_=>[]
section
variable{K:Fg1}{H:Hp}{mu:List dy}{S:Sto}
theorem d0{d:D}{v:V}{b:Bool}{xs:List D}(r:eB K H mu d v)(s:Sim K H mu S)(h:dY S d=some (b,xs)):∃a vs,v = .ref a/\ql K b H a vs/\dW K H mu xs vs:=by
 cases d with
 |tup ys=>cases h;cases r with|tup q t=>exact⟨_,_,rfl,q,t⟩
 |rol ys=>cases h;cases r with|rol q t=>exact⟨_,_,rfl,q.sq,t⟩
 |ref n=>
  rw[dY]at h;split at h
  ·rename_i ys e;cases h;cases r with
   |ref q=>
    obtain⟨vs,f,c⟩:=s.lst e q;exact⟨_,vs,rfl,lJ.of f,c⟩
  ·cases h
 |_=>cases h
theorem gZ{d:D}{a:dy}{b:Bool}{xs:List D}(r:eB K H mu d (.ref a))(s:Sim K H mu S)(h:dY S d=some (b,xs)){H1:Hp}{mu1:List dy}{S1:Sto}(x:qq mu mu1 H H1)(c:Sim K H1 mu1 S1)(ok:n3 S1 (iY S d)=true):
  ∃vs,ql K b H1 a vs/\dW K H1 mu1 xs vs:=by
 have g:=r.exw x;have h1:dY S1 d=some (b,xs):=by
  cases d with
  |ref n=>
   rw[dY]at h;split at h
   ·rename_i ys e;cases h;rw[iY,e]at ok;dsimp only[n3]at ok;rw[bM]at ok;rw[dY];split at ok
    ·rename_i zs f
     first|rw[f,D.sames_eq ok] | rw[D.sames_eq ok]
    ·cases ok
   ·cases h
  |_=>exact h
 obtain⟨i,vs,e,q,t⟩:=d0 g c h1;cases e;exact⟨vs,q,t⟩
end
noncomputable def hH (m:FE):FI:=fun r S=>(m r S).bind fun p=>(dY p.2 p.1).bind fun q=>some (⟨q.2,iY p.2 p.1⟩,p.2)
noncomputable def xr:Nat->List D->List D
 |_,[]=>[]
 |n,d::ds=>.tup [.int n,d]::xr (n+1) ds
noncomputable def Fw (m:FA):FI:=fun r S=>(m r S).bind fun p=>match p.1 with
 |[d]=>(dY p.2 d).bind fun q=>some (⟨xr 0 q.2,iY p.2 d⟩,p.2)
 |_=>none
noncomputable def sP:List D->List D->List D
 |x::xs,y::ys=>.tup [x,y]::sP xs ys
 |_,_=>[]
noncomputable def Ao(m:FA):FI:=fun r S=>(m r S).bind fun p=>match p.1 with
 |[d,e]=>(dY p.2 d).bind fun q=>(dY p.2 e).bind fun t=>some (⟨sP q.2 t.2,iY p.2 d++iY p.2 e⟩,p.2)
 |_=>none
noncomputable def gB(lo:Int):Nat->List D
 |0=>[]
 |n+1=>.int lo::gB (lo+1) n
noncomputable def tX (m:FA):FI:=fun r S=>(m r S).bind fun p=>match p.1 with
 |[.int j]=>if-(2^62)<=j/\j<2^62 then some (⟨gB 0 j.toNat,[]⟩,p.2)else none
 |_=>none
noncomputable def GM(m:FA):FI:=fun r S=>(m r S).bind fun p=>match p.1 with
 |[.int i,.int j]=>if-(2^62)<=i/\i<2^62 /\ -(2^62)<=j/\j<2^62 then some (⟨gB i (j-i).toNat,[]⟩,p.2)else none
 |_=>none
theorem vF:∀(ds:List D) (n i:Nat),(xr n ds)[i]?=(ds[i]?).map fun d=>.tup [.int ((n+i:Nat):Int),d]
 |[],n,i=>by simp[xr]
 |d::ds,n,0=>by simp[xr]
 |d::ds,n,i+1=>by
  rw[xr,gC1,vF ds (n+1) i,gC1];rw[show n+1+i=n+(i+1) by lia]
theorem vE:∀(ds:List D) (n:Nat),(xr n ds).length=ds.length
 |[],_=>rfl
 |d::ds,n=>by rw[xr,lC1,vE ds,lC1]
theorem ut:∀(xs ys:List D) (i:Nat) (d:D),(sP xs ys)[i]?=some d -> ∃x y,xs[i]?=some x/\ys[i]?=some y/\d = .tup [x,y]
 |[],_,i,d,h=>by simp[sP]at h
 |_::_,[],i,d,h=>by simp[sP]at h
 |x::xs,y::ys,0,d,h=>by simp[sP]at h;exact⟨x,y,rfl,rfl,h.symm⟩
 |x::xs,y::ys,i+1,d,h=>by
  rw[sP,gC1]at h;obtain⟨a,b,e,f,c⟩:=ut xs ys i d h;exact⟨a,b,by simpa using e,by simpa using f,c⟩
theorem uq:∀(xs ys:List D) (i:Nat),(sP xs ys).length<=i->xs.length<=i\/ys.length<=i
 |[],_,i,_=>.inl (bh _)
 |_::_,[],i,_=>.inr (bh _)
 |x::xs,y::ys,0,h=>by simp[sP]at h
 |x::xs,y::ys,i+1,h=>by
  rcases uq xs ys i (by simpa[sP]using h)with q|q
  ·exact .inl (by simpa using q)
  ·exact .inr (by simpa using q)
theorem rz:∀(n:Nat) (lo:Int) (i:Nat) (d:D),(gB lo n)[i]?=some d->i<n/\d = .int (lo+i)
 |0,lo,i,d,h=>by simp[gB]at h
 |n+1,lo,0,d,h=>by simp[gB]at h;exact⟨Nat.succ_pos _,by rw[<- h];simp⟩
 |n+1,lo,i+1,d,h=>by
  rw[gB,gC1]at h;obtain⟨h1,h2⟩:=rz n (lo+1) i d h;refine⟨Nat.succ_lt_succ h1,?_⟩;rw[h2,show lo+1+(i:Int)=lo+((i+1:Nat):Int) by push_cast;lia]
theorem fI:∀(n:Nat) (lo:Int),(gB lo n).length=n
 |0,_=>rfl
 |n+1,lo=>by rw[gB,lC1,fI n]
theorem uZ{S:Sto}:∀{c a:List (Nat×List D)},n3 S (c++a)=true->n3 S c=true/\n3 S a=true
 |[],_,h=>⟨rfl,h⟩
 |(n,xs)::c,a,h=>by
  rw[bi,n3,bA1]at h;obtain⟨h1,h2⟩:=uZ h.2;exact⟨by rw[n3,bA1];exact⟨h.1,h1⟩,h2⟩
section
variable{X:Cx}{tg:Expr}
theorem rP(K:Fg1)(lo:Int)(n:Nat)(mu:List dy)(H:Hp):ItR K (Hs lo n) ⟨gB lo n,[]⟩ mu H:=by
 intro i H1 mu1 e x s ok;refine⟨fun d b=>?_,fun h=>by rw[fI]at h;exact h⟩;obtain⟨h1,h2⟩:=rz n lo i d b;refine⟨h1,fun y H2 ⟨a,c⟩=>?_⟩;subst a;subst c;subst h2;exact⟨.refl _ _,s,.int _⟩
theorem Er{e:Expr}{m:FE}(h:ME X e m):MI X tg e (hH m):=mo (Gc (AZ h) (DQ h)) <| by
 rintro σ H R ⟨r,mu,S,J,I,D,C,g,hc⟩;obtain⟨⟨d,K⟩,E,g⟩:=oB1.mp g;obtain⟨⟨b,xs⟩,o,g⟩:=oB1.mp g;cases g;cases b with
 |true=>
  left;refine⟨r,mu,S,d,_,D,C,E,fun v H1 mu1 B n f=>?_⟩;obtain⟨a,vs,rfl,q,t⟩:=d0 n f o;refine⟨a,rfl,⟨vs,q⟩,hc _ H1 mu1 B (fun i H2 w G s l ok=>?_) f⟩;obtain⟨ws,c,k⟩:=gZ n f o s l ok;refine⟨fun d x=>?_,fun A=>⟨ws,c,by rw[<- k.length];exact A⟩⟩;obtain⟨v,j,p⟩:=k.get x;refine⟨⟨ws,v,c,j⟩,fun y F ⟨u,z⟩=>?_⟩;subst u;have:=z ws c;rw[j]at this;cases this;exact⟨.refl _ _,l,p⟩
 |false=>
  right;refine⟨r,mu,S,d,_,D,C,E,fun v H1 mu1 B n f=>?_⟩;obtain⟨a,vs,rfl,q,t⟩:=d0 n f o;refine⟨a,rfl,⟨vs,q⟩,hc _ H1 mu1 B (fun i H2 w G s l ok=>?_) f⟩;obtain⟨ws,c,k⟩:=gZ n f o s l ok;refine⟨fun d x=>?_,fun A=>⟨ws,c,by rw[<- k.length];exact A⟩⟩;obtain⟨v,j,p⟩:=k.get x;refine⟨⟨ws,v,c,j⟩,fun y F ⟨u,z⟩=>?_⟩;subst u;have:=z ws c;rw[j]at this;cases this;exact⟨.refl _ _,l,p⟩
theorem mj{K:Fg1}{H:Hp}{mu:List dy}{d:D}{vs:List V}(r:dW K H mu [d] vs):∃v,vs=[v]/\eB K H mu d v:=by
 cases r with|cons r t=>cases t;exact⟨_,rfl,r⟩
theorem q9{K:Fg1}{H:Hp}{mu:List dy}{d e:D}{vs:List V}(r:dW K H mu [d,e] vs):∃v u,vs=[v,u]/\eB K H mu d v/\eB K H mu e u:=by
 cases r with|cons r t=>cases t with|cons q t=>cases t;exact⟨_,_,rfl,r,q⟩
theorem wx {a:Expr}{m:FA}{p pos:Pos}(hg:Gl X "range")(hm:X.mg "range"=none)(ha:MA X [a] m)(hs:dE [a] X.env=[(false,eval a X.env)]:=by rfl):MI X tg (.Call (.Name "range" p) [a] [] pos) (tX m):=
 mo (wm hg hm ha hs) <| by
  rintro σ H R ⟨r,mu,S,J,i,g,hs,hm,hc⟩;obtain⟨⟨ds,k⟩,d,hm⟩:=oB1.mp hm;dsimp only at hm;split at hm
  ·rename_i j;split at hm
   ·rename_i b;cases hm;refine⟨r,mu,S,_,_,g,hs,d,fun vs H1 mu1 e f h=>?_⟩;obtain⟨v,rfl,c⟩:=mj f;cases c;exact⟨j,rfl,b.1,b.2,hc _ H1 mu1 e (rP _ _ _ _ _) h⟩
   ·cases hm
  ·cases hm
theorem ww {a b:Expr}{m:FA}{p pos:Pos}(hg:Gl X "range")(hm:X.mg "range"=none)(ha:MA X [a,b] m)(hs:dE [a,b] X.env=[(false,eval a X.env),(false,eval b X.env)]:=by rfl)(hs2:dE [b] X.env=[(false,eval b X.env)]:=by rfl):MI X tg (.Call (.Name "range" p) [a,b] [] pos) (GM m):=
 mo (wl hg hm ha hs hs2) <| by
  rintro σ H R ⟨r,mu,S,J,n,k,hs,hm,hc⟩;obtain⟨⟨ds,o⟩,f,hm⟩:=oB1.mp hm;dsimp only at hm;split at hm
  ·rename_i i j;split at hm
   ·rename_i c;cases hm;refine⟨r,mu,S,_,_,k,hs,f,fun vs H1 mu1 g h e=>?_⟩;obtain⟨v,u,rfl,d,l⟩:=q9 h;cases d;cases l;exact⟨i,j,rfl,c,hc _ H1 mu1 g (rP _ _ _ _ _) e⟩
   ·cases hm
  ·cases hm
variable{elts:List Expr}{k:Nat}{tpos:Pos}
theorem Bp {a:Expr}{m:FA}{p pos:Pos}(hg:Gl X "enumerate")(hm:X.mg "enumerate"=none)(ha:MA X [a] m)(hs:dE [a] X.env=[(false,eval a X.env)]:=by rfl):MI X (.Tuple elts k tpos) (.Call (.Name "enumerate" p) [a] [] pos) (Fw m):=
 mo (A0 hg hm ha hs) <| by
  rintro σ H R ⟨r,mu,S,J,M,x,hs,hm,hc⟩;obtain⟨⟨ds,O⟩,A,hm⟩:=oB1.mp hm;dsimp only at hm;split at hm
  ·rename_i d;obtain⟨⟨b,xs⟩,u,hm⟩:=oB1.mp hm;cases hm;refine⟨r,mu,S,_,_,x,hs,A,fun vs H1 mu1 F G h=>?_⟩;obtain⟨v,rfl,j⟩:=mj G;obtain⟨a,vs,rfl,q,t⟩:=d0 j h u;refine⟨a,b,rfl,⟨vs,q⟩,hc _ H1 mu1 F (fun i H2 C N z s ok=>?_) h⟩;obtain⟨ws,e,n⟩:=gZ j h u z s ok;refine⟨fun d c=>?_,fun o=>⟨ws,e,by rw[vE]at o;rw[<- n.length];exact o⟩⟩;rw[vF]at c;obtain⟨I,E,c⟩:=oM1.mp c;obtain⟨v,l,f⟩:=n.get E;refine⟨⟨ws,v,e,l⟩,fun y K ⟨p,L,g,B,D,w⟩=>?_⟩;have:=w ws e;rw[l]at this;cases this;subst B;subst D;subst c;rw[bN];exact⟨Ext.fresh g,s.fresh g,.tup (jA.of d2) (.cons (.int _) (.cons (f.ext (Ext.fresh g)) .nil))⟩
  ·cases hm
theorem Ep {a b:Expr}{m:FA}{p pos:Pos}(hg:Gl X "zip")(hm:X.mg "zip"=none)(ha:MA X [a,b] m)(hs:dE [a,b] X.env=[(false,eval a X.env),(false,eval b X.env)]:=by rfl)(hs2:dE [b] X.env=[(false,eval b X.env)]:=by rfl):MI X (.Tuple elts k tpos) (.Call (.Name "zip" p) [a,b] [] pos) (Ao m):=
 mo (DP hg hm ha hs hs2) <| by
  rintro σ H R ⟨r,mu,S,J,S',P,hs,hm,hc⟩;obtain⟨⟨ds,S1⟩,T,hm⟩:=oB1.mp hm;dsimp only at hm;split at hm
  ·rename_i d e;obtain⟨⟨b1,xs⟩,L,hm⟩:=oB1.mp hm;obtain⟨⟨b2,ys⟩,K,hm⟩:=oB1.mp hm;cases hm;refine⟨r,mu,S,_,_,P,hs,T,fun vs H1 mu1 x1 r1 f=>?_⟩;obtain⟨v,u,rfl,A,I⟩:=q9 r1;obtain⟨a1,n,rfl,q1,t1⟩:=d0 A f L;obtain⟨a2,w,rfl,N,t2⟩:=d0 I f K;refine⟨a1,b1,a2,b2,rfl,⟨n,q1⟩,⟨w,N⟩,hc _ H1 mu1 x1 (fun i H2 V S2 D s ok=>?_) f⟩;obtain⟨h,q⟩:=uZ ok;obtain⟨ws,j,E⟩:=gZ A f L D s h;obtain⟨c,l,B⟩:=gZ I f K D s q;refine⟨fun d W=>?_,fun Z=>⟨ws,c,j,l,?_⟩⟩
   ·obtain⟨x',y',ex,Q,rfl⟩:=ut xs ys i d W;obtain⟨v,C,t⟩:=E.get ex;obtain⟨u,F,o⟩:=B.get Q;refine⟨⟨ws,c,v,u,j,l,C,F⟩,fun y H3 ⟨p,v',u',g,U,Y,O,M⟩=>?_⟩;have G:=O ws j;have x:=M c l;rw[C]at G;cases G;rw[F]at x;cases x;subst U;subst Y;exact⟨Ext.fresh g,s.fresh g,.tup (jA.of d2) (.cons (t.ext (Ext.fresh g)) (.cons (o.ext (Ext.fresh g)) .nil))⟩
   ·rcases uq xs ys i Z with z|z
    ·exact .inl (by rw[<- E.length];exact z)
    ·exact .inr (by rw[<- B.length];exact z)
  ·cases hm
end
end Mi
namespace Mi
open PySem PySem.Spec PyProof.Rows L2 SeqAt
open AutoSeq1 (wpAny_loadPart')
open MeetsSeq
abbrev OD(e:Array DictEntry)(n:Nat)(dd:Option dy)(sl:Array (Option dr)):Obj:={cls:=.type "dict",dict:=dd,data:=.dict e n,slots:=sl}
section
variable{l:dy}{e:Array DictEntry}{n:Nat}{dd:Option dy}{sl:Array (Option dr)}
theorem zR:Meets (Builtin.«dict.__eq__» ⟨[.ref l,.none],[]⟩) (fun _ R s=>s.heap.get? l=some (OD e n dd sl)/\R (.ok (.ret .notImplemented)) s):=.of_wp fun _ _ _ _ s h=>by
 obtain⟨b,g,d,tk,c⟩:=s;obtain⟨a,h⟩:=h;have f:=F.sub_NoneType_dict;wp_walk using wpAny_loadPart' a;exact⟨_,rfl,h⟩
theorem CQ(b:Bool):Meets (Builtin.«dict.__eq__» ⟨[.ref l,.bool b],[]⟩) (fun _ R s=>s.heap.get? l=some (OD e n dd sl)/\R (.ok (.ret .notImplemented)) s):=.of_wp fun _ _ _ _ s h=>by
 obtain⟨c,g,d,tk,f⟩:=s;obtain⟨a,h⟩:=h;have i:=F.sub_bool_dict;wp_walk using wpAny_loadPart' a;exact⟨_,rfl,h⟩
theorem zS(b:Int)(u:Tok):Meets (Builtin.«dict.__eq__» ⟨[.ref l,.int b u],[]⟩) (fun _ R s=>s.heap.get? l=some (OD e n dd sl)/\R (.ok (.ret .notImplemented)) s):=.of_wp fun _ _ _ _ s h=>by
 obtain⟨c,g,d,tk,f⟩:=s;obtain⟨a,h⟩:=h;have i:=F.sub_int_dict;wp_walk using wpAny_loadPart' a;exact⟨_,rfl,h⟩
theorem zQ(b:Str)(u:Tok):Meets (Builtin.«dict.__eq__» ⟨[.ref l,.str b u],[]⟩) (fun _ R s=>s.heap.get? l=some (OD e n dd sl)/\R (.ok (.ret .notImplemented)) s):=.of_wp fun _ _ _ _ s h=>by
 obtain⟨c,g,d,tk,f⟩:=s;obtain⟨a,h⟩:=h;have i:=F.sub_str_dict;wp_walk using wpAny_loadPart' a;exact⟨_,rfl,h⟩
theorem vG{a:dy}{its:Array dr}{k:Nat}{b:Option dy}{i:Array (Option dr)}:Meets (Builtin.«dict.__eq__» ⟨[.ref l,.ref a],[]⟩) (fun _ R s=>s.heap.get? l=some (OD e n dd sl)/\s.heap.get? a=some {cls:=.type "list",dict:=b,data:=.seq its k,slots:=i}/\R (.ok (.ret .notImplemented)) s):=.of_wp fun _ _ _ _ s h=>by
 obtain⟨j,g,d,tk,o⟩:=s;obtain⟨f,c,h⟩:=h;have m:=F.sub_list_dict;wp_walk using wpAny_loadPart' f,wpAny_loadPart' c;exact⟨_,rfl,h⟩
theorem zP{a:dy}{its:Array dr}{k:Nat}{b:Option dy}{i:Array (Option dr)}:Meets (Builtin.«dict.__eq__» ⟨[.ref l,.ref a],[]⟩) (fun _ R s=>s.heap.get? l=some (OD e n dd sl)/\s.heap.get? a=some {cls:=.type "tuple",dict:=b,data:=.seq its k,slots:=i}/\R (.ok (.ret .notImplemented)) s):=.of_wp fun _ _ _ _ s h=>by
 obtain⟨j,g,d,tk,o⟩:=s;obtain⟨f,c,h⟩:=h;have m:=F.sub_tuple_dict;wp_walk using wpAny_loadPart' f,wpAny_loadPart' c;exact⟨_,rfl,h⟩
theorem CG(b:Bool):Meets (Builtin.«int.__eq__» ⟨[.bool b,.ref l],[]⟩) (fun _ R s=>s.heap.get? l=some (OD e n dd sl)/\R (.ok (.ret .notImplemented)) s):=.of_wp fun _ _ _ _ s h=>by
 obtain⟨c,g,d,tk,f⟩:=s;obtain⟨a,h⟩:=h;wp_walk using wpAny_loadPart' a,wpAny_load a;exact⟨_,rfl,h⟩
theorem yk(b:Int)(u:Tok):Meets (Builtin.«int.__eq__» ⟨[.int b u,.ref l],[]⟩) (fun _ R s=>s.heap.get? l=some (OD e n dd sl)/\R (.ok (.ret .notImplemented)) s):=.of_wp fun _ _ _ _ s h=>by
 obtain⟨c,g,d,tk,f⟩:=s;obtain⟨a,h⟩:=h;wp_walk using wpAny_loadPart' a,wpAny_load a;exact⟨_,rfl,h⟩
theorem yh(b:Str)(u:Tok):Meets (Builtin.«str.__eq__» ⟨[.str b u,.ref l],[]⟩) (fun _ R s=>s.heap.get? l=some (OD e n dd sl)/\R (.ok (.ret .notImplemented)) s):=.of_wp fun _ _ _ _ s h=>by
 obtain⟨c,g,d,tk,f⟩:=s;obtain⟨a,h⟩:=h;wp_walk using wpAny_loadPart' a,wpAny_load a;exact⟨_,rfl,h⟩
theorem uN{a:dy}{its:Array dr}{k:Nat}{b:Option dy}{i:Array (Option dr)}:Meets (Builtin.«list.__eq__» ⟨[.ref a,.ref l],[]⟩) (fun _ R s=>s.heap.get? l=some (OD e n dd sl)/\s.heap.get? a=some {cls:=.type "list",dict:=b,data:=.seq its k,slots:=i}/\R (.ok (.ret .notImplemented)) s):=.of_wp fun _ _ _ _ s h=>by
 obtain⟨j,g,d,tk,o⟩:=s;obtain⟨f,c,h⟩:=h;have m:=F.sub_dict_list;wp_walk using wpAny_loadPart' f,wpAny_loadPart' c;exact⟨_,rfl,h⟩
theorem yg{a:dy}{its:Array dr}{k:Nat}{b:Option dy}{i:Array (Option dr)}:Meets (Builtin.«tuple.__eq__» ⟨[.ref a,.ref l],[]⟩) (fun _ R s=>s.heap.get? l=some (OD e n dd sl)/\s.heap.get? a=some {cls:=.type "tuple",dict:=b,data:=.seq its k,slots:=i}/\R (.ok (.ret .notImplemented)) s):=.of_wp fun _ _ _ _ s h=>by
 obtain⟨j,g,d,tk,o⟩:=s;obtain⟨f,c,h⟩:=h;have m:=F.sub_dict_tuple;wp_walk using wpAny_loadPart' f,wpAny_loadPart' c;exact⟨_,rfl,h⟩
end
abbrev Fs(A:dA)(s:dw)(v u:dr):Prop:=EqAt A s v u false/\EqAt A s u v false/\RcAt A s v u false/\RcAt A s u v false
section
variable{A:dA}{s:dw}{a:dy}{o:Obj}
theorem IH{u:dr}(hn:(Value.ref a == u)=false)(r:RcAt A s (.ref a) u false):EqAt A s (.ref a) u false:=fun prog w E Q h=>by
 unfold eqBool;refine wpAny_holding (wpAny_ite_split (fun z=>?_) fun _=>?_)
 ·rw[hn]at z;cases z
 ·exact wB1 (r prog w E _ (wpAny_truthy_bool h))
theorem IG{u:dr}(hn:(u == Value.ref a)=false)(r:RcAt A s u (.ref a) false):EqAt A s u (.ref a) false:=fun prog w E Q h=>by
 unfold eqBool;refine wpAny_holding (wpAny_ite_split (fun z=>?_) fun _=>?_)
 ·rw[hn]at z;cases z
 ·cases u<;>exact wB1 (r prog w E _ (wpAny_truthy_bool h))
theorem rq {v:V}{u:dr}(ho:s.heap.get? a=some o)(hc:o.cls = .type "dict")(hd:∃e n,o.data = .dict e n)(r:dX v u)(f:iA v=true)(c:A.units<cLine):Fs A s (.ref a) u:=by
 obtain⟨i,dd,d,sl⟩:=o;obtain⟨e,n,hd⟩:=hd;simp only at hc hd;subst hc hd;have two:∀{u:dr},((Value.ref a) == u)=false->(u == (Value.ref a))=false->RcAt A s (.ref a) u false->RcAt A s u (.ref a) false->Fs A s (.ref a) u:=fun h1 h2 g r2=>⟨IH h1 g,IG h2 r2,g,r2⟩;cases v with
 |non=>
  cases r;refine two rfl rfl (fun _ _ _ _ h=>?_) fun _ _ _ _ h=>?_
  ·exact rc_eq_decline_or (k:=false) ⟨_,ho,rfl⟩ rfl (by decide) F.sub_NoneType_dict F.slot_dict_eq F.slot_NoneType_eq_refl (fun _ q=>call_meets F.slot_dict_eq ⟨_,ho,rfl⟩ F.entry_dict_eq (F.args_dict_eq_2 _ _) zR ⟨ho,q⟩) (fun _ q=>call_gives F.slot_NoneType_eq_refl rfl F.entry_NoneType_eq (F.args_NoneType_eq_2 _ _) (NoneType___eq___none_ref_0 a) q) (fun _ q=>wpAny_of_eq (rfl:isSame (.ref a) .none=pure false) q) (.inr c) h
  ·exact rc_eq_decline_or (k:=false) rfl ⟨_,ho,rfl⟩ (by decide) F.sub_dict_NoneType F.slot_NoneType_eq F.slot_dict_eq_refl (fun _ q=>call_gives F.slot_NoneType_eq rfl F.entry_NoneType_eq (F.args_NoneType_eq_2 _ _) (NoneType___eq___none_ref_0 a) q) (fun _ q=>call_meets F.slot_dict_eq_refl ⟨_,ho,rfl⟩ F.entry_dict_eq (F.args_dict_eq_2 _ _) zR ⟨ho,q⟩) (fun _ q=>wpAny_of_eq (rfl:isSame .none (.ref a)=pure false) q) (.inr c) h
 |bl b=>
  cases r;refine two rfl rfl (fun _ _ _ _ h=>?_) fun _ _ _ _ h=>?_
  ·exact rc_eq_decline_or (k:=false) ⟨_,ho,rfl⟩ rfl (by decide) F.sub_bool_dict F.slot_dict_eq F.slot_bool_eq_refl (fun _ q=>call_meets F.slot_dict_eq ⟨_,ho,rfl⟩ F.entry_dict_eq (F.args_dict_eq_2 _ _) (CQ b) ⟨ho,q⟩) (fun _ q=>call_meets F.slot_bool_eq_refl rfl F.entry_int_eq (F.args_int_eq_2 _ _) (CG b) ⟨ho,q⟩) (fun _ q=>wpAny_of_eq (rfl:isSame (.ref a) (.bool b)=pure false) q) (.inr c) h
  ·exact rc_eq_decline_or (k:=false) rfl ⟨_,ho,rfl⟩ (by decide) F.sub_dict_bool F.slot_bool_eq F.slot_dict_eq_refl (fun _ q=>call_meets F.slot_bool_eq rfl F.entry_int_eq (F.args_int_eq_2 _ _) (CG b) ⟨ho,q⟩) (fun _ q=>call_meets F.slot_dict_eq_refl ⟨_,ho,rfl⟩ F.entry_dict_eq (F.args_dict_eq_2 _ _) (CQ b) ⟨ho,q⟩) (fun _ q=>wpAny_of_eq (rfl:isSame (.bool b) (.ref a)=pure false) q) (.inr c) h
 |int b=>
  obtain⟨t,rfl⟩:=r;refine two rfl rfl (fun _ _ _ _ h=>?_) fun _ _ _ _ h=>?_
  ·exact rc_eq_decline_or (k:=false) ⟨_,ho,rfl⟩ (typeIs_int s b t) (by decide) F.sub_int_dict F.slot_dict_eq F.slot_int_eq_refl (fun _ q=>call_meets F.slot_dict_eq ⟨_,ho,rfl⟩ F.entry_dict_eq (F.args_dict_eq_2 _ _) (zS b t) ⟨ho,q⟩) (fun _ q=>call_meets F.slot_int_eq_refl (typeIs_int s b t) F.entry_int_eq (F.args_int_eq_2 _ _) (yk b t) ⟨ho,q⟩) (fun _ q=>wpAny_of_eq (rfl:isSame (.ref a) (.int b t)=pure false) q) (.inr c) h
  ·exact rc_eq_decline_or (k:=false) (typeIs_int s b t) ⟨_,ho,rfl⟩ (by decide) F.sub_dict_int F.slot_int_eq F.slot_dict_eq_refl (fun _ q=>call_meets F.slot_int_eq (typeIs_int s b t) F.entry_int_eq (F.args_int_eq_2 _ _) (yk b t) ⟨ho,q⟩) (fun _ q=>call_meets F.slot_dict_eq_refl ⟨_,ho,rfl⟩ F.entry_dict_eq (F.args_dict_eq_2 _ _) (zS b t) ⟨ho,q⟩) (fun _ q=>wpAny_of_eq (rfl:isSame (.int b t) (.ref a)=pure false) q) (.inr c) h
 |str b=>
  obtain⟨t,rfl⟩:=r;refine two rfl rfl (fun _ _ _ _ h=>?_) fun _ _ _ _ h=>?_
  ·exact rc_eq_decline_or (k:=false) ⟨_,ho,rfl⟩ (typeIs_str s b t) (by decide) F.sub_str_dict F.slot_dict_eq F.slot_str_eq_refl (fun _ q=>call_meets F.slot_dict_eq ⟨_,ho,rfl⟩ F.entry_dict_eq (F.args_dict_eq_2 _ _) (zQ b t) ⟨ho,q⟩) (fun _ q=>call_meets F.slot_str_eq_refl (typeIs_str s b t) F.entry_str_eq (F.args_str_eq_2 _ _) (yh b t) ⟨ho,q⟩) (fun _ q=>wpAny_of_eq (rfl:isSame (.ref a) (.str b t)=pure false) q) (.inr c) h
  ·exact rc_eq_decline_or (k:=false) (typeIs_str s b t) ⟨_,ho,rfl⟩ (by decide) F.sub_dict_str F.slot_str_eq F.slot_dict_eq_refl (fun _ q=>call_meets F.slot_str_eq (typeIs_str s b t) F.entry_str_eq (F.args_str_eq_2 _ _) (yh b t) ⟨ho,q⟩) (fun _ q=>call_meets F.slot_dict_eq_refl ⟨_,ho,rfl⟩ F.entry_dict_eq (F.args_dict_eq_2 _ _) (zQ b t) ⟨ho,q⟩) (fun _ q=>wpAny_of_eq (rfl:isSame (.str b t) (.ref a)=pure false) q) (.inr c) h
 |_=>cases f
theorem u5 {b:Bool}{x:dy}{its:Array dr}(ho:s.heap.get? a=some o)(hc:o.cls = .type "dict")(hd:∃e n,o.data = .dict e n)(c:SCo b s.heap x its)(p:A.units<cLine):Fs A s (.ref a) (.ref x):=by
 obtain⟨w,dd,u,sl⟩:=o;obtain⟨e,n,hd⟩:=hd;simp only at hc hd;subst hc hd;cases b with
 |false=>
  obtain⟨⟨l,r,j,t⟩,d,i,v,g⟩:=(show s.heap.IsTuple x its from c);simp only at i g;subst i g;have f:a≠x:=fun z=>by subst z;rw[ho]at d;exact absurd (congrArg Obj.cls (Option.some.inj d)) (by simp)
  have m:RcAt A s (.ref a) (.ref x) false:=fun _ _ _ _ h=>rc_eq_decline_or (k:=false) ⟨_,ho,rfl⟩ ⟨_,d,rfl⟩ (by decide) F.sub_tuple_dict F.slot_dict_eq F.slot_tuple_eq_refl (fun _ q=>call_meets F.slot_dict_eq ⟨_,ho,rfl⟩ F.entry_dict_eq (F.args_dict_eq_2 _ _) zP ⟨ho,d,q⟩) (fun _ q=>call_meets F.slot_tuple_eq_refl ⟨_,d,rfl⟩ F.entry_tuple_eq (F.args_tuple_eq_2 _ _) yg ⟨ho,d,q⟩) (fun _ q=>wpAny_isSame_ref_other f ho d (by simp) q) (.inr p) h;have r2:RcAt A s (.ref x) (.ref a) false:=fun _ _ _ _ h=>rc_eq_decline_or (k:=false) ⟨_,d,rfl⟩ ⟨_,ho,rfl⟩ (by decide) F.sub_dict_tuple F.slot_tuple_eq F.slot_dict_eq_refl (fun _ q=>call_meets F.slot_tuple_eq ⟨_,d,rfl⟩ F.entry_tuple_eq (F.args_tuple_eq_2 _ _) yg ⟨ho,d,q⟩) (fun _ q=>call_meets F.slot_dict_eq_refl ⟨_,ho,rfl⟩ F.entry_dict_eq (F.args_dict_eq_2 _ _) zP ⟨ho,d,q⟩) (fun _ q=>wpAny_isSame_ref_other' f.symm d ho (by simp) q) (.inr p) h;exact⟨.of_refs f m,.of_refs f.symm r2,m,r2⟩
 |true=>
  obtain⟨⟨l,r,j,t⟩,d,i,v,g⟩:=(show s.heap.IsList x its from c);simp only at i g;subst i g;have f:a≠x:=fun z=>by subst z;rw[ho]at d;exact absurd (congrArg Obj.cls (Option.some.inj d)) (by simp)
  have m:RcAt A s (.ref a) (.ref x) false:=fun _ _ _ _ h=>rc_eq_decline_or (k:=false) ⟨_,ho,rfl⟩ ⟨_,d,rfl⟩ (by decide) F.sub_list_dict F.slot_dict_eq F.slot_list_eq_refl (fun _ q=>call_meets F.slot_dict_eq ⟨_,ho,rfl⟩ F.entry_dict_eq (F.args_dict_eq_2 _ _) vG ⟨ho,d,q⟩) (fun _ q=>call_meets F.slot_list_eq_refl ⟨_,d,rfl⟩ F.entry_list_eq (F.args_list_eq_2 _ _) uN ⟨ho,d,q⟩) (fun _ q=>wpAny_isSame_ref_other f ho d (by simp) q) (.inr p) h;have r2:RcAt A s (.ref x) (.ref a) false:=fun _ _ _ _ h=>rc_eq_decline_or (k:=false) ⟨_,d,rfl⟩ ⟨_,ho,rfl⟩ (by decide) F.sub_dict_list F.slot_list_eq F.slot_dict_eq_refl (fun _ q=>call_meets F.slot_list_eq ⟨_,d,rfl⟩ F.entry_list_eq (F.args_list_eq_2 _ _) uN ⟨ho,d,q⟩) (fun _ q=>call_meets F.slot_dict_eq_refl ⟨_,ho,rfl⟩ F.entry_dict_eq (F.args_dict_eq_2 _ _) vG ⟨ho,d,q⟩) (fun _ q=>wpAny_isSame_ref_other' f.symm d ho (by simp) q) (.inr p) h;exact⟨.of_refs f m,.of_refs f.symm r2,m,r2⟩
end
abbrev G1:=D->Sto->Option (D×Sto)
abbrev G2:=D->D->Sto->Option (D×Sto)
abbrev G3:=D->D->D->Sto->Option (D×Sto)
noncomputable def b1 (f:G1):FN:=fun ds S=>match ds with
 |[a]=>f a S
 |_=>none
noncomputable def b2 (f:G2):FN:=fun ds S=>match ds with
 |[a,b]=>f a b S
 |_=>none
noncomputable def b3 (f:G3):FN:=fun ds S=>match ds with
 |[a,b,c]=>f a b c S
 |_=>none
section
variable{X:Cx}{K:Fg1}{H:Hp}{Q:VK}
theorem nv{f:G2}{x y:V}(h:rN K (b2 f) [x,y] H Q):∃mu S d e r a,eB K H mu d x/\eB K H mu e y/\Sim K H mu S/\f d e S=some (r,a)/\nN K mu H r a Q:=by
 obtain⟨mu,S,ds,r,a,c,b,i,hc⟩:=h;cases c with
 |cons q t=>cases t with
  |cons g t=>cases t;exact⟨mu,S,_,_,r,a,q,g,b,i,hc⟩
theorem DA{f:G1}{xs:List V}(h:rN K (b1 f) xs H Q):∃x mu S d r a,xs=[x]/\eB K H mu d x/\Sim K H mu S/\f d S=some (r,a)/\nN K mu H r a Q:=by
 obtain⟨mu,S,ds,r,a,e,c,b,hc⟩:=h;cases e with
 |nil=>cases b
 |cons q t=>cases t with
  |nil=>exact⟨_,mu,S,_,r,a,rfl,q,c,b,hc⟩
  |cons g t=>cases b
theorem yd{f:G2}{xs:List V}(h:rN K (b2 f) xs H Q):∃x y mu S d e r a,xs=[x,y]/\eB K H mu d x/\eB K H mu e y/\Sim K H mu S/\f d e S=some (r,a)/\nN K mu H r a Q:=by
 obtain⟨mu,S,ds,r,a,g,c,b,hc⟩:=h;cases g with
 |nil=>cases b
 |cons q t=>cases t with
  |nil=>cases b
  |cons i t=>cases t with
   |nil=>exact⟨_,_,mu,S,_,_,r,a,rfl,q,i,c,b,hc⟩
   |cons j t=>cases b
theorem nN.now{mu:List dy}{S:Sto}{d:D}{v:V}(c:nN K mu H d S Q)(r:eB K H mu d v)(s:Sim K H mu S):Q v H:=c v H mu (.refl _ _) r s
end
noncomputable def eJ(i j:Int):Bool:=(decide (-(2^64)<i)&&decide (i<2^64))||(decide (-(2^64)<j)&&decide (j<2^64))||(decide (i.natAbs<2^1000)&&decide (j.natAbs<2^1000))
noncomputable def fM:G2:=fun d e S=>match d,e with
 | .int i,.int j=>some (.int (i+j),S)
 | .tup xs,.tup ys=>if xs.length+ys.length<=dF then some (.tup (xs++ys),S)else none
 | .str x,.str y=>if x.length+y.length<=dF then some (.str (x++y),S)else none
 | .ref a,.ref b=>match S[a]?,S[b]? with
  |some (.lst xs),some (.lst ys)=>if xs.length+ys.length<=dF then some (.ref S.length,S++[.lst (xs++ys)])else none
  |_,_=>none
 |_,_=>none
noncomputable def gSub:G2:=fun d e S=>match d,e with
 | .int i,.int j=>some (.int (i-j),S)
 |_,_=>none
noncomputable def jk:G2:=fun d e S=>match d,e with
 | .int i,.int j=>if eJ i j=true then some (.int (i*j),S)else none
 |_,_=>none
noncomputable def kf:G2:=fun d e S=>match d,e with
 | .int i,.int j=>if 0<j then some (.int (i%j),S)else none
 |_,_=>none
noncomputable def nH:G2:=fun d e S=>match d,e with
 | .int i,.int j=>if 0<j/\j<1073741824 then some (.int (i/j),S)else none
 |_,_=>none
noncomputable def t0:G2:=fun d e S=>match d,e with
 | .int i,.int j=>if 0<=j/\j<=1000000/\i.natAbs<2^64 then some (.int (i^j.toNat),S)else none
 |_,_=>none
noncomputable def EZ:G1:=fun d S=>match d with
 | .int i=>some (.int (-i),S)
 |_=>none
section
variable{X:Cx}
theorem tO{i j:Int}(h:eJ i j=true):IntMulOk i j:=by
 unfold eJ at h;simp only[bO,bA1,decide_eq_true_eq]at h;rcases h with(⟨h1,h2⟩|⟨h1,h2⟩)|⟨h1,h2⟩
 ·exact .of_left (intBits_le_64 h1 h2)
 ·exact .of_right (intBits_le_64 h1 h2)
 ·exact .of_bits (aC (intBits_le h1) (by decide)) (aC (intBits_le h2) (by decide))
theorem lR{f:dr->dr->Sem dr}{g:G2}{c:Int->Int->Prop}{v:Int->Int->D}(hg:∀ d e S r a,g d e S=some (r,a) -> ∃ i j,d = .int i/\e = .int j/\c i j/\r=v i j/\a=S){b:Int->Int->V}(hv:∀i j K H mu,eB K H mu (v i j) (b i j))(ho:gh X f (rI c b)):gh X f (r2 X.K (b2 g)):=by
 intro pins s σ H x y u w Q I n l h;obtain⟨mu,S,d,e,r,a,p,r2,k,o,hc⟩:=nv h;obtain⟨i,j,rfl,rfl,m,rfl,rfl⟩:=hg d e S r a o;cases p;cases r2;exact ho pins s σ H _ _ u w Q I n l ⟨i,j,rfl,rfl,m,hc.now (hv i j _ _ _) k⟩
theorem mD{f:dr->dr->Sem dr}{g:G2}{v:Int->Int->D}(hg:∀ d e S r a,g d e S=some (r,a) -> ∃ i j,d = .int i/\e = .int j/\r=v i j/\a=S){b:Int->Int->V}(hv:∀i j K H mu,eB K H mu (v i j) (b i j))(ho:gh X f (CF b)):gh X f (r2 X.K (b2 g)):=by
 intro pins s σ H x y u w Q I l k h;obtain⟨mu,S,d,e,r,a,n,r2,c,m,hc⟩:=nv h;obtain⟨i,j,rfl,rfl,rfl,rfl⟩:=hg d e S r a m;cases n;cases r2;exact ho pins s σ H _ _ u w Q I l k ⟨i,j,rfl,rfl,hc.now (hv i j _ _ _) c⟩
theorem yL:gh X (binaryOp .Sub) (r2 X.K (b2 gSub)):=mD (v:=fun i j=>.int (i-j)) (fun d e S r a h=>by
 unfold gSub at h;split at h
 ·cases h;exact⟨_,_,rfl,rfl,rfl,rfl⟩
 ·cases h) (fun _ _ _ _ _=>.int _) D1
theorem jX:gh X (binaryOp .Mult) (r2 X.K (b2 jk)):=lR (c:=fun i j=>IntMulOk i j) (v:=fun i j=>.int (i*j)) (fun d e S r a h=>by
 unfold jk at h;split at h
 ·split at h
  ·rename_i q;cases h;exact⟨_,_,rfl,rfl,tO q,rfl,rfl⟩
  ·cases h
 ·cases h) (fun _ _ _ _ _=>.int _) (HA fun _ _ _ _ _ _ _ hc q=>mul_int q hc)
theorem lh:gh X (binaryOp .Mod) (r2 X.K (b2 kf)):=lR (c:=fun _ j=>0<j) (v:=fun i j=>.int (i%j)) (fun d e S r a h=>by
 unfold kf at h;split at h
 ·split at h
  ·rename_i q;cases h;exact⟨_,_,rfl,rfl,q,rfl,rfl⟩
  ·cases h
 ·cases h) (fun _ _ _ _ _=>.int _) D3
theorem u6:gh X (binaryOp .FloorDiv) (r2 X.K (b2 nH)):=lR (c:=Hv) (v:=fun i j=>.int (i/j)) (fun d e S r a h=>by
 unfold nH at h;split at h
 ·split at h
  ·rename_i q;cases h;exact⟨_,_,rfl,rfl,q,rfl,rfl⟩
  ·cases h
 ·cases h) (fun _ _ _ _ _=>.int _) A8
theorem yM:gh X (binaryOp .Pow) (r2 X.K (b2 t0)):=lR (c:=Hu) (v:=fun i j=>.int (i^j.toNat)) (fun d e S r a h=>by
 unfold t0 at h;split at h
 ·split at h
  ·rename_i q;cases h;exact⟨_,_,rfl,rfl,q,rfl,rfl⟩
  ·cases h
 ·cases h) (fun _ _ _ _ _=>.int _) D2
theorem Gn:Fz X (unaryOp .USub) (fun x H Q=>rN X.K (b1 EZ) [x] H Q):=by
 intro pins s σ H x v Q I c h;obtain⟨g,mu,S,d,r,j,e,f,b,a,hc⟩:=DA h;cases e;cases d with
 |int i=>cases a;cases f;exact C9 pins s σ H _ v Q I c ⟨i,rfl,hc.now (.int _) b⟩
 |_=>cases a
theorem xa{s:dw}{prog:dz}{w:dB}{A:dA}{E:dr->dw->Prop}{t b:dy}{ws:List dr}{Q:dr->dw->Prop}(ht:IsTup s.heap t ([]:List dr).toArray)(hb:IsTup s.heap b ws.toArray)(h:Q (.ref b) s):
  dG (model prog w) A (binaryOp .Add (.ref t) (.ref b)) Q E s:=by
 obtain⟨⟨m,dd,l,sl⟩,k,hc,n,i⟩:=id ht;obtain⟨⟨j,e,f,g⟩,c,d,o,a⟩:=id hb;simp only at hc i d a;subst hc i d a;exact concat_meets ⟨_,k,rfl⟩ ⟨_,c,rfl⟩ noFill_tuple_add seq_tuple_add PySem.F.slot_tuple_add PySem.F.entry_tuple_add (PySem.F.args_tuple_add_2 _ _) (tuple_addW0 t b ([]:List dr).toArray ws.toArray n o dd e sl g (by simp)) ⟨k,c,h⟩
theorem fP:gh X (binaryOp .Add) (r2 X.K (b2 fM)):=by
 intro pins s σ H x y u w Q I o q h;obtain⟨mu,S,d,e,r,R,v,r2,f,c,hc⟩:=nv h;unfold fM at c;split at c
 ·cases c;cases v;cases r2;exact D6 pins s σ H _ _ u w Q I o q ⟨_,_,rfl,rfl,hc.now (.int _) f⟩
 ·rename_i xs ys;split at c
  ·rename_i t;cases c;cases v with
   |tup C l=>
    cases r2 with
    |tup A k=>
     rename_i g a1 m a2;by_cases E:g=[]
     ·subst E;have:xs=[]:=by cases l;rfl
      subst this;cases o;cases q;obtain⟨B,G,L,_⟩:=I.tuple C;obtain⟨D,K,p2,_⟩:=I.tuple A;have:B=[]:=G.nil_iff.mpr rfl;subst this;exact xa L p2 ⟨.ref a2,H,I,rfl,hc.now (.tup A k) f⟩
     ·refine A9 pins s σ H _ _ u w Q I o q ⟨a1,a2,g,m,rfl,rfl,C,A,E,by rw[<- l.length,<- k.length];exact t,fun z=>?_,fun z p n=>?_⟩
      ·subst z;have:ys=[]:=by cases k;rfl
       subst this;rw[aN]at hc;exact hc.now (.tup C l) f
      ·exact hc _ _ mu (Ext.fresh n) (.tup (jA.of d2) ((l.append k).ext (Ext.fresh n))) (f.fresh n)
  ·cases c
 ·rename_i i j;split at c
  ·rename_i t;cases c;cases v;cases r2;exact tI pins s σ H _ _ u w Q I o q ⟨i,j,rfl,rfl,t,hc.now (.str _) f⟩
  ·cases c
 ·rename_i a b;split at c
  ·rename_i xs ys O N;split at c
   ·rename_i t;cases c;cases v with
    |ref J=>
     cases r2 with
     |ref F=>
      obtain⟨g,M,l⟩:=f.lst O J;obtain⟨m,P,k⟩:=f.lst N F;refine D5 pins s σ H _ _ u w Q I o q ⟨_,_,g,m,rfl,rfl,M,P,by rw[<- l.length,<- k.length];exact t,fun p n=>?_⟩;exact hc _ _ (mu++[p]) (Ext.new_ n) (.ref (gi f.len p)) (f.newL (l.append k) n)
   ·cases c
  ·cases c
 ·cases c
end
noncomputable def iF(p:Int->Int->Bool):G2:=fun d e S=>match d,e with
 | .int i,.int j=>some (.bl (p i j),S)
 |_,_=>none
section
variable{X:Cx}
theorem vy{p:Int->Int->Bool}(d e:D)(S:Sto)(r:D)(a:Sto)(h:iF p d e S=some (r,a)):∃i j,d = .int i/\e = .int j/\r = .bl (p i j)/\a=S:=by
 unfold iF at h;split at h
 ·cases h;exact⟨_,_,rfl,rfl,rfl,rfl⟩
 ·cases h
theorem yP:gh X (compareOp .Gt) (r2 X.K (b2 (iF fun i j=>decide (j<i)))):=mD vy (fun _ _ _ _ _=>.bl _) Gj
theorem Gr:gh X (compareOp .GtE) (r2 X.K (b2 (iF fun i j=>decide (j<=i)))):=mD vy (fun _ _ _ _ _=>.bl _) Gk
end
noncomputable def iW:D->Bool
 | .non=>true
 | .bl _=>true
 | .int _=>true
 | .str _=>true
 |_=>false
noncomputable def HI:D->D->Option Bool
 | .non,.non=>some true
 | .bl a,.bl b=>some (a == b)
 | .bl a,.int b=>some ((if a then 1 else 0) == b)
 | .int a,.bl b=>some (a == (if b then 1 else 0))
 | .int a,.int b=>some (a == b)
 | .str a,.str b=>some (a == b)
 |d,e=>if iW d&&iW e then some false else none
noncomputable def nq(f:D->D->Option Bool):List D->List D->Option Bool
 |x::xs,y::ys=>(f x y).bind fun b=>(nq f xs ys).map fun c=>b&&c
 |[],[]=>some true
 |_,_=>some false
noncomputable def tU(S:Sto):D->Bool
 | .ref n=>match S[n]? with
  |some (.dct _)=>true
  |some (.dcT _)=>true
  |_=>false
 |_=>false
noncomputable def G5(S:Sto)(d e:D):Option Bool:=match tU S d,tU S e with
 |false,false=>HI d e
 |true,false=>if iW e=true then some false else none
 |false,true=>if iW d=true then some false else none
 |true,true=>none
noncomputable def gf(S:Sto):Nat->D->D->Option Bool
 |0,_,_=>none
 |n+1,d,e=>match dY S d,dY S e with
  |some p,some q=>if p.1=q.1 then(if p.1=true/\p.2.length≠q.2.length then some false else nq (gf S n) p.2 q.2)else some false
  |some _,none=>if iW e=true then some false else if tU S e=true then some false else none
  |none,some _=>if iW d=true then some false else if tU S d=true then some false else none
  |none,none=>G5 S d e
section
variable{X:Cx}{pins:List (dy×Obj)}{σ:L2.St}{H:Hp}{s:dw}{mu:List dy}{S:Sto}
theorem eE{K:Fg1}{d:D}{v:V}(r:eB K H mu d v)(h:iW d=true):iA v=true /\ ∀e w,eB K H mu e w->iW e=true->HI d e=some (sL v w):=by
 cases d with
 |non=>cases r;refine⟨rfl,fun e w q f=>?_⟩;cases e with
  |non=>cases q;rfl
  |bl _=>cases q;rfl
  |int _=>cases q;rfl
  |str _=>cases q;rfl
  |_=>cases f
 |bl b=>cases r;refine⟨rfl,fun e w q f=>?_⟩;cases e with
  |non=>cases q;rfl
  |bl _=>cases q;rfl
  |int _=>cases q;rfl
  |str _=>cases q;rfl
  |_=>cases f
 |int i=>cases r;refine⟨rfl,fun e w q f=>?_⟩;cases e with
  |non=>cases q;rfl
  |bl _=>cases q;rfl
  |int _=>cases q;rfl
  |str _=>cases q;rfl
  |_=>cases f
 |str x=>cases r;refine⟨rfl,fun e w q f=>?_⟩;cases e with
  |non=>cases q;rfl
  |bl _=>cases q;rfl
  |int _=>cases q;rfl
  |str _=>cases q;rfl
  |_=>cases f
 |_=>cases h
theorem mZ{d e:D}{b:Bool}(h:HI d e=some b):iW d=true/\iW e=true:=by
 cases d<;>cases e<;>first|exact⟨rfl,rfl⟩|(cases h;done)|exact nomatch h|(simp[HI,iW]at h)
theorem zJ{v:V}(h:iA v=true):sL v v=true:=by
 cases v<;>first|rfl|(cases h;done)|exact beq_self_eq_true _|(simp[sL];done)
theorem iB(I:Inv X pins σ H s)(hs:Sim X.K H mu S){d:D}{v:V}(r:eB X.K H mu d v)(h:tU S d=true):∃a o,v = .ref a/\s.heap.get? a=some o/\o.cls = .type "dict" /\ ∃e n,o.data = .dict e n:=by
 cases d with
 |ref n=>
  rw[tU]at h;cases r with
  | @ref _ a i=>
   split at h
   ·rename_i ks e;obtain⟨ws,f,_⟩:=hs.dct e i;obtain⟨_,_,vs,_,o,es,ep,b,c,g,_⟩:=(show ew X.prog X.w H s.heap a (.dK ws)from I.hok a _ f);exact⟨a,o,rfl,b,c.1,es,ep,g⟩
   ·rename_i ks e;obtain⟨ws,f,_⟩:=hs.dcT e i;obtain⟨⟨_,_,o,es,ep,b,c,g,_⟩,_⟩:=(show ew X.prog X.w H s.heap a (.ext (fO a ws))from I.hok a _ f);exact⟨a,o,rfl,b,c.1,es,ep,g⟩
   ·cases h
 |_=>cases h
theorem se(I:Inv X pins σ H s)(hs:Sim X.K H mu S):∀(n:Nat) {d e:D} {v:V} {b:Bool},eB X.K H mu d v->eB X.K H mu e v->gf S n d e=some b->b=true
 |0,_,_,_,_,_,_,h=>by cases h
 |n + 1,d,e,v,b,m,k,h=>by
  rw[gf]at h;have l:∀{xs ys:List D} {vs:List V} {b:Bool},dW X.K H mu xs vs->dW X.K H mu ys vs->nq (gf S n) xs ys=some b->b=true:=by
   intro xs
   induction xs with
   |nil=>intro ys vs b L J h;cases L;cases J;cases h;rfl
   |cons x xs ih=>
    intro ys vs b L J h;cases L with
    |cons r t=>
     cases J with
     |cons r' t'=>
      rw[nq]at h;obtain⟨b1,y,h⟩:=oB1.mp h;obtain⟨b2,i,h⟩:=oM1.mp h;subst h;rw[se I hs n r r' y,ih t t' i];rfl
  cases hd:dY S d with
  |some p=>
   obtain⟨G,xs⟩:=p;obtain⟨a,vs,rfl,q,t⟩:=d0 m hs hd;cases he:dY S e with
   |some p2=>
    obtain⟨qb,ys⟩:=p2;obtain⟨a2,K,i,C,F⟩:=d0 k hs he;cases i;rw[hd,he]at h;dsimp only at h;obtain⟨A,N,j,_⟩:=eH I q;obtain⟨M,Q,u,_⟩:=eH I C;have Y:G=qb:=by
     cases G<;>cases qb
     ·rfl
     ·obtain⟨o,y,E,_⟩:=j;obtain⟨z,i,B,_⟩:=u;rw[y]at i;cases i;rw[E]at B;exact absurd B (by decide)
     ·obtain⟨o,y,E,_⟩:=j;obtain⟨z,i,B,_⟩:=u;rw[y]at i;cases i;rw[E]at B;exact absurd B (by decide)
     ·rfl
    subst Y;have W:=lO I q C;subst W;rw[if_pos rfl,if_neg (by rw[t.length,F.length];simp)]at h;exact l t F h
   |none=>
    rw[hd,he]at h;dsimp only at h;split at h
    ·rename_i f;have:=(eE k f).1;cases this
    ·split at h
     ·rename_i f;obtain⟨a2,o,i,w,hc,_⟩:=iB I hs k f;cases i;obtain⟨A,N,j,_⟩:=eH I q;cases G with
      |false=>obtain⟨z,c,g,_⟩:=j;rw[w]at c;cases c;rw[hc]at g;exact absurd g (by decide)
      |true=>obtain⟨z,c,g,_⟩:=j;rw[w]at c;cases c;rw[hc]at g;exact absurd g (by decide)
     ·cases h
  |none=>
   cases he:dY S e with
   |some p2=>
    obtain⟨qb,ys⟩:=p2;obtain⟨a2,K,i,C,F⟩:=d0 k hs he;subst i;rw[hd,he]at h;dsimp only at h;split at h
    ·rename_i f;have:=(eE m f).1;cases this
    ·split at h
     ·rename_i f;obtain⟨a,o,i,w,hc,_⟩:=iB I hs m f;cases i;obtain⟨A,N,j,_⟩:=eH I C;cases qb with
      |false=>obtain⟨z,c,g,_⟩:=j;rw[w]at c;cases c;rw[hc]at g;exact absurd g (by decide)
      |true=>obtain⟨z,c,g,_⟩:=j;rw[w]at c;cases c;rw[hc]at g;exact absurd g (by decide)
     ·cases h
   |none=>
    rw[hd,he]at h;dsimp only at h;unfold G5 at h;split at h
    ·obtain⟨R,U⟩:=mZ h;obtain⟨O,Z⟩:=eE m R;rw[Z e v k U]at h;cases h;exact zJ O
    ·rename_i P _;split at h
     ·rename_i f;obtain⟨a,o,rfl,_⟩:=iB I hs m P;have:=(eE k f).1;cases this
     ·cases h
    ·rename_i _ T;split at h
     ·rename_i f;obtain⟨a,o,rfl,_⟩:=iB I hs k T;have:=(eE m f).1;cases this
     ·cases h
    ·cases h
theorem eY{A:dA}{b:Bool}{a:dy}{its:Array dr}{v:V}{u:dr}(c:SCo b s.heap a its)(r:dX v u)(f:iA v=true)(d:A.units<cLine):
   SeqAt.EqAt A s (.ref a) u false/\SeqAt.EqAt A s u (.ref a) false/\SeqAt.RcAt A s (.ref a) u false/\SeqAt.RcAt A s u (.ref a) false:=by
 cases v with
 | non => cases r;cases b
          · exact⟨.tuple_none c d,.none_tuple c d,.tuple_none c d,.none_tuple c d⟩
          · exact⟨.list_none c d,.none_list c d,.list_none c d,.none_list c d⟩
 | bl k => cases r;cases b
           · exact⟨.tuple_bool k c d,.bool_tuple k c d,.tuple_bool k c d,.bool_tuple k c d⟩
           · exact⟨.list_bool k c d,.bool_list k c d,.list_bool k c d,.bool_list k c d⟩
 | int i => obtain ⟨t,rfl⟩:=r;cases b
            · exact⟨.tuple_int i t c d,.int_tuple i t c d,.tuple_int i t c d,.int_tuple i t c d⟩
            · exact⟨.list_int i t c d,.int_list i t c d,.list_int i t c d,.int_list i t c d⟩
 | str x => obtain ⟨t,rfl⟩:=r;cases b
            · exact⟨.tuple_str x t c d,.str_tuple x t c d,.tuple_str x t c d,.str_tuple x t c d⟩
            · exact⟨.list_str x t c d,.str_list x t c d,.list_str x t c d,.str_list x t c d⟩
 |_=>cases f
theorem AK{A:dA}{x y:V}{u w:dr}(e:dX x u)(a:dX y w)(h:iA x=true)(g:iA y=true):SeqAt.RcAt A s u w (sL x y):=by
 cases x with
 |non=>cases e;cases y with
  |non=>cases a;exact .none_none
  |bl k=>cases a;exact .none_bool k
  |int i=>obtain⟨t,rfl⟩:=a;exact .none_int i t
  |str z=>obtain⟨t,rfl⟩:=a;exact .none_str z t
  |_=>cases g
 |bl d=>cases e;cases y with
  |non=>cases a;exact .bool_none d
  |bl k=>cases a;exact .bool_bool d k
  |int i=>obtain⟨t,rfl⟩:=a;exact .bool_int d i t
  |str z=>obtain⟨t,rfl⟩:=a;exact .bool_str d z t
  |_=>cases g
 |int f=>obtain⟨b,rfl⟩:=e;cases y with
  |non=>cases a;exact .int_none f b
  |bl k=>cases a;exact .int_bool f b k
  |int i=>obtain⟨t,rfl⟩:=a;exact .int_int f b i t
  |str z=>obtain⟨t,rfl⟩:=a;exact .int_str f b z t
  |_=>cases g
 |str c=>obtain⟨b,rfl⟩:=e;cases y with
  |non=>cases a;exact .str_none c b
  |bl k=>cases a;exact .str_bool c b k
  |int i=>obtain⟨t,rfl⟩:=a;exact .str_int c b i t
  |str z=>obtain⟨t,rfl⟩:=a;exact .str_str c b z t
  |_=>cases g
 |_=>cases h
theorem ub(f:D->D->Option Bool):∀{xs ys:List D} {b:Bool},nq f xs ys=some b -> ∃e:Nat->Bool,(∀j x y,xs[j]?=some x->ys[j]?=some y->f x y=some (e j))/\b=((List.range (min xs.length ys.length)).all e&&xs.length == ys.length)
 |[],[],b,h=>by cases h;exact⟨fun _=>true,fun j x y h=>by simp at h,rfl⟩
 |[],y::ys,b,h=>by cases h;exact⟨fun _=>true,fun j x y h=>by simp at h,by simp⟩
 |x::xs,[],b,h=>by cases h;exact⟨fun _=>true,fun j x y h h'=>by simp at h',by simp⟩
 |x::xs,y::ys,b,h=>by
  rw[nq]at h;obtain⟨b1,k,h⟩:=oB1.mp h;obtain⟨b2,m,h⟩:=oM1.mp h;obtain⟨e,l,g⟩:=ub f m;refine⟨fun j=>match j with|0=>b1|j+1=>e j,fun j d i c a=>?_,?_⟩
  ·cases j with
   |zero=>simp at c a;subst c;subst a;exact k
   |succ j=>exact l j d i (by simpa using c) (by simpa using a)
  ·rw[<- h,g,lC1,lC1,Nat.succ_min_succ,List.range_succ_eq_map,bP,List.all_map];have:((xs.length+1 == ys.length+1):Bool)=(xs.length == ys.length):=by simp
   rw[this,Bool.and_assoc];rfl
theorem kU(I:Inv X pins σ H s)(hs:Sim X.K H mu S):∀(n:Nat) {A:dA} {d e:D} {v w:V} {u z:dr} {b:Bool},A.units+n<cLine->eB X.K H mu d v->eB X.K H mu e w->dX v u->dX w z->gf S n d e=some b->SeqAt.EqAt A s u z b/\SeqAt.RcAt A s u z b
 |0,_,_,_,_,_,_,_,_,_,_,_,_,_,h=>by cases h
 |n + 1,A,d,e,v,w,u,z,b,hu,M,C,L,G,h=>by
  have c:A.units<cLine:=by lia
  have h0:=h;rw[gf]at h;cases hd:dY S d with
  |some p=>
   obtain⟨pb,xs⟩:=p;obtain⟨a,vs,rfl,q,t⟩:=d0 M hs hd;obtain⟨l,Z,B,_⟩:=eH I q;cases L;cases he:dY S e with
   |some p2=>
    obtain⟨qb,ys⟩:=p2;obtain⟨a2,T,rfl,q2,t2⟩:=d0 C hs he;obtain⟨i,m,g,_⟩:=eH I q2;cases G;rw[hd,he]at h;dsimp only at h;have r:SeqAt.RcAt A s (.ref a) (.ref a2) b->SeqAt.EqAt A s (.ref a) (.ref a2) b/\SeqAt.RcAt A s (.ref a) (.ref a2) b:=fun rc=>by
     refine⟨?_,rc⟩;by_cases ha:a=a2
     ·subst ha;rw[se I hs (n+1) M C h0];exact .same _
     ·exact .of_refs ha rc
    split at h
    ·rename_i hb;have hb':pb=qb:=hb;subst hb';split at h
     ·rename_i hl;cases h;obtain⟨h1,h2⟩:=hl;subst h1;refine r (.lists_lengths B g ?_ c);have l1:=t.length;have l2:=t2.length;have l3:=Z.length;have l4:=m.length
      simp only[sT1,bne_iff_ne,ne_eq];lia
     ·rename_i hl;obtain ⟨f,hf,W⟩:=ub _ h;have elts:∀ j (h1:j<l.toArray.size) (h2:j<i.toArray.size),SeqAt.EqAt A.in1 s l.toArray[j] i.toArray[j] (f j):=fun j h1 h2=>by
       have Q:j<l.length:=by simpa using h1
       have U:j<i.length:=by simpa using h2
       have Y:j<vs.length:=by rw[Z.length];exact Q
       have k2:j<T.length:=by rw[m.length];exact U
       obtain⟨x,ex,rx⟩:=t.getV (gG1 Y);obtain⟨y,ey,ry⟩:=t2.getV (gG1 k2);obtain⟨u1,R,ru1⟩:=Z.get (gG1 Y);obtain⟨u2,P,ru2⟩:=m.get (gG1 k2);have O:l.toArray[j]=u1:=by
        rw[gG1 Q]at R;simpa using R
       have e2:i.toArray[j]=u2:=by
        rw[gG1 U]at P;simpa using P
       rw[O,e2];exact(kU I hs n (A:=A.in1) (by show A.units+1+n<cLine;lia) rx ry ru1 ru2 (hf j x y ex ey)).1
      have l1:=t.length;have l2:=t2.length;have l3:=Z.length;have l4:=m.length
      cases pb with
      |false=>
       refine r ?_;have:=SeqAt.RcAt.tuples B g c elts;rw[W];have O:l.toArray.size=xs.length:=by simp;lia
       have e2:i.toArray.size=ys.length:=by simp;lia
       rw[O,e2]at this;exact this
      |true=>
       refine r ?_;have N:xs.length=ys.length:=by
        by_cases z:xs.length=ys.length
        ·exact z
        ·exact absurd ⟨rfl,z⟩ hl
       have:=SeqAt.RcAt.lists B g (by simp;lia) c elts;rw[W];have O:l.toArray.size=xs.length:=by simp;lia
       rw[O]at this;rw[N,Nat.min_self,beq_self_eq_true,bM,<- N];exact this
    ·rename_i hb;cases h;cases pb with
     |true=>
      cases qb with
      |true=>exact absurd rfl hb
      |false=>exact⟨.list_tuple B g c,.list_tuple B g c⟩
     |false=>
      cases qb with
      |false=>exact absurd rfl hb
      |true=>exact⟨.tuple_list B g c,.tuple_list B g c⟩
   |none=>
    rw[hd,he]at h;dsimp only at h;split at h
    ·rename_i f;cases h;obtain⟨J,r2,F,E⟩:=eY B G (eE C f).1 c;exact⟨J,F⟩
    ·split at h
     ·rename_i f;cases h;obtain⟨a2,o,rfl,K,hc,k⟩:=iB I hs C f;cases G;obtain⟨J,r2,F,E⟩:=u5 K hc k B c;exact⟨r2,E⟩
     ·cases h
  |none=>
   cases he:dY S e with
   |some p2=>
    obtain⟨qb,ys⟩:=p2;obtain⟨a2,T,rfl,q2,t2⟩:=d0 C hs he;obtain⟨i,m,g,_⟩:=eH I q2;cases G;rw[hd,he]at h;dsimp only at h;split at h
    ·rename_i f;cases h;obtain⟨J,r2,F,E⟩:=eY g L (eE M f).1 c;exact⟨r2,E⟩
    ·split at h
     ·rename_i f;cases h;obtain⟨a,o,rfl,K,hc,k⟩:=iB I hs M f;cases L;obtain⟨J,r2,F,E⟩:=u5 K hc k g c;exact⟨J,F⟩
     ·cases h
   |none=>
    rw[hd,he]at h;dsimp only at h;unfold G5 at h;split at h
    ·obtain⟨f1,f2⟩:=mZ h;obtain⟨g1,g2⟩:=eE M f1;have g3:=(eE C f2).1;rw[g2 e w C f2]at h;cases h;exact⟨jx L G g1 g3,AK L G g1 g3⟩
    ·rename_i Y _;split at h
     ·rename_i f;cases h;obtain⟨a,o,rfl,K,hc,k⟩:=iB I hs M Y;cases L;obtain⟨J,r2,F,E⟩:=rq K hc k G (eE C f).1 c;exact⟨J,F⟩
     ·cases h
    ·rename_i _ k2;split at h
     ·rename_i f;cases h;obtain⟨a,o,rfl,K,hc,k⟩:=iB I hs C k2;cases G;obtain⟨J,r2,F,E⟩:=rq K hc k L (eE M f).1 c;exact⟨r2,E⟩
     ·cases h
    ·cases h
end
noncomputable def eF:Nat:=60
noncomputable def rZ:G2:=fun d e S=>(gf S eF d e).map fun b=>(.bl b,S)
section
variable{X:Cx}
theorem nA(k:X.A.units+64<cLine):gh X (compareOp .Eq) (r2 X.K (b2 rZ)):=by
 intro pins s σ H x y u w Q I g f h;obtain⟨mu,S,d,e,r,l,j,r2,c,a,hc⟩:=nv h;obtain⟨b,i,a⟩:=oM1.mp a;cases a;exact(kU I c eF (by show _+60<cLine;lia) j r2 g f i).2 X.prog X.w X.xe _ ⟨.bl b,H,I,rfl,hc.now (.bl b) c⟩
end
end Mi
namespace Mi
open PySem PySem.Spec PyProof.Rows L2 SeqAt
open AutoSeq1 (wpAny_loadPart')
open MeetsSeq
section
variable{l:dy}{e:Array DictEntry}{n:Nat}{dd:Option dy}{sl:Array (Option dr)}
theorem zV:Meets (Builtin.«dict.__ne__» ⟨[.ref l,.none],[]⟩) (fun _ R s=>s.heap.get? l=some (OD e n dd sl)/\R (.ok (.ret .notImplemented)) s):=.of_wp fun _ _ _ _ s h=>by
 obtain⟨b,g,d,tk,c⟩:=s;obtain⟨a,h⟩:=h;have f:=F.sub_NoneType_dict;wp_walk using wpAny_loadPart' a;exact⟨_,rfl,h⟩
theorem CS(b:Bool):Meets (Builtin.«dict.__ne__» ⟨[.ref l,.bool b],[]⟩) (fun _ R s=>s.heap.get? l=some (OD e n dd sl)/\R (.ok (.ret .notImplemented)) s):=.of_wp fun _ _ _ _ s h=>by
 obtain⟨c,g,d,tk,f⟩:=s;obtain⟨a,h⟩:=h;have i:=F.sub_bool_dict;wp_walk using wpAny_loadPart' a;exact⟨_,rfl,h⟩
theorem zW(b:Int)(u:Tok):Meets (Builtin.«dict.__ne__» ⟨[.ref l,.int b u],[]⟩) (fun _ R s=>s.heap.get? l=some (OD e n dd sl)/\R (.ok (.ret .notImplemented)) s):=.of_wp fun _ _ _ _ s h=>by
 obtain⟨c,g,d,tk,f⟩:=s;obtain⟨a,h⟩:=h;have i:=F.sub_int_dict;wp_walk using wpAny_loadPart' a;exact⟨_,rfl,h⟩
theorem zU(b:Str)(u:Tok):Meets (Builtin.«dict.__ne__» ⟨[.ref l,.str b u],[]⟩) (fun _ R s=>s.heap.get? l=some (OD e n dd sl)/\R (.ok (.ret .notImplemented)) s):=.of_wp fun _ _ _ _ s h=>by
 obtain⟨c,g,d,tk,f⟩:=s;obtain⟨a,h⟩:=h;have i:=F.sub_str_dict;wp_walk using wpAny_loadPart' a;exact⟨_,rfl,h⟩
theorem vH{a:dy}{its:Array dr}{k:Nat}{b:Option dy}{i:Array (Option dr)}:Meets (Builtin.«dict.__ne__» ⟨[.ref l,.ref a],[]⟩) (fun _ R s=>s.heap.get? l=some (OD e n dd sl)/\s.heap.get? a=some {cls:=.type "list",dict:=b,data:=.seq its k,slots:=i}/\R (.ok (.ret .notImplemented)) s):=.of_wp fun _ _ _ _ s h=>by
 obtain⟨j,g,d,tk,o⟩:=s;obtain⟨f,c,h⟩:=h;have m:=F.sub_list_dict;wp_walk using wpAny_loadPart' f,wpAny_loadPart' c;exact⟨_,rfl,h⟩
theorem zT{a:dy}{its:Array dr}{k:Nat}{b:Option dy}{i:Array (Option dr)}:Meets (Builtin.«dict.__ne__» ⟨[.ref l,.ref a],[]⟩) (fun _ R s=>s.heap.get? l=some (OD e n dd sl)/\s.heap.get? a=some {cls:=.type "tuple",dict:=b,data:=.seq its k,slots:=i}/\R (.ok (.ret .notImplemented)) s):=.of_wp fun _ _ _ _ s h=>by
 obtain⟨j,g,d,tk,o⟩:=s;obtain⟨f,c,h⟩:=h;have m:=F.sub_tuple_dict;wp_walk using wpAny_loadPart' f,wpAny_loadPart' c;exact⟨_,rfl,h⟩
theorem CI(b:Bool):Meets (Builtin.«int.__ne__» ⟨[.bool b,.ref l],[]⟩) (fun _ R s=>s.heap.get? l=some (OD e n dd sl)/\R (.ok (.ret .notImplemented)) s):=.of_wp fun _ _ _ _ s h=>by
 obtain⟨c,g,d,tk,f⟩:=s;obtain⟨a,h⟩:=h;wp_walk using wpAny_loadPart' a,wpAny_load a;exact⟨_,rfl,h⟩
theorem yV(b:Int)(u:Tok):Meets (Builtin.«int.__ne__» ⟨[.int b u,.ref l],[]⟩) (fun _ R s=>s.heap.get? l=some (OD e n dd sl)/\R (.ok (.ret .notImplemented)) s):=.of_wp fun _ _ _ _ s h=>by
 obtain⟨c,g,d,tk,f⟩:=s;obtain⟨a,h⟩:=h;wp_walk using wpAny_loadPart' a,wpAny_load a;exact⟨_,rfl,h⟩
theorem yU(b:Str)(u:Tok):Meets (Builtin.«str.__ne__» ⟨[.str b u,.ref l],[]⟩) (fun _ R s=>s.heap.get? l=some (OD e n dd sl)/\R (.ok (.ret .notImplemented)) s):=.of_wp fun _ _ _ _ s h=>by
 obtain⟨c,g,d,tk,f⟩:=s;obtain⟨a,h⟩:=h;wp_walk using wpAny_loadPart' a,wpAny_load a;exact⟨_,rfl,h⟩
theorem u9{a:dy}{its:Array dr}{k:Nat}{b:Option dy}{i:Array (Option dr)}:Meets (Builtin.«list.__ne__» ⟨[.ref a,.ref l],[]⟩) (fun _ R s=>s.heap.get? l=some (OD e n dd sl)/\s.heap.get? a=some {cls:=.type "list",dict:=b,data:=.seq its k,slots:=i}/\R (.ok (.ret .notImplemented)) s):=.of_wp fun _ _ _ _ s h=>by
 obtain⟨j,g,d,tk,o⟩:=s;obtain⟨f,c,h⟩:=h;have m:=F.sub_dict_list;wp_walk using wpAny_loadPart' f,wpAny_loadPart' c;exact⟨_,rfl,h⟩
theorem yT{a:dy}{its:Array dr}{k:Nat}{b:Option dy}{i:Array (Option dr)}:Meets (Builtin.«tuple.__ne__» ⟨[.ref a,.ref l],[]⟩) (fun _ R s=>s.heap.get? l=some (OD e n dd sl)/\s.heap.get? a=some {cls:=.type "tuple",dict:=b,data:=.seq its k,slots:=i}/\R (.ok (.ret .notImplemented)) s):=.of_wp fun _ _ _ _ s h=>by
 obtain⟨j,g,d,tk,o⟩:=s;obtain⟨f,c,h⟩:=h;have m:=F.sub_dict_tuple;wp_walk using wpAny_loadPart' f,wpAny_loadPart' c;exact⟨_,rfl,h⟩
end
abbrev Fq(A:dA)(s:dw)(v u:dr):Prop:=RcNeAt A s v u true/\RcNeAt A s u v true
section
variable{A:dA}{s:dw}{a:dy}{o:Obj}
theorem rp {v:V}{u:dr}(ho:s.heap.get? a=some o)(hc:o.cls = .type "dict")(hd:∃e n,o.data = .dict e n)(r:dX v u)(f:iA v=true)(c:A.units<cLine):Fq A s (.ref a) u:=by
 obtain⟨i,dd,d,sl⟩:=o;obtain⟨e,n,hd⟩:=hd;simp only at hc hd;subst hc hd;have two:∀{u:dr},RcNeAt A s (.ref a) u true->RcNeAt A s u (.ref a) true->Fq A s (.ref a) u:=fun g r2=>⟨g,r2⟩;cases v with
 |non=>
  cases r;refine two (fun _ _ _ _ h=>?_) fun _ _ _ _ h=>?_
  ·exact rc_ne_decline_or (k:=false) ⟨_,ho,rfl⟩ rfl (by decide) F.sub_NoneType_dict F.slot_dict_ne F.slot_NoneType_ne_refl (fun _ q=>call_meets F.slot_dict_ne ⟨_,ho,rfl⟩ F.entry_dict_ne (F.args_dict_ne_2 _ _) zV ⟨ho,q⟩) (fun _ q=>call_gives F.slot_NoneType_ne_refl rfl F.entry_NoneType_ne (F.args_NoneType_ne_2 _ _) (NoneType___ne___none_ref_0 a) q) (fun _ q=>wpAny_of_eq (rfl:isSame (.ref a) .none=pure false) q) (.inr c) h
  ·exact rc_ne_decline_or (k:=false) rfl ⟨_,ho,rfl⟩ (by decide) F.sub_dict_NoneType F.slot_NoneType_ne F.slot_dict_ne_refl (fun _ q=>call_gives F.slot_NoneType_ne rfl F.entry_NoneType_ne (F.args_NoneType_ne_2 _ _) (NoneType___ne___none_ref_0 a) q) (fun _ q=>call_meets F.slot_dict_ne_refl ⟨_,ho,rfl⟩ F.entry_dict_ne (F.args_dict_ne_2 _ _) zV ⟨ho,q⟩) (fun _ q=>wpAny_of_eq (rfl:isSame .none (.ref a)=pure false) q) (.inr c) h
 |bl b=>
  cases r;refine two (fun _ _ _ _ h=>?_) fun _ _ _ _ h=>?_
  ·exact rc_ne_decline_or (k:=false) ⟨_,ho,rfl⟩ rfl (by decide) F.sub_bool_dict F.slot_dict_ne F.slot_bool_ne_refl (fun _ q=>call_meets F.slot_dict_ne ⟨_,ho,rfl⟩ F.entry_dict_ne (F.args_dict_ne_2 _ _) (CS b) ⟨ho,q⟩) (fun _ q=>call_meets F.slot_bool_ne_refl rfl F.entry_int_ne (F.args_int_ne_2 _ _) (CI b) ⟨ho,q⟩) (fun _ q=>wpAny_of_eq (rfl:isSame (.ref a) (.bool b)=pure false) q) (.inr c) h
  ·exact rc_ne_decline_or (k:=false) rfl ⟨_,ho,rfl⟩ (by decide) F.sub_dict_bool F.slot_bool_ne F.slot_dict_ne_refl (fun _ q=>call_meets F.slot_bool_ne rfl F.entry_int_ne (F.args_int_ne_2 _ _) (CI b) ⟨ho,q⟩) (fun _ q=>call_meets F.slot_dict_ne_refl ⟨_,ho,rfl⟩ F.entry_dict_ne (F.args_dict_ne_2 _ _) (CS b) ⟨ho,q⟩) (fun _ q=>wpAny_of_eq (rfl:isSame (.bool b) (.ref a)=pure false) q) (.inr c) h
 |int b=>
  obtain⟨t,rfl⟩:=r;refine two (fun _ _ _ _ h=>?_) fun _ _ _ _ h=>?_
  ·exact rc_ne_decline_or (k:=false) ⟨_,ho,rfl⟩ (typeIs_int s b t) (by decide) F.sub_int_dict F.slot_dict_ne F.slot_int_ne_refl (fun _ q=>call_meets F.slot_dict_ne ⟨_,ho,rfl⟩ F.entry_dict_ne (F.args_dict_ne_2 _ _) (zW b t) ⟨ho,q⟩) (fun _ q=>call_meets F.slot_int_ne_refl (typeIs_int s b t) F.entry_int_ne (F.args_int_ne_2 _ _) (yV b t) ⟨ho,q⟩) (fun _ q=>wpAny_of_eq (rfl:isSame (.ref a) (.int b t)=pure false) q) (.inr c) h
  ·exact rc_ne_decline_or (k:=false) (typeIs_int s b t) ⟨_,ho,rfl⟩ (by decide) F.sub_dict_int F.slot_int_ne F.slot_dict_ne_refl (fun _ q=>call_meets F.slot_int_ne (typeIs_int s b t) F.entry_int_ne (F.args_int_ne_2 _ _) (yV b t) ⟨ho,q⟩) (fun _ q=>call_meets F.slot_dict_ne_refl ⟨_,ho,rfl⟩ F.entry_dict_ne (F.args_dict_ne_2 _ _) (zW b t) ⟨ho,q⟩) (fun _ q=>wpAny_of_eq (rfl:isSame (.int b t) (.ref a)=pure false) q) (.inr c) h
 |str b=>
  obtain⟨t,rfl⟩:=r;refine two (fun _ _ _ _ h=>?_) fun _ _ _ _ h=>?_
  ·exact rc_ne_decline_or (k:=false) ⟨_,ho,rfl⟩ (typeIs_str s b t) (by decide) F.sub_str_dict F.slot_dict_ne F.slot_str_ne_refl (fun _ q=>call_meets F.slot_dict_ne ⟨_,ho,rfl⟩ F.entry_dict_ne (F.args_dict_ne_2 _ _) (zU b t) ⟨ho,q⟩) (fun _ q=>call_meets F.slot_str_ne_refl (typeIs_str s b t) F.entry_str_ne (F.args_str_ne_2 _ _) (yU b t) ⟨ho,q⟩) (fun _ q=>wpAny_of_eq (rfl:isSame (.ref a) (.str b t)=pure false) q) (.inr c) h
  ·exact rc_ne_decline_or (k:=false) (typeIs_str s b t) ⟨_,ho,rfl⟩ (by decide) F.sub_dict_str F.slot_str_ne F.slot_dict_ne_refl (fun _ q=>call_meets F.slot_str_ne (typeIs_str s b t) F.entry_str_ne (F.args_str_ne_2 _ _) (yU b t) ⟨ho,q⟩) (fun _ q=>call_meets F.slot_dict_ne_refl ⟨_,ho,rfl⟩ F.entry_dict_ne (F.args_dict_ne_2 _ _) (zU b t) ⟨ho,q⟩) (fun _ q=>wpAny_of_eq (rfl:isSame (.str b t) (.ref a)=pure false) q) (.inr c) h
 |_=>cases f
theorem u4 {b:Bool}{x:dy}{its:Array dr}(ho:s.heap.get? a=some o)(hc:o.cls = .type "dict")(hd:∃e n,o.data = .dict e n)(c:SCo b s.heap x its)(m:A.units<cLine):Fq A s (.ref a) (.ref x):=by
 obtain⟨w,dd,u,sl⟩:=o;obtain⟨e,n,hd⟩:=hd;simp only at hc hd;subst hc hd;cases b with
 |false=>
  obtain⟨⟨l,p,j,t⟩,d,i,v,f⟩:=(show s.heap.IsTuple x its from c);simp only at i f;subst i f;have g:a≠x:=fun z=>by subst z;rw[ho]at d;exact absurd (congrArg Obj.cls (Option.some.inj d)) (by simp)
  have r:RcNeAt A s (.ref a) (.ref x) true:=fun _ _ _ _ h=>rc_ne_decline_or (k:=false) ⟨_,ho,rfl⟩ ⟨_,d,rfl⟩ (by decide) F.sub_tuple_dict F.slot_dict_ne F.slot_tuple_ne_refl (fun _ q=>call_meets F.slot_dict_ne ⟨_,ho,rfl⟩ F.entry_dict_ne (F.args_dict_ne_2 _ _) zT ⟨ho,d,q⟩) (fun _ q=>call_meets F.slot_tuple_ne_refl ⟨_,d,rfl⟩ F.entry_tuple_ne (F.args_tuple_ne_2 _ _) yT ⟨ho,d,q⟩) (fun _ q=>wpAny_isSame_ref_other g ho d (by simp) q) (.inr m) h;have r2:RcNeAt A s (.ref x) (.ref a) true:=fun _ _ _ _ h=>rc_ne_decline_or (k:=false) ⟨_,d,rfl⟩ ⟨_,ho,rfl⟩ (by decide) F.sub_dict_tuple F.slot_tuple_ne F.slot_dict_ne_refl (fun _ q=>call_meets F.slot_tuple_ne ⟨_,d,rfl⟩ F.entry_tuple_ne (F.args_tuple_ne_2 _ _) yT ⟨ho,d,q⟩) (fun _ q=>call_meets F.slot_dict_ne_refl ⟨_,ho,rfl⟩ F.entry_dict_ne (F.args_dict_ne_2 _ _) zT ⟨ho,d,q⟩) (fun _ q=>wpAny_isSame_ref_other' g.symm d ho (by simp) q) (.inr m) h;exact⟨r,r2⟩
 |true=>
  obtain⟨⟨l,p,j,t⟩,d,i,v,f⟩:=(show s.heap.IsList x its from c);simp only at i f;subst i f;have g:a≠x:=fun z=>by subst z;rw[ho]at d;exact absurd (congrArg Obj.cls (Option.some.inj d)) (by simp)
  have r:RcNeAt A s (.ref a) (.ref x) true:=fun _ _ _ _ h=>rc_ne_decline_or (k:=false) ⟨_,ho,rfl⟩ ⟨_,d,rfl⟩ (by decide) F.sub_list_dict F.slot_dict_ne F.slot_list_ne_refl (fun _ q=>call_meets F.slot_dict_ne ⟨_,ho,rfl⟩ F.entry_dict_ne (F.args_dict_ne_2 _ _) vH ⟨ho,d,q⟩) (fun _ q=>call_meets F.slot_list_ne_refl ⟨_,d,rfl⟩ F.entry_list_ne (F.args_list_ne_2 _ _) u9 ⟨ho,d,q⟩) (fun _ q=>wpAny_isSame_ref_other g ho d (by simp) q) (.inr m) h;have r2:RcNeAt A s (.ref x) (.ref a) true:=fun _ _ _ _ h=>rc_ne_decline_or (k:=false) ⟨_,d,rfl⟩ ⟨_,ho,rfl⟩ (by decide) F.sub_dict_list F.slot_list_ne F.slot_dict_ne_refl (fun _ q=>call_meets F.slot_list_ne ⟨_,d,rfl⟩ F.entry_list_ne (F.args_list_ne_2 _ _) u9 ⟨ho,d,q⟩) (fun _ q=>call_meets F.slot_dict_ne_refl ⟨_,ho,rfl⟩ F.entry_dict_ne (F.args_dict_ne_2 _ _) vH ⟨ho,d,q⟩) (fun _ q=>wpAny_isSame_ref_other' g.symm d ho (by simp) q) (.inr m) h;exact⟨r,r2⟩
end
section
variable{X:Cx}{pins:List (dy×Obj)}{σ:L2.St}{H:Hp}{s:dw}{mu:List dy}{S:Sto}
theorem Bf{A:dA}{x y:V}{u w:dr}(e:dX x u)(a:dX y w)(h:iA x=true)(g:iA y=true):SeqAt.RcNeAt A s u w (!sL x y):=by
 cases x with
 |non=>cases e;cases y with
  |non=>cases a;exact .none_none
  |bl k=>cases a;exact .none_bool k
  |int i=>obtain⟨t,rfl⟩:=a;exact .none_int i t
  |str z=>obtain⟨t,rfl⟩:=a;exact .none_str z t
  |_=>cases g
 |bl d=>cases e;cases y with
  |non=>cases a;exact .bool_none d
  |bl k=>cases a;exact .bool_bool d k
  |int i=>obtain⟨t,rfl⟩:=a;exact .bool_int d i t
  |str z=>obtain⟨t,rfl⟩:=a;exact .bool_str d z t
  |_=>cases g
 |int f=>obtain⟨b,rfl⟩:=e;cases y with
  |non=>cases a;exact .int_none f b
  |bl k=>cases a;exact .int_bool f b k
  |int i=>obtain⟨t,rfl⟩:=a;exact .int_int f b i t
  |str z=>obtain⟨t,rfl⟩:=a;exact .int_str f b z t
  |_=>cases g
 |str c=>obtain⟨b,rfl⟩:=e;cases y with
  |non=>cases a;exact .str_none c b
  |bl k=>cases a;exact .str_bool c b k
  |int i=>obtain⟨t,rfl⟩:=a;exact .str_int c b i t
  |str z=>obtain⟨t,rfl⟩:=a;exact .str_str c b z t
  |_=>cases g
 |_=>cases h
theorem lm{A:dA}{b:Bool}{a:dy}{its:Array dr}{v:V}{u:dr}(c:SCo b s.heap a its)(r:dX v u)(f:iA v=true)(d:A.units<cLine):SeqAt.RcNeAt A s (.ref a) u true/\SeqAt.RcNeAt A s u (.ref a) true:=by
 cases v with
 | non => cases r;cases b
          · exact⟨.tuple_none c d,.none_tuple c d⟩
          · exact⟨.list_none c d,.none_list c d⟩
 | bl k => cases r;cases b
           · exact⟨.tuple_bool k c d,.bool_tuple k c d⟩
           · exact⟨.list_bool k c d,.bool_list k c d⟩
 | int i => obtain ⟨t,rfl⟩:=r;cases b
            · exact⟨.tuple_int i t c d,.int_tuple i t c d⟩
            · exact⟨.list_int i t c d,.int_list i t c d⟩
 | str x => obtain ⟨t,rfl⟩:=r;cases b
            · exact⟨.tuple_str x t c d,.str_tuple x t c d⟩
            · exact⟨.list_str x t c d,.str_list x t c d⟩
 |_=>cases f
theorem Ec(I:Inv X pins σ H s)(hs:Sim X.K H mu S)(n:Nat){A:dA}{d e:D}{v w:V}{u z:dr}{b:Bool}(hu:A.units+n<cLine)(G:eB X.K H mu d v)(r:eB X.K H mu e w)(F:dX v u)(E:dX w z)(h:gf S n d e=some b):SeqAt.RcNeAt A s u z (!b):=by
 cases n with
 |zero=>cases h
 |succ n=>
  have c:A.units<cLine:=by lia
  rw[gf]at h;cases hd:dY S d with
  |some p=>
   obtain⟨pb,xs⟩:=p;obtain⟨a,vs,rfl,q,t⟩:=d0 G hs hd;obtain⟨l,Y,B,_⟩:=eH I q;cases F;cases he:dY S e with
   |some p2=>
    obtain⟨qb,ys⟩:=p2;obtain⟨a2,O,rfl,W,Z⟩:=d0 r hs he;obtain⟨g,m,i,_⟩:=eH I W;cases E;rw[hd,he]at h;dsimp only at h;have l1:=t.length;have l2:=Z.length;have l3:=Y.length;have l4:=m.length
    split at h
    ·rename_i U;have hb':pb=qb:=U;subst hb';split at h
     ·rename_i hl;cases h;obtain⟨h1,h2⟩:=hl;subst h1;refine .lists_lengths B i ?_ c;simp only[sT1,bne_iff_ne,ne_eq];lia
     ·rename_i hl;obtain ⟨f,hf,Q⟩:=ub _ h;have elts:∀ j (h1:j<l.toArray.size) (h2:j<g.toArray.size),SeqAt.EqAt A.in1 s l.toArray[j] g.toArray[j] (f j):=fun j h1 h2=>by
       have M:j<l.length:=by simpa using h1
       have P:j<g.length:=by simpa using h2
       have R:j<vs.length:=by rw[Y.length];exact M
       have T:j<O.length:=by rw[m.length];exact P
       obtain⟨x,ex,rx⟩:=t.getV (gG1 R);obtain⟨y,ey,ry⟩:=Z.getV (gG1 T);obtain⟨u1,N,ru1⟩:=Y.get (gG1 R);obtain⟨u2,L,ru2⟩:=m.get (gG1 T);have K:l.toArray[j]=u1:=by
        rw[gG1 M]at N;simpa using N
       have e2:g.toArray[j]=u2:=by
        rw[gG1 P]at L;simpa using L
       rw[K,e2];exact(kU I hs n (A:=A.in1) (by show A.units+1+n<cLine;lia) rx ry ru1 ru2 (hf j x y ex ey)).1
      cases pb with
      |false=>
       have:=SeqAt.RcNeAt.tuples B i c elts;rw[Q];have K:l.toArray.size=xs.length:=by simp;lia
       have e2:g.toArray.size=ys.length:=by simp;lia
       rw[K,e2]at this;exact this
      |true=>
       have J:xs.length=ys.length:=by
        by_cases z:xs.length=ys.length
        ·exact z
        ·exact absurd ⟨rfl,z⟩ hl
       have:=SeqAt.RcNeAt.lists B i (by simp;lia) c elts;rw[Q];have K:l.toArray.size=xs.length:=by simp;lia
       rw[K]at this;rw[J,Nat.min_self,beq_self_eq_true,bM,<- J];exact this
    ·rename_i U;cases h;cases pb with
     |true=>
      cases qb with
      |true=>exact absurd rfl U
      |false=>exact .list_tuple B i c
     |false=>
      cases qb with
      |false=>exact absurd rfl U
      |true=>exact .tuple_list B i c
   |none=>
    rw[hd,he]at h;dsimp only at h;split at h
    ·rename_i f;cases h;exact(lm B E (eE r f).1 c).1
    ·split at h
     ·rename_i f;cases h;obtain⟨a2,o,rfl,C,hc,k⟩:=iB I hs r f;cases E;exact(u4 C hc k B c).2
     ·cases h
  |none=>
   cases he:dY S e with
   |some p2=>
    obtain⟨qb,ys⟩:=p2;obtain⟨a2,O,rfl,W,Z⟩:=d0 r hs he;obtain⟨g,m,i,_⟩:=eH I W;cases E;rw[hd,he]at h;dsimp only at h;split at h
    ·rename_i f;cases h;exact(lm i F (eE G f).1 c).2
    ·split at h
     ·rename_i f;cases h;obtain⟨a,o,rfl,C,hc,k⟩:=iB I hs G f;cases F;exact(u4 C hc k i c).1
     ·cases h
   |none=>
    rw[hd,he]at h;dsimp only at h;unfold G5 at h;split at h
    ·obtain⟨f1,f2⟩:=mZ h;obtain⟨g1,g2⟩:=eE G f1;have g3:=(eE r f2).1;rw[g2 e w r f2]at h;cases h;exact Bf F E g1 g3
    ·rename_i R _;split at h
     ·rename_i f;cases h;obtain⟨a,o,rfl,C,hc,k⟩:=iB I hs G R;cases F;exact(rp C hc k E (eE r f).1 c).1
     ·cases h
    ·rename_i _ T;split at h
     ·rename_i f;cases h;obtain⟨a,o,rfl,C,hc,k⟩:=iB I hs r T;cases E;exact(rp C hc k F (eE G f).1 c).2
     ·cases h
    ·cases h
end
noncomputable def HH:G2:=fun d e S=>(gf S eF d e).map fun b=>(.bl (!b),S)
noncomputable def An(f:D->D->Option Bool)(x:D):List D->Option Bool
 |[]=>some false
 |y::ys=>(f y x).bind fun b=>(An f x ys).map fun c=>b||c
noncomputable def Fy:G2:=fun d e S=>(dY S e).bind fun p=>(An (gf S eF) d p.2).map fun b=>(.bl b,S)
noncomputable def kQ:G2:=fun d e S=>(dY S e).bind fun p=>(An (gf S eF) d p.2).map fun b=>(.bl (!b),S)
noncomputable def ou:D->Bool
 | .non=>true
 |_=>false
noncomputable def IF:G2:=fun d e S=>match e with
 | .non=>some (.bl (ou d),S)
 |_=>none
noncomputable def B6:G2:=fun d e S=>match e with
 | .non=>some (.bl (!ou d),S)
 |_=>none
section
variable{X:Cx}
theorem Iq(k:X.A.units+64<cLine):gh X (compareOp .NotEq) (r2 X.K (b2 HH)):=by
 intro pins s σ H x y u w Q I g f h;obtain⟨mu,S,d,e,r,l,j,r2,c,a,hc⟩:=nv h;obtain⟨b,i,a⟩:=oM1.mp a;cases a;exact Ec I c eF (by show _+60<cLine;lia) j r2 g f i X.prog X.w X.xe _ ⟨.bl (!b),H,I,rfl,hc.now (.bl _) c⟩
theorem zq(f:D->D->Option Bool)(x:D):∀{ys:List D} {b:Bool},An f x ys=some b -> ∃bs:List Bool,bs.length=ys.length/\(∀(j:Nat) (y:D) (k:Bool),ys[j]?=some y->bs[j]?=some k->f y x=some k)/\b=bs.any id
 |[],b,h=>by cases h;exact⟨[],rfl,fun j y k h=>by simp at h,rfl⟩
 |y::ys,b,h=>by
  rw[An]at h;obtain⟨b1,l,h⟩:=oB1.mp h;obtain⟨b2,m,h⟩:=oM1.mp h;obtain⟨bs,i,g,a⟩:=zq f x m;refine⟨b1::bs,by simp[i],fun j e k c d=>?_,?_⟩
  ·cases j with
   |zero=>simp at c d;subst c;subst d;exact l
   |succ j=>exact g j e k (by simpa using c) (by simpa using d)
  ·rw[<- h,a];simp
open Classical in
theorem CK{pins:List (dy×Obj)}{σ:L2.St}{H:Hp}{s:dw}{mu:List dy}{S:Sto}(I:Inv X pins σ H s)(hs:Sim X.K H mu S){A:dA}(M:A.units+61<cLine){x:D}{v:V}{u:dr}(t:eB X.K H mu x v)(C:dX v u){ys:List D}{vs:List V}{a:List dr}{b:Bool}(n:dW X.K H mu ys vs)(m:ea vs a)(h:An (gf S eF) x ys=some b):∃e:dr->Bool,(∀w∈a,SeqAt.EqAt A.in1 s w u (e w))/\a.any e=b:=by
 obtain⟨bs,G,E,rfl⟩:=zq _ x h;have J:=n.length;have L:=m.length;have at_:∀(j:Nat) w k,a[j]?=some w->bs[j]?=some k->SeqAt.EqAt A.in1 s w u k:=fun j w k g d=>by
  have p:j<a.length:=(gE1.mp g).1;obtain⟨y,B,F⟩:=n.getV (i:=j) (v:=vs[j]'(by lia)) (gG1 (by lia));obtain⟨K,q,r2⟩:=m.get (i:=j) (x:=vs[j]'(by lia)) (gG1 (by lia));rw[g]at q;cases q;exact(kU I hs eF (A:=A.in1) (by show A.units+1+60<cLine;lia) F t r2 C (E j y k B d)).1
 refine⟨fun w=>decide (∃j:Nat,a[j]?=some w/\bs[j]?=some true),fun w g=>?_,?_⟩
 ·by_cases z:∃j:Nat,a[j]?=some w/\bs[j]?=some true
  ·dsimp only;rw[decide_eq_true z];obtain⟨j,o,c⟩:=z;exact at_ j w true o c
  ·dsimp only;rw[decide_eq_false z];obtain⟨j,f⟩:=bo g;have p:j<a.length:=(gE1.mp f).1;have l:j<bs.length:=by lia
   have c:=gG1 l;cases d:bs[j]with
   |true=>rw[d]at c;exact absurd ⟨j,f,c⟩ z
   |false=>rw[d]at c;exact at_ j w false f c
 ·rw[bQ,bR,bR];constructor
  ·rintro⟨w,g,z⟩;obtain⟨j,o,c⟩:=of_decide_eq_true z;exact⟨true,gM1 c,rfl⟩
  ·rintro⟨k,d,z⟩;obtain⟨j,f⟩:=bo d;have p:j<bs.length:=(gE1.mp f).1;have l:j<a.length:=by lia
   have r:k=true:=z;subst r;exact⟨a[j],bS l,decide_eq_true ⟨j,gG1 l,f⟩⟩
theorem Ir(E:X.A.units+64<cLine):gh X (compareOp .In) (r2 X.K (b2 Fy)):=by
 intro pins s σ H x y u w Q I z o h;obtain⟨mu,S,d,e,r,F,C,r2,j,i,hc⟩:=nv h;obtain⟨⟨n,ys⟩,B,i⟩:=oB1.mp i;obtain⟨b,D,i⟩:=oM1.mp i;cases i;obtain⟨a,vs,rfl,q,t⟩:=d0 r2 j B;cases o;obtain⟨c,v,m,_⟩:=eH I q;obtain⟨f,l,p⟩:=CK I j (A:=X.A) (by lia) C z t v D;have g:EP X pins σ Q (.bool (c.toArray.any f)) s:=⟨.bl b,H,I,by rw[show c.toArray.any f=c.any f by simp,p];rfl,hc.now (.bl b) j⟩;cases n
 ·exact SeqAt.in_tupleAt f m (fun y k=>l y (by simpa using k)) g
 ·exact SeqAt.in_listAt f m (fun y k=>l y (by simpa using k)) g
theorem Bc(E:X.A.units+64<cLine):gh X (compareOp .NotIn) (r2 X.K (b2 kQ)):=by
 intro pins s σ H x y u w Q I z o h;obtain⟨mu,S,d,e,r,F,C,r2,j,i,hc⟩:=nv h;obtain⟨⟨n,ys⟩,B,i⟩:=oB1.mp i;obtain⟨b,D,i⟩:=oM1.mp i;cases i;obtain⟨a,vs,rfl,q,t⟩:=d0 r2 j B;cases o;obtain⟨c,v,m,_⟩:=eH I q;obtain⟨f,l,p⟩:=CK I j (A:=X.A) (by lia) C z t v D;have g:EP X pins σ Q (.bool (!c.toArray.any f)) s:=⟨.bl (!b),H,I,by rw[show c.toArray.any f=c.any f by simp,p];rfl,hc.now (.bl _) j⟩;cases n
 ·exact SeqAt.notIn_tupleAt f m (fun y k=>l y (by simpa using k)) g
 ·exact SeqAt.notIn_listAt f m (fun y k=>l y (by simpa using k)) g
theorem u8{K:Fg1}{H:Hp}{mu:List dy}{d:D}{v:V}(r:eB K H mu d v):ou d=decide (v = .non):=by
 cases r<;>simp[ou]
theorem Gp:gh X (compareOp .Is) (r2 X.K (b2 IF)):=by
 intro pins s σ H x y u w Q I f c h;obtain⟨mu,S,d,e,r,i,g,r2,b,a,hc⟩:=nv h;cases e with
 |non=>
  cases a;cases r2;refine D4 pins s σ H _ _ u w Q I f c ⟨rfl,?_⟩;rw[<- u8 g];exact hc.now (.bl _) b
 |_=>cases a
theorem D9:gh X (compareOp .IsNot) (r2 X.K (b2 B6)):=by
 intro pins s σ H x y u w Q I f c h;obtain⟨mu,S,d,e,r,i,g,r2,b,a,hc⟩:=nv h;cases e with
 |non=>
  cases a;cases r2;refine A7 pins s σ H _ _ u w Q I f c ⟨rfl,?_⟩;rw[<- u8 g];exact hc.now (.bl _) b
 |_=>cases a
end
noncomputable def eS:G1:=fun d S=>match d with
 | .str x=>if x.length<=dF then some (.int x.length,S)else none
 |_=>(dY S d).map fun p=>(.int p.2.length,S)
noncomputable def zy:G2:=fun d e S=>match e with
 | .int i=>(dY S d).bind fun p=>(sM p.2 i).map fun x=>(x,S)
 |_=>none
noncomputable def gTup:G1:=fun d S=>(dY S d).map fun p=>(.tup p.2,S)
noncomputable def jw:G3:=fun o i v S=>match o,i with
 | .ref n,.int k=>match S[n]? with
  |some (.lst xs)=>(vo xs.length k).map fun j=>(.non,S.set n (.lst (xs.set j v)))
  |_=>none
 |_,_=>none
noncomputable def nG:G1:=fun d S=>match d with
 | .int i=>some (.int i,S)
 | .bl b=>some (.int (if b then 1 else 0),S)
 |_=>none
noncomputable def B3:G2:=fun d e S=>match d,e with
 | .int i,.int j=>some (.int (if j>i then j else i),S)
 |_,_=>none
noncomputable def B2:G2:=fun d e S=>match d,e with
 | .int i,.int j=>some (.int (if j<i then j else i),S)
 |_,_=>none
section
variable{X:Cx}
theorem eZ:e0 X (.builtin "len") (rN X.K (b1 eS)):=by
 intro pins s σ H xs f Q I r h;obtain⟨x,mu,S,d,k,l,rfl,g,e,c,hc⟩:=DA h;unfold eS at c;split at c
 ·split at c
  ·rename_i z i;cases c;cases g;exact qi pins s σ H _ f Q I r ⟨_,rfl,i,hc.now (.int _) e⟩
  ·cases c
 ·obtain⟨⟨b,ys⟩,j,c⟩:=oM1.mp c;cases c;obtain⟨a,vs,rfl,q,t⟩:=d0 g e j;refine qj pins s σ H _ f Q I r ⟨a,vs,rfl,?_,?_⟩
  ·cases b
   ·exact .inr q
   ·exact .inl q
  ·rw[<- t.length];exact hc.now (.int _) e
theorem Cq{K:Fg1}{H:Hp}{mu:List dy}{ds:List D}{vs:List V}{i:Int}{d:D}(t:dW K H mu ds vs)(h:sM ds i=some d):∃v,sM vs i=some v/\eB K H mu d v:=by
 unfold sM at h ⊢;rw[<- t.length];obtain⟨j,c,h⟩:=oB1.mp h;obtain⟨v,b,a⟩:=t.get h;exact⟨v,by rw[c];exact b,a⟩
theorem HP:C0 X (r2 X.K (b2 zy)):=by
 intro value c pins s σ H x y v u Q I m k h g;obtain⟨mu,S,d,e,r,B,w,r2,j,f,hc⟩:=nv h;cases e with
 |int i=>
  obtain⟨⟨b,ys⟩,p,f⟩:=oB1.mp f;obtain⟨z,A,f⟩:=oM1.mp f;cases f;cases r2;obtain⟨a,vs,rfl,q,t⟩:=d0 w j p;obtain⟨n,o,l⟩:=Cq t A;cases b
  ·exact EW value c pins s σ H _ _ v u Q I m k ⟨a,vs,i,n,rfl,rfl,q,o,hc.now l j⟩ g
  ·exact BM value c pins s σ H _ _ v u Q I m k ⟨a,vs,i,n,rfl,rfl,q,o,hc.now l j⟩ g
 |_=>cases f
theorem fc:e0 X (.type "tuple") (rN X.K (b1 gTup)):=by
 intro pins s σ H xs g Q I r h;obtain⟨x,mu,S,d,k,m,rfl,j,c,f,hc⟩:=DA h;obtain⟨⟨b,ys⟩,i,f⟩:=oM1.mp f;cases f;obtain⟨a,vs,rfl,q,t⟩:=d0 j c i;refine nJ pins s σ H _ g Q I r ⟨a,vs,rfl,?_⟩;cases b
 ·exact .inr ⟨q,hc.now (.tup q t) c⟩
 ·exact .inl ⟨q,fun l e=>hc _ _ mu (Ext.fresh e) (.tup (jA.of d2) (t.ext (Ext.fresh e))) (c.fresh e)⟩
theorem F3:um X (rU X.K (b3 jw)):=by
 intro pins s σ H o i v C y u Q I g q m h;obtain⟨mu,S,ds,d,G,z,f,a,hc⟩:=h;cases z with
 |cons B A=>cases A with
  |cons l x=>cases x with
   |cons p r=>
    cases r;rename_i F D E;dsimp only[b3]at a;unfold jw at a;split at a
    ·rename_i n k;split at a
     ·rename_i xs e;obtain⟨j,w,a⟩:=oM1.mp a;cases a;cases B with
      |ref c=>
       cases l;obtain⟨vs,b,t⟩:=f.lst e c;refine x9 pins s σ H _ _ v C y u Q I g q m ⟨_,vs,k,j,rfl,rfl,b,by rw[<- t.length];exact w,?_⟩;exact hc _ mu (Ext.put b trivial (gM1 c)) (f.putL (t.set p j) c b)
     ·cases a
    ·cases a
theorem vQ:e0 X (.type "int") (rN X.K (b1 nG)):=by
 intro pins s σ H xs e Q I r h;obtain⟨x,mu,S,d,g,j,rfl,f,c,a,hc⟩:=DA h;cases d with
 |int i=>cases a;cases f;exact oJ pins s σ H _ e Q I r (.inl ⟨i,rfl,hc.now (.int _) c⟩)
 |bl b=>cases a;cases f;exact oJ pins s σ H _ e Q I r (.inr ⟨b,rfl,hc.now (.int _) c⟩)
 |_=>cases a
theorem He(hc:X.calm=true):e0 X (.builtin "max") (rN X.K (b2 B3)):=by
 intro pins s σ H xs f Q I r h;obtain⟨x,y,mu,S,d,e,i,j,rfl,g,r2,c,a,b⟩:=yd h;unfold B3 at a;split at a
 ·cases a;cases g;cases r2;exact xh hc pins s σ H _ f Q I r ⟨_,_,rfl,b.now (.int _) c⟩
 ·cases a
theorem Hd(hc:X.calm=true):e0 X (.builtin "min") (rN X.K (b2 B2)):=by
 intro pins s σ H xs f Q I r h;obtain⟨x,y,mu,S,d,e,i,j,rfl,g,r2,c,a,b⟩:=yd h;unfold B2 at a;split at a
 ·cases a;cases g;cases r2;exact xg hc pins s σ H _ f Q I r ⟨_,_,rfl,b.now (.int _) c⟩
 ·cases a
end
open PySem.SeqAt
open PySem.AutoSeq1 (wpAny_loadPart')
open PySem.MeetsSeq PySem.MeetsSeq2 PySem.MeetsSeq3
noncomputable def Aj(A:dA)(s:dw)(y x:dr)(b:Bool):Prop:=∀(prog:dz) (w:dB) (E:dr->dw->Prop) (Q:dr->dw->Prop),Q (.bool b) s->dG (model prog w) A (richCompare .Lt y x) Q E s
inductive sJ (A:dA)(s:dw):List dr->List dr->Bool->Prop
 |nn:sJ A s [] [] false
 |nc (y:dr) (ys:List dr):sJ A s [] (y::ys) true
 |cn (x:dr) (xs:List dr):sJ A s (x::xs) [] false
 |eq {x y:dr} {xs ys:List dr} {k:Bool} (e:EqAt A.in1 s x y true) (t:sJ A s xs ys k):sJ A s (x::xs) (y::ys) k
 |lt {x y:dr} {xs ys:List dr} {k:Bool} (e:EqAt A.in1 s x y false) (t:Aj A.in1 s x y k):sJ A s (x::xs) (y::ys) k
theorem Dc(l b:dy)(items items2:Array dr)(n B:Nat)(dd o:Option dy)(sl q:Array (Option dr))(c:Bool):
  Meets (Builtin.«tuple.__lt__» ⟨[.ref l,.ref b],[]⟩) (fun A R s=>s.heap.get? l=some {cls:=.type "tuple",dict:=dd,data:=.seq items n,slots:=sl}/\s.heap.get? b=some {cls:=.type "tuple",dict:=o,data:=.seq items2 B,slots:=q} /\
    sJ A s items.toList items2.toList c/\R (.ok (.ret (.bool c))) s):=
 .of_wp fun prog w A R s h=>by
  obtain⟨u,g,d,tk,v⟩:=s;obtain⟨E,D,z,h⟩:=h;have G:=AutoSeq1.sub_tuple_tuple
  wp_walk using wpAny_loadPart' E,wpAny_loadPart' D,wpAny_forIn_list _ (fun rest b s'=>b.1=none/\s'=⟨u,g,d,tk,v⟩ /\ ∃vs ws:List dr,rest=vs.zip ws/\sJ A ⟨u,g,d,tk,v⟩ vs ws c/\vs.length+items2.size=ws.length+items.size) _
  case turn=>
   rintro⟨y,x⟩ rest b s' ⟨k,rfl,vs,ws,f,m,a⟩;cases m with
   |nn=>cases f
   |nc _ _=>cases f
   |cn _ _=>cases f
   |eq e t=>
    rw[bT]at f;injection f with j i;injection j with p r;subst p r
    simp only[lC1]at a;refine wB1 (e prog w _ _ ?_)
    wp_walk
    exact⟨rfl,rfl,_,_,i,t,by lia⟩
   |lt e t=>
    rw[bT]at f;injection f with j i;injection j with p r;subst p r
    refine wB1 (e prog w _ _ ?_);have F:=t prog w
    wp_walk using F
    exact⟨_,rfl,by simpa using h⟩
  case fin=>
   rintro⟨b1,b2⟩ s' ⟨k,rfl,vs,ws,f,m,a⟩;simp only at k;subst k;have C:c=decide (items.size<items2.size):=by
    cases m with
    |nn=>simp only[bd]at a;exact(decide_eq_false (by lia)).symm
    |nc _ _=>simp only[bd,lC1]at a;exact(decide_eq_true (by lia)).symm
    |cn _ _=>simp only[bd,lC1]at a;exact(decide_eq_false (by lia)).symm
    |eq _ _=>rw[bT]at f;cases f
    |lt _ _=>rw[bT]at f;cases f
   rw[C]at h
   wp_walk
   exact⟨_,rfl,by simpa[Builtin.Tuple.tupleCompareSizes]using h⟩
  case h=>exact⟨rfl,rfl,items.toList,items2.toList,rfl,z,by simp;lia⟩
theorem zf(l b:dy)(items items2:Array dr)(n C:Nat)(dd z:Option dy)(sl B:Array (Option dr))(c:Bool)(k:Nat):
  ∀i:Nat,items.size-i=k->i<=items.size->i<=items2.size->Meets (Builtin.«list.__eq__.loop» ⟨[.ref l,.ref b,rawInt i,rawInt 0],[]⟩)
   (fun A R s=>s.heap.get? l=some {cls:=.type "list",dict:=dd,data:=.seq items n,slots:=sl}/\s.heap.get? b=some {cls:=.type "list",dict:=z,data:=.seq items2 C,slots:=B} /\
    sJ A s (items.toList.drop i) (items2.toList.drop i) c/\R (.ok (.ret (.bool c))) s):=by
 induction k with
 |zero=>
  intro i E u x prog w A R s h;obtain⟨H,g,d,tk,I⟩:=s;obtain⟨m,j,a,h⟩:=h
  wp_walk using wpAny_loadPart' m,wpAny_loadPart' j
  have o:items[((i:Nat):Int).toNat]?=none:=by simp;lia
  have v:items.toList.drop i=[]:=by simp;lia
  rw[v]at a;rw[o]
  wp_walk using wpAny_loadPart' m,wpAny_loadPart' j
  have D:c=decide (items.size<items2.size):=by
   cases h2:items2.toList.drop i with
   |nil=>
    rw[h2]at a;cases a;have:=congrArg List.length h2;simp at this;exact(decide_eq_false (by lia)).symm
   |cons y ys=>
    rw[h2]at a;cases a;have:=congrArg List.length h2;simp at this;exact(decide_eq_true (by lia)).symm
  show R (.ok (.ret (.bool (decide (items.size<items2.size))))) _;rw[<- D];exact h
 |succ k ih=>
  intro i E u x prog w A R s h;obtain⟨H,g,d,tk,I⟩:=s;obtain⟨m,j,a,h⟩:=h;have p:i<items.size:=by lia
  have v:items.toList.drop i=items[i]::items.toList.drop (i+1):=by simp[bU,p]
  have o:items[((i:Nat):Int).toNat]?=some items[i]:=by simp[p]
  have hc:((i:Int)+1)=((i+1:Nat):Int):=by push_cast;rfl
  rw[v]at a;rcases bV i items2.size with f|F
  ·have r:items2.toList.drop i=items2[i]::items2.toList.drop (i+1):=by simp[bU,f]
   have q:items2[((i:Nat):Int).toNat]?=some items2[i]:=by simp[f]
   rw[r]at a
   wp_walk using wpAny_loadPart' m,wpAny_loadPart' j
   rw[o,q];cases a with
   |eq e t=>
    refine wB1 (e prog w _ _ ?_)
    wp_walk
    rw[hc];exact⟨plainId_quiet plain_eq_loop _,wD1 entry_eq_loop (by rw[Around.under_plainId plain_eq_loop _];exact ih (i+1) (by lia) (by lia) (by lia) prog w A R _ ⟨m,j,t,h⟩)⟩
   |lt e t=>
    refine wB1 (e prog w _ _ ?_);have G:=t prog w
    wp_walk using wpAny_loadPart' m,wpAny_loadPart' j
    rw[o,q]
    wp_walk using G
    simpa using h
  ·have q:items2[((i:Nat):Int).toNat]?=none:=by simp;lia
   have r:items2.toList.drop i=[]:=by simp;lia
   rw[r]at a;cases a
   wp_walk using wpAny_loadPart' m,wpAny_loadPart' j
   rw[o,q]
   wp_walk using wpAny_loadPart' m,wpAny_loadPart' j
   show R (.ok (.ret (.bool (decide (items.size<items2.size))))) _;rw[decide_eq_false (by lia)];exact h
theorem EF(l b:dy)(items items2:Array dr)(n j:Nat)(dd a:Option dy)(sl e:Array (Option dr))(c:Bool):
  Meets (Builtin.«list.__lt__» ⟨[.ref l,.ref b],[]⟩) (fun A R s=>s.heap.get? l=some {cls:=.type "list",dict:=dd,data:=.seq items n,slots:=sl}/\s.heap.get? b=some {cls:=.type "list",dict:=a,data:=.seq items2 j,slots:=e} /\
    sJ A s items.toList items2.toList c/\R (.ok (.ret (.bool c))) s):=by
 intro prog w A R s h;obtain⟨m,g,d,tk,o⟩:=s;obtain⟨i,f,k,h⟩:=h;have p:=AutoSeq1.sub_list_list
 wp_walk using wpAny_loadPart' i,wpAny_loadPart' f
 exact⟨plainId_quiet plain_eq_loop _,wD1 entry_eq_loop (by rw[Around.under_plainId plain_eq_loop _];exact zf l b items items2 n j dd a sl e c _ 0 rfl (bh _) (bh _) prog w A R _ ⟨i,f,by simpa using k,h⟩)⟩
theorem Dv{A:dA}{s:dw}{k:Bool}{l b:dy}{xs ys:Array dr}{c:Bool}(u:SCo k s.heap l xs)(v:SCo k s.heap b ys)(y:A.units<cLine)(h:sJ A s xs.toList ys.toList c):Aj A s (.ref l) (.ref b) c:=fun prog w E Q q=>by
 cases k
 ·obtain⟨⟨t,dd,p,sl⟩,o,hc,n,j⟩:=id u;obtain⟨⟨m,f,g,i⟩,d,e,r,a⟩:=id v;simp only at hc j e a;subst hc j e a;exact richCompare_meets_room (op:=.Lt) ⟨_,o,rfl⟩ ⟨_,d,rfl⟩ PySem.F.slot_tuple_lt PySem.F.entry_tuple_lt (PySem.F.args_tuple_lt_2 _ _) (Dc l b xs ys n r dd f sl i c) ⟨o,d,h,show Value.bool c≠Value.notImplemented/\Q (.bool c) s from⟨(fun x=>nomatch x),q⟩⟩ y
 ·obtain⟨⟨t,dd,p,sl⟩,o,hc,n,j⟩:=id u;obtain⟨⟨m,f,g,i⟩,d,e,r,a⟩:=id v;simp only at hc j e a;subst hc j e a;exact richCompare_meets_room (op:=.Lt) ⟨_,o,rfl⟩ ⟨_,d,rfl⟩ PySem.F.slot_list_lt PySem.F.entry_list_lt (PySem.F.args_list_lt_2 _ _) (EF l b xs ys n r dd f sl i c) ⟨o,d,h,show Value.bool c≠Value.notImplemented/\Q (.bool c) s from⟨(fun x=>nomatch x),q⟩⟩ y
noncomputable def nD(f g:D->D->Option Bool):List D->List D->Option Bool
 |[],[]=>some false
 |[],_::_=>some true
 |_::_,[]=>some false
 |x::xs,y::ys=>(f x y).bind fun b=>if b=true then nD f g xs ys else g x y
noncomputable def HE:D->D->Option Bool
 | .int i,.int j=>some (decide (i<j))
 | .str x,.str y=>some (decide (x.cps.toList<y.cps.toList))
 |_,_=>none
noncomputable def jB(S:Sto):Nat->D->D->Option Bool
 |0,_,_=>none
 |n+1,d,e=>match HE d e with
  |some b=>some b
  |none=>match dY S d,dY S e with
   |some p,some q=>if p.1=q.1 then nD (gf S n) (jB S n) p.2 q.2 else none
   |_,_=>none
noncomputable def xp:G2:=fun d e S=>(jB S eF d e).map fun b=>(.bl b,S)
section
variable{X:Cx}{pins:List (dy×Obj)}{σ:L2.St}{H:Hp}{s:dw}{mu:List dy}{S:Sto}
theorem ze(I:Inv X pins σ H s)(hs:Sim X.K H mu S){n:Nat}{A:dA}(p:A.units+1+n<cLine)(ih:∀ {d e:D} {v w:V} {u z:dr} {b:Bool},eB X.K H mu d v->eB X.K H mu e w->dX v u->dX w z->jB S n d e=some b->Aj A.in1 s u z b):
  ∀{xs ys:List D} {vs ws:List V} {f zs:List dr} {b:Bool},dW X.K H mu xs vs->dW X.K H mu ys ws->ea vs f->ea ws zs->nD (gf S n) (jB S n) xs ys=some b->sJ A s f zs b
 :=by
 intro xs
 induction xs with
 |nil=>
  intro ys vs ws f zs b a r2 g c h;cases a;cases g;cases r2 with
  |nil=>cases c;cases h;exact .nn
  |cons _ _=>cases c;cases h;exact .nc _ _
 |cons x xs o=>
  intro ys vs ws f zs b a r2 g c h;cases a with
  |cons a l=>
   cases g with
   |cons j r=>
    cases r2 with
    |nil=>cases c;cases h;exact .cn _ _
    |cons r2 m=>
     cases c with
     |cons i p2=>
      rw[nD]at h;obtain⟨k,q,h⟩:=oB1.mp h;have eq:=(kU I hs n (A:=A.in1) p a r2 j i q).1;cases k with
      |true=>exact .eq eq (o l m r p2 h)
      |false=>exact .lt eq (ih a r2 j i h)
theorem tR(I:Inv X pins σ H s)(hs:Sim X.K H mu S):∀(n:Nat) {A:dA} {d e:D} {v w:V} {u z:dr} {b:Bool},A.units+n<cLine->eB X.K H mu d v->eB X.K H mu e w->dX v u->dX w z->jB S n d e=some b->Aj A s u z b
 |0,_,_,_,_,_,_,_,_,_,_,_,_,_,h=>by cases h
 |n + 1,A,d,e,v,w,u,z,b,W,j,m,i,o,h=>by
  rw[jB]at h;split at h
  ·rename_i k c;cases h;unfold HE at c;split at c
   ·cases c;cases j;cases m;obtain⟨t,rfl⟩:=i;obtain⟨r,rfl⟩:=o;exact fun prog w E Q q=>(PyProof.Rows.lt_int q:dG (model prog w) A (compareOp .Lt (.int _ t) (.int _ r)) Q E s)
   ·cases c;cases j;cases m;obtain⟨t,rfl⟩:=i;obtain⟨r,rfl⟩:=o;exact fun prog w E Q q=>(PyProof.Rows.lt_str q:dG (model prog w) A (compareOp .Lt (.str _ t) (.str _ r)) Q E s)
   ·cases c
  ·split at h
   ·rename_i p q M G;split at h
    ·rename_i L;obtain⟨P,xs⟩:=p;obtain⟨qb,ys⟩:=q;have l:P=qb:=L;subst l;obtain⟨a,vs,rfl,T,N⟩:=d0 j hs M;obtain⟨a2,R,rfl,y,J⟩:=d0 m hs G;cases i;cases o;obtain⟨O,B,F,_⟩:=eH I T;obtain⟨x,g,f,_⟩:=eH I y;refine Dv F f (by lia) ?_;have:=ze I hs (A:=A) (n:=n) (by lia) (fun U r2 K C h=>tR I hs n (A:=A.in1) (by show A.units+1+n<cLine;lia) U r2 K C h) N J B g h;simpa using this
    ·cases h
   ·cases h
theorem lj(k:X.A.units+64<cLine):gh X (compareOp .Lt) (r2 X.K (b2 xp)):=by
 intro pins s σ H x y u w Q I g f h;obtain⟨mu,S,d,e,r,l,j,r2,c,a,hc⟩:=nv h;obtain⟨b,i,a⟩:=oM1.mp a;cases a;exact tR I c eF (by show _+60<cLine;lia) j r2 g f i X.prog X.w X.xe _ ⟨.bl b,H,I,rfl,hc.now (.bl b) c⟩
end
inductive Ty where
 |int|bool|str|tuple|list|dict
 deriving DecidableEq
noncomputable def Ty.nm:Ty->String
 | .int=>"int" | .bool=>"bool" | .str=>"str" | .tuple=>"tuple" | .list=>"list" | .dict=>"dict"
noncomputable def BP (S:Sto)(T:Ty):D->Option Bool
 | .non=>some false
 | .bl _=>some (decide (T = .bool)||decide (T = .int))
 | .int _=>some (decide (T = .int))
 | .str _=>some (decide (T = .str))
 | .tup _=>some (decide (T = .tuple))
 | .rol _=>some (decide (T = .list))
 | .ref n=>match S[n]? with
  |some (.lst _)=>some (decide (T = .list))
  |some (.dct _)=>some (decide (T = .dict))
  |some (.dcT _)=>some (decide (T = .dict))
  |_=>none
 | .fn _=>none
noncomputable def mI(T:Ty)(m:FE):FE:=fun r S=>(m r S).bind fun p=>(BP p.2 T p.1).map fun b=>(.bl b,p.2)
section
variable{X:Cx}{pins:List (dy×Obj)}{σ:L2.St}{H:Hp}{s:dw}{mu:List dy}{S:Sto}{K:Fg1}
theorem BH(T:Ty):PySem.W.kitOne K (.type "NoneType") (.type T.nm)=some false:=by cases T<;>rfl
theorem EQ(T:Ty):PySem.W.kitOne K (.type "bool") (.type T.nm)=some (decide (T = .bool)||decide (T = .int)):=by cases T<;>rfl
theorem BJ(T:Ty):PySem.W.kitOne K (.type "int") (.type T.nm)=some (decide (T = .int)):=by cases T<;>rfl
theorem BG(T:Ty):PySem.W.kitOne K (.type "str") (.type T.nm)=some (decide (T = .str)):=by cases T<;>rfl
theorem BF(T:Ty):PySem.W.kitOne K (.type "tuple") (.type T.nm)=some (decide (T = .tuple)):=by cases T<;>rfl
theorem BI(T:Ty):PySem.W.kitOne K (.type "list") (.type T.nm)=some (decide (T = .list)):=by cases T<;>rfl
theorem vi(T:Ty):PySem.W.kitOne K (.type "dict") (.type T.nm)=some (decide (T = .dict)):=by cases T<;>rfl
theorem BO{T:Ty}{d:D}{v:V}{u:dr}{b:Bool}{Q:dr->dw->Prop}{E:dr->dw->Prop}(I:Inv X pins σ H s)(hs:Sim X.K H mu S)(r:eB X.K H mu d v)(f:dX v u)(h:BP S T d=some b)(q:∀ tk,Q (.bool b) {s with toks:=tk}):
  dG (model X.prog X.w) X.A (call (.builtin "isinstance") [u,.type T.nm]) Q E s:=by
 have g:∀{k:Bool} {a:dy} {vs:List V},ql X.K k H a vs->b=(match k with|true=>decide (T = .list)|false=>decide (T = .tuple))->dG (model X.prog X.w) X.A (call (.builtin "isinstance") [.ref a,.type T.nm]) Q E s:=fun{k a vs} j p=>by
  obtain⟨y,C,w,_⟩:=eH I j;cases k
  ·obtain⟨o,e,c,_⟩:=w;subst p;exact PySem.W.kia_one PySem.W.kitx_tuple I.kIn ⟨o,e,c⟩ (BF T) (fun z=>nomatch z) q
  ·obtain⟨o,e,c,_⟩:=w;subst p;exact PySem.W.kia_one PySem.W.kitx_list I.kIn ⟨o,e,c⟩ (BI T) (fun z=>nomatch z) q
 cases d with
 |non=>cases h;cases r;exact hF I f .non (BH T) q
 |bl k=>cases h;cases r;exact hF I f (.bl k) (EQ T) q
 |int i=>cases h;cases r;exact hF I f (.int i) (BJ T) q
 |str x=>cases h;cases r;exact hF I f (.str x) (BG T) q
 |tup xs=>
  cases h;obtain⟨a,vs,rfl,j,t⟩:=d0 (S:=S) r hs rfl;cases f;exact g j rfl
 |fn x=>cases h
 |rol xs=>
  cases h;obtain⟨a,vs,rfl,j,t⟩:=d0 (S:=S) r hs rfl;cases f;exact g j rfl
 |ref n=>
  rw[BP]at h;split at h
  ·rename_i xs e;cases h;obtain⟨a,vs,rfl,j,t⟩:=d0 (S:=S) r hs (by rw[dY,e]);cases f;exact g j rfl
  ·rename_i ks e;cases h;cases r with
   |ref l=>
    obtain⟨ws,m,_⟩:=hs.dct e l;exact hF I f (.dK m) (vi T) q
  ·rename_i ks e;cases h;cases r with
   | @ref _ a l=>
    cases(show u=Value.ref a from f);obtain⟨ws,m,_⟩:=hs.dcT e l;obtain⟨⟨_,_,o,_,_,A,B,_⟩,_⟩:=(show ew X.prog X.w H s.heap a (.ext (fO a ws))from I.hok a _ m);exact PySem.W.kia_one PySem.W.kitx_dict I.kIn ⟨o,A,B.1⟩ (vi T) (fun z=>nomatch z) q
  ·cases h
theorem z9(T:Ty):e0 X (.builtin "isinstance") (fun xs H Q=>∃x mu S d b,xs=[x,.ty T.nm]/\eB X.K H mu d x/\Sim X.K H mu S/\BP S T d=some b/\Q (.bl b) H):=by
 intro pins s σ H xs g Q I r h;obtain⟨x,mu,S,d,b,rfl,e,a,c,hc⟩:=h;obtain⟨u,i,rfl,f,rt⟩:=xL r;cases rt;exact BO I a e f c fun tk=>⟨.bl b,H,I.tok tk,rfl,hc⟩
theorem wz (T:Ty){e:Expr}{m:FE}{nm:Str}{p p2 pos:Pos}(hg:Gl X "isinstance")(hm:X.mg "isinstance"=none)(hg2:Gl X nm)(hm2:X.mg nm=none)(hv2:bootBuiltins nm=some (.type T.nm))(h:ME X e m)
  (hn:nm≠"__name__":=by decide) (hd:(nm == ("__debug__":Str))=false:=by decide)
  (hs1:dE [e,.Name nm p2] X.env=(false,eval e X.env)::dE [.Name nm p2] X.env:=by rfl) (hs2:dE [.Name nm p2] X.env=(false,eval (.Name nm p2) X.env)::dE [] X.env:=by rfl)
  (hpl:(backTo pos (dE [.Name nm p2] X.env)).any (·.1)=false:=by rfl):ME X (.Call (.Name "isinstance" p) [e,.Name nm p2] [] pos) (mI T m):=
 eU (ms (z9 T) hg hm (by decide+kernel) (jd h (jd (A6 (v:=.ty T.nm) hg2 hm2 hv2 rfl hn hd) my hs2) hs1) (by decide) (by decide) hs1 hpl) <| by
  rintro σ H Q ⟨r,mu,S,d,o,k,f,hm,hc⟩;obtain⟨⟨a,n⟩,g,hm⟩:=oB1.mp hm;obtain⟨b,l,hm⟩:=oM1.mp hm;cases hm;refine⟨r,mu,S,a,_,k,f,g,fun v H1 mu1 i j c=>?_⟩;exact⟨v,mu1,_,a,b,rfl,j,c,l,hc _ H1 mu1 i (.bl b) c⟩
end
abbrev FO:=Ev->Sto->Option (Option Int×Sto)
noncomputable def Jx(K:Fg1)(m:FO):TO:=fun σ H Q=>∃r mu S o S',fj K H mu r σ/\Sim K H mu S/\m r S=some (o,S') /\ ∀H' mu',Ext mu mu' H H'->Sim K H' mu' S'->Q o H'
abbrev MO(X:Cx)(e:Option Expr)(m:FO):Prop:=PO X e (Jx X.K m)
noncomputable def mG:FO:=fun _ S=>some (none,S)
noncomputable def rr(m:FE):FO:=fun r S=>(m r S).bind fun p=>match p.1 with
 | .int i=>some (some i,p.2)
 |_=>none
noncomputable def sx(xs:List D)(lo hi:Option Int):List D:=(xs.drop (HT.sIx xs.length 0 lo)).take (HT.sIx xs.length xs.length hi-HT.sIx xs.length 0 lo)
section
variable{X:Cx}
theorem Bm:MO X none mG:=by
 rintro pins s σ H Q I ⟨r,mu,S,o,d,c,a,b,hc⟩;cases b;exact AX pins s σ H Q I (hc H mu (.refl _ _) a)
theorem Bl{e:Expr}{m:FE}(h:ME X e m):MO X (some e) (rr m):=by
 rintro pins s σ H Q I ⟨r,mu,S,o,l,j,b,a,hc⟩;obtain⟨⟨d,n⟩,c,a⟩:=oB1.mp a;cases d with
 |int i=>
  cases a;refine AW h pins s σ H Q I ⟨r,mu,S,_,_,j,b,c,fun v H1 mu1 f g k=>?_⟩;cases g;exact⟨i,rfl,hc H1 mu1 f k⟩
 |_=>cases a
theorem vL{K:Fg1}{H:Hp}{mu:List dy}{ds:List D}{vs:List V}(t:dW K H mu ds vs)(lo hi:Option Int):dW K H mu (sx ds lo hi) (sw vs lo hi):=by
 unfold sx sw;rw[<- t.length];exact(t.drop _).take _
noncomputable def FP(ta:TA):TE:=fun σ H Q=>ta σ H fun vs H1=>∃j:Int,vs=[.int j] /\ ∀p,H1 p=none->Q (.ref p) (upd H1 p (.rng 0 j))
theorem wo {a:Expr}{ta:TA}{p pos:Pos}(hg:Gl X "range")(hm:X.mg "range"=none)(ha:PA X [a] ta)(hs:dE [a] X.env=[(false,eval a X.env)]:=by rfl):PE X (.Call (.Name "range" p) [a] [] pos) (FP ta):=by
 intro pins s σ H Q I h;refine Call_ (iQ I hg hm boot_range (PyProof.Rows.callWith_type1 (e6 (ha pos pins s σ H _ I h) fun k i ⟨vs,H1,c,g,f⟩=>?_) hs rfl));obtain⟨j,e,q⟩:=f;subst e;cases g with
 |cons r d=>
  cases d;obtain⟨t,rfl⟩:=r;refine call_range_1 ⟨.ref i.heap.objs.size,_,c.laid (fun b o e=>hP1 _ e) (nR1 _) (o:=.rng 0 j) ?_,rfl,q _ (c.hok.fresh (nR1 _))⟩;exact⟨_,_,_,hS1 _ rfl⟩
noncomputable def lE(i:Int):Nat->List V
 |0=>[]
 |n+1=>.int i::lE (i+1) n
theorem mi:∀(n:Nat) (i:Int),(lE i n).length=n
 |0,_=>rfl
 |n+1,i=>by rw[lE,lC1,mi n]
theorem q3:∀(n:Nat) (i:Int) (k:Nat) (v:V),(lE i n)[k]?=some v->v = .int (i+k)
 |0,i,k,v,h=>by simp[lE]at h
 |n+1,i,0,v,h=>by simp[lE]at h;rw[<- h];simp
 |n+1,i,k+1,v,h=>by
  rw[lE,gC1]at h;rw[q3 n (i+1) k v h,show i+1+(k:Int)=i+((k+1:Nat):Int) by push_cast;lia]
theorem q0{K:Fg1}{H:Hp}{mu:List dy}:∀(n:Nat) (i:Int),dW K H mu (gB i n) (lE i n)
 |0,_=>.nil
 |n+1,i=>.cons (.int i) (q0 n (i+1))
theorem ux:∀{xs:List V} {a:List dr},xs.length=a.length->(∀(i:Nat) x u,xs[i]?=some x->a[i]?=some u->dX x u)->ea xs a
 |[],[],_,_=>.nil
 |x::xs,u::a,h,f=>.cons (f 0 x u rfl rfl) (ux (by simpa using h) fun i y w h1 h2=>f (i+1) y w (by simpa using h1) (by simpa using h2))
 |[],_::_,h,_=>by simp at h
 |_::_,[],h,_=>by simp at h
theorem Cj(hc:X.calm=true):e0 X (.type "list") (fun xs H Q=>∃p i j,xs=[.ref p]/\H p=some (.rng i j)/\(-(2^62)<=i/\i<2^62 /\ -(2^62)<=j/\j<2^62)/\(j-i).toNat<=2^20 /\ ∀l,H l=none->Q (.ref l) (upd H l (.lst (lE i (j-i).toNat)))):=by
 intro pins s σ H xs F Q I r h;obtain⟨p,i,j,rfl,B,⟨h1,h2,w,z⟩,f,q⟩:=h;obtain⟨u,rfl,D⟩:=iG r;cases D;obtain⟨t,u,v,e⟩:=I.hok p _ B;have g:(((j-i).toNat:Nat):Int)=Builtin.Range.rangeSize i j 1:=by rw[rangeSize_one];split<;>lia
 refine call_list_range (n:=(j-i).toNat) (I.ok.hd hc) e (small_one h1 h2 w z) g.symm (aC f (by decide)) fun h' tk c y o m hi=>?_;obtain⟨d,a⟩:=hi;have b:ea (lE i (j-i).toNat) c.toList:=ux (by rw[mi];simpa using d.symm) fun k x u E C=>by
  rw[q3 _ _ _ _ E];obtain⟨A,rfl⟩:=a k u (by simpa using C);exact⟨A,by rw[Int.mul_one]⟩
 refine⟨.ref s.heap.objs.size,_,I.laid (t':=tk) o (nR1 _) (show ew X.prog X.w _ h' _ (.lst (lE i (j-i).toNat))from⟨?_,c.toList,y,b,by simpa using m⟩),rfl,q _ (I.hok.fresh (nR1 _))⟩;rw[mi];exact aC f (by decide)
noncomputable def uL(i j:Int):Bool:=decide (-(2^62)<=i)&&decide (i<2^62)&&decide (-(2^62)<=j)&&decide (j<2^62)&&decide ((j-i).toNat<=2^20)
noncomputable def za(m:FA):FE:=fun r S=>(m r S).bind fun p=>match p.1 with
 |[.int j]=>if uL 0 j=true then some (.ref p.2.length,p.2++[.lst (gB 0 j.toNat)])else none
 |_=>none
theorem q7{i j:Int}(h:uL i j=true):(-(2^62)<=i/\i<2^62 /\ -(2^62)<=j/\j<2^62)/\(j-i).toNat<=2^20:=by
 unfold uL at h;simp only[bA1,decide_eq_true_eq]at h;obtain⟨⟨⟨⟨h1,h2⟩,b⟩,a⟩,c⟩:=h;exact⟨⟨h1,h2,b,a⟩,c⟩
theorem EG{K:Fg1}{mu:List dy}{H H1:Hp}{S1:Sto}{i j:Int}{Q:VK}{mu1:List dy}(c:Ext mu mu1 H H1)(a:Sim K H1 mu1 S1)(hc:nN K mu H (.ref S1.length) (S1++[.lst (gB i (j-i).toNat)]) Q){p l:dy}(hp:H1 p=none)(b:upd H1 p (.rng i j) l=none):
  Q (.ref l) (upd (upd H1 p (.rng i j)) l (.lst (lE i (j-i).toNat))):=
 hc _ _ (mu1++[l]) ((c.trans (Ext.fresh hp)).trans (Ext.new_ b)) (.ref (gi a.len l)) ((a.fresh hp).newL (q0 _ _) b)
theorem wy {a:Expr}{m:FA}{f p2 b c:Pos}(hc:X.calm=true)(hg:Gl X "range")(hm:X.mg "range"=none)(hg2:Gl X "list")(hm2:X.mg "list"=none)(ha:MA X [a] m)(hs:dE [a] X.env=[(false,eval a X.env)]:=by rfl)
  (hs2:dE [.Call (.Name "range" f) [a] [] b] X.env=[(false,eval (.Call (.Name "range" f) [a] [] b) X.env)]:=by rfl):ME X (.Call (.Name "list" p2) [.Call (.Name "range" f) [a] [] b] [] c) (za m):=
 eU (kH (Cj hc) hg2 hm2 (by decide+kernel) (jd (wo hg hm ha hs) my hs2) (by decide) (by decide) hs2) <| by
  rintro σ H Q ⟨r,mu,S,d,u,s,hs,hm,e⟩;obtain⟨⟨ds,w⟩,n,hm⟩:=oB1.mp hm;dsimp only at hm;split at hm
  ·rename_i j;split at hm
   ·rename_i g;cases hm;refine⟨r,mu,S,_,_,s,hs,n,fun vs H1 mu1 o q t=>?_⟩;obtain⟨v,rfl,h⟩:=mj q;cases h;refine⟨j,rfl,fun p k=>⟨p,0,j,rfl,d2,(q7 g).1,(q7 g).2,fun l i=>EG o t (by rw[Int.sub_zero];exact e) k i⟩⟩
   ·cases hm
  ·cases hm
end
noncomputable def kg:G2:=fun o v S=>match o with
 | .ref n=>match S[n]? with
  |some (.lst xs)=>if xs.length<dF then some (.non,S.set n (.lst (xs++[v])))else none
  |_=>none
 |_=>none
noncomputable def zx:G2:=fun o i S=>match o,i with
 | .ref n,.int k=>match S[n]? with
  |some (.lst xs)=>if-(2^63)<=k/\k<2^63 then(vo xs.length k).bind fun j=>(xs[j]?).map fun y=>(y,S.set n (.lst (xs.eraseIdx j)))else none
  |_=>none
 |_,_=>none
noncomputable def qp (f:FN)(o:FE)(a:FA):FE:=fun r S=>(o r S).bind fun p=>match p.1 with
 | .ref n=>match p.2[n]? with
  |some (.lst _)=>(a r p.2).bind fun q=>f (p.1::q.1) q.2
  |_=>none
 |_=>none
section
variable{X:Cx}
theorem FK:CZ X "list.append" (fun x xs H Q=>rN X.K (b2 kg) (x::xs) H Q):=by
 intro pins s σ H x xs v k Q I j g h;obtain⟨p,y,mu,S,d,e,r,q,m,o,r2,f,a,hc⟩:=yd h;cases m;cases d with
 |ref n=>
  rw[kg]at a;split at a
  ·rename_i ys l;split at a
   ·rename_i i;cases a;cases o with
    |ref b=>
     obtain⟨vs,c,t⟩:=f.lst l b;refine n9 pins s σ H _ [y] v k Q I j g ⟨_,vs,y,rfl,rfl,c,by rw[<- t.length];exact i,?_⟩;exact hc _ _ mu (Ext.put c trivial (gM1 b)) .non (f.putL (t.append (.cons r2 .nil)) b c)
   ·cases a
  ·cases a
 |_=>cases a
theorem FH:CZ X "list.pop" (fun x xs H Q=>rN X.K (b2 zx) (x::xs) H Q):=by
 intro pins s σ H x xs v q Q I p m h;obtain⟨D,y,mu,S,d,e,F,E,A,B,r2,g,a,hc⟩:=yd h;cases A;unfold zx at a;split at a
 ·rename_i n k;split at a
  ·rename_i ys r;split at a
   ·rename_i i;obtain⟨j,l,a⟩:=oB1.mp a;obtain⟨z,C,a⟩:=oM1.mp a;cases a;cases B with
    |ref b=>
     cases r2;obtain⟨vs,f,t⟩:=g.lst r b;obtain⟨w,o,c⟩:=t.get C;refine yX pins s σ H _ [.int k] v q Q I p m ⟨_,vs,k,j,w,rfl,rfl,f,i.1,i.2,?_,o,?_⟩
     ·rw[<- t.length];exact(pU l).1
     ·have x:=Ext.put (u:=.lst (vs.eraseIdx j)) f trivial (gM1 b);exact hc _ _ mu x (c.ext x) (g.putL (t.eraseIdx j) b f)
   ·cases a
  ·cases a
 ·cases a
theorem y4 {o e:Expr}{es:List Expr}{m:FE}{a:FA}{f:FN}{name:Str}{apos cpos:Pos}{id:String}(slot:Slot "list" name id)(hty:typeOf (.builtin id)=pure (.type "method_descriptor"))(hm:CZ X id (fun x xs H Q=>rN X.K f (x::xs) H Q))(ho:ME X o m)(ha:MA X (e::es) a)
  (hbase:attributeBase o name X.env (eval o X.env)=eval o X.env:=by rfl)
  (hfew:((backTo cpos (dE (e::es) X.env)).all (fun x=> !x.1)&&(backToKw cpos (keywordEach [] X.env)).all (fun x=>x.1.isSome)&&decide ((e::es).length+([]:List Keyword).length+(if([]:List Keyword).isEmpty then 0 else 1)<30))=true:=by rfl)
  (hline:(apos.endLine == cpos.line)=true:=by rfl) (hs:dE (e::es) X.env=(false,eval e X.env)::dE es X.env:=by rfl) (hplain:(backTo cpos (dE es X.env)).any (·.1)=false:=by rfl):
  ME X (.Call (.Attribute o name apos) (e::es) [] cpos) (qp f m a):=
 eU (Gg PySem.F.plainAttrs_list slot hty hm ho ha hbase hfew hline hs hplain) <| by
  rintro σ H Q ⟨r,mu,S,d,C,g,hs,hm,hc⟩;obtain⟨⟨i,q⟩,w,hm⟩:=oB1.mp hm;refine⟨r,mu,S,i,q,g,hs,w,fun v H1 mu1 l k p=>?_⟩;cases i with
  |ref n=>
   dsimp only at hm;split at hm
   ·rename_i xs u;obtain⟨⟨ds,j⟩,E,hm⟩:=oB1.mp hm;refine⟨?_,r,mu1,q,ds,j,g.ext l,p,E,fun vs H2 c h r2 D=>?_⟩
    ·cases k with
     |ref z=>
      obtain⟨vs,s,t⟩:=p.lst u z;exact .inl ⟨rfl,vs,lJ.of s⟩
    ·exact⟨c,j,.ref n::ds,d,C,.cons (k.ext h) r2,D,hm,fun B A b y=>hc B A b ((l.trans h).trans y)⟩
   ·cases hm
  |_=>cases hm
end
theorem AT{X:Cx}(hc:X.calm=true){elt tg iter:Expr}{ifs:List Expr}{rest:List Comprehension}{scope:dL}{pos n O:Pos}{y:Str}{i:Nat}{T:List Str}{keep:List Nat}{t:List (Str×dy)}{wi:TI}{g:TG}{ti:TT}{tb:dy->TS}{emit:dr->Env->Sem Unit}(Z:swapsWith (.ListComp elt (⟨tg,iter,ifs,0⟩::rest) scope pos) (some (.Name y O)) n.line X.env=pure true)(eq:∀it A k,compTurn (.ListComp elt (⟨tg,iter,ifs,0⟩::rest) scope pos) 0 it A k=qw iter.pos tg ifs it k (emit A k) (.compLoop (.ListComp elt (⟨tg,iter,ifs,0⟩::rest) scope pos) 0 it A k))(C:FB X scope T keep)(G:iX X.env.cells scope.names []=some t)(hi:PI X tg iter wi)(hb:∀s H d p,PG (cxC X scope t T keep s H d) tg g/\nL (cxC X scope t T keep s H d) ifs ti/\PU (cxC X scope t T keep s H d) (emit (.ref p) (cxC X scope t T keep s H d).env) (tb p))(hN:X.N.Nodup)(hy:X.N[i]?=some y)(hx:uo X.env.scope y)(hf:X.fn y=true\/X.env.scope.names.lookup y=some .local)(hs:∀x,foldedSetIterable iter X.env x=pure x:=by intro _;rfl):
  PS X (.Assign [.Name y O] (.ListComp elt (⟨tg,iter,ifs,0⟩::rest) scope pos) n) (xW (uF T.length keep wi g ti tb) (vx i)):=by
 intro pins s σ H D I h;rw[exec_Assign_Name_used _ _ _ _ Z];refine wB1 (wpAny_standAt (wB1 ?_));show dG _ X.A (do let _<-comprehension (.ListComp elt (⟨tg,iter,ifs,0⟩::rest) scope pos) scope X.env _ (newList []) false (eval iter X.env) (some (assign (.Name y O) X.env))) _ _ s;refine wB1 (wpAny_mono (wpAny_comprehension_free (use:=some (assign (.Name y O) X.env)) (Q:=fun _ s'=>SP X pins D .next s') rfl hs (z0 G) C.kind C.names ?_) (fun _ s' hq=>wP1 (wP1 hq)) fun _ _ e=>e);refine e6 (hi pins s σ H _ I h) fun v s1 h1=>e6 h1 fun itv a h2=>?_;obtain⟨it,d,tn,J,H2,rfl,I2,TT,F,f2,q2⟩:=h2;refine wO1 ?_;have w:Inv X pins σ (upd H2 a.heap.objs.size (.lst [])) {a with heap:=a.heap.push {cls:=.type "list",data:=.seq ([]:List dr).toArray}}:=I2.lnew (t':=a.toks) .nil (bh _);have old:∀b∈d,∃o,a.heap.get? b=some o:=fun b hb=>by
  obtain⟨o,e,_⟩:=TT.obj 0 a.heap F b hb;exact⟨o,e⟩
 have Y:∀b∈d,b≠a.heap.objs.size:=fun b hb z=>by
  obtain⟨o,e⟩:=old b hb;have:=hL1 e;rw[z]at this;exact az _ this
 have R:∀b∈d,jl X pins (upd H2 a.heap.objs.size (.lst [])) b:=fun b hb=>⟨by rw[dR (Y b hb)];exact(f2 b hb).1,(f2 b hb).2⟩;have o3:∀b∈d,∃o,({a with heap:=a.heap.push {cls:=.type "list",data:=.seq ([]:List dr).toArray}}:dw).heap.get? b=some o:=fun b hb=>by
  obtain⟨o,e⟩:=old b hb;exact⟨o,hP1 _ e⟩
 have N:=rT w C G R o3;obtain⟨hg,V,he⟩:=hb {a with heap:=a.heap.push {cls:=.type "list",data:=.seq ([]:List dr).toArray}} (upd H2 a.heap.objs.size (.lst [])) d a.heap.objs.size;refine jp ?_;have f4:∀b∈d,jl (cxC X scope t T keep {a with heap:=a.heap.push {cls:=.type "list",data:=.seq ([]:List dr).toArray}} (upd H2 a.heap.objs.size (.lst [])) d) [] (upd H2 a.heap.objs.size (.lst [])) b:=fun b hb=>
  ⟨(R b hb).1,(N.ok.exf b hb).1,N.ok.exfs b hb,.inl hb,(N.ok.exf b hb).2,fun p M=>absurd (show p∈([]:List (dy×Obj))from M) (by simp)⟩
 have E:tn 0 (pushCells ((a.heap.push {cls:=.type "list",data:=.seq ([]:List dr).toArray}).push {cls:=.type "dict",data:=.dict #[]}) scope.names):=
  TT.keep 0 a.heap _ F fun b hb o e=>pushCells_keeps scope.names _ b o (hP1 _ (hP1 _ e))
 have l:=oH (X:=cxC X scope t T keep {a with heap:=a.heap.push {cls:=.type "list",data:=.seq ([]:List dr).toArray}} (upd H2 a.heap.objs.size (.lst [])) d) rfl hc (eq (.ref it) (.ref a.heap.objs.size) _) TT hg V he N E f4
  (q2 a.heap.objs.size (I2.hok.fresh (nR1 _)))
 refine codeAny_mono (codeAny_compStart_list l (TT.self X.A 0 _ _ _ E l)) fun r s' hr=>?_;cases r with
 |error e=>exact hr.elim
 |ok f=>
  obtain⟨σ',H',B,q'⟩:=hr;have J1:Inv X pins σ H' s':=w.call' (s':=s') (ch:=d) B.os B.base B.hok B.bare fun b hb=>(R b hb).2.2.2 |> fun z=>⟨z.1,(R b hb).2.1,z.2.1,z.2.2⟩
  -- the block's own dict is kept aside
  obtain⟨m,hn,_⟩:=id B.loc;obtain⟨P,es,ep,eC,dC,rC⟩:=id hn;have hCz:(a.heap.push {cls:=.type "list",data:=.seq ([]:List dr).toArray}).get? (a.heap.push {cls:=.type "list",data:=.seq ([]:List dr).toArray}).objs.size=none:=Heap.get?_none_of_le (nR1 _);have K:(a.heap.push {cls:=.type "list",data:=.seq ([]:List dr).toArray}).objs.size≠X.env.locals:=fun z=>by
   have:=w.lt;rw[<- z]at this;exact az _ this
  have U:H' (a.heap.push {cls:=.type "list",data:=.seq ([]:List dr).toArray}).objs.size=none:=B.free;have J2:Inv X (pins++[((a.heap.push {cls:=.type "list",data:=.seq ([]:List dr).toArray}).objs.size,P)]) σ H' s':=J1.pins_of fun p M=>by
   rcases aG.mp M with z|z
   ·exact J1.pin p (mA1 _ z)
   ·have z':p=((a.heap.push {cls:=.type "list",data:=.seq ([]:List dr).toArray}).objs.size,P):=by simpa using z
    subst z';exact⟨eC,U,K,w.nofs (nR1 _),fun v q=>by rw[dC]at q;cases q⟩
  refine e6 (uS hN hy hx hf _ s' σ H' (.ref a.heap.objs.size) (.ref a.heap.objs.size) D.nx J2 rfl q') fun _ s5 ⟨L,H5,J5,q5⟩=>?_;obtain⟨e5,n5,_⟩:=J5.pin ((a.heap.push {cls:=.type "list",data:=.seq ([]:List dr).toArray}).objs.size,P) (mA1 _ (mA1 _ mS1));refine⟨m,⟨P,es,ep,e5,dC,rC⟩,fun h' S=>?_⟩;have J6:Inv X pins L H5 s5:=J5.unpinned;refine⟨L,H5,J6.turned (t':=s5.toks) (fun b o hb e=>(S.2 b hb).trans e) n5 K (.inr ?_) (fun x c u z=>?_) (fun p M z=>?_),q5⟩
  ·exact w.sz
  ·obtain⟨w',zc⟩:=w.cell x c u;have j:=zc.lt;rw[z]at j;exact az _ j
  ·obtain⟨W,_⟩:=w.pin p M;have j:=hL1 W;rw[z]at j;exact az _ j
section
variable{X:Cx}
theorem Ff{K:Fg1}{te:TE}{m:FE}{i:Nat}(hm:∀ σ H Q,tM K m σ H Q->te σ H Q){E:i7}{σ:L2.St}{H:Hp}(h:uE K (d6 m (gN i)) E σ H):xW te (vx i) E σ H:=by
 obtain⟨r,mu,S,d,k,h1,h2,f,g⟩:=pS h;refine hm _ _ _ ⟨r,mu,S,d,k,h1,h2,f,fun v H' mu' l o p=>?_⟩;obtain⟨r2,a,u,q,t,s,j,c,e,n,b⟩:=g v H' mu' l o p;cases n;exact b _ H' a (.refl _ _) (j.set e) c
theorem mv (i:Nat){x:Str}{pos:Pos}(hN:X.N[i]? = some x:=by rfl)(hv:Vis X.env.scope x:=by first | exact Or.inl rfl | exact Or.inr (Or.inl rfl) | exact Or.inr (Or.inr rfl))(hd:(x == ("__debug__":Str))=false:=by decide)(hcd:(x == ("__classdict__":Str))=false:=by decide):
  ME X (.Name x pos) (mV i):=Ew i hN hv hd hcd
end
noncomputable def fH(P:dz)(w:dB)(K:Fg1)(mg:Str->Option dr)(base:dH)(k:Nat)(x:Str)(n:Nat)(m:FN):Prop:=
 ∃(f:dy) (fd:dI) (ps:List Str),k3 P w K mg base sK k f fd ps (Am K n m)/\kA K fd ps []/\wK1 K (.ref f)=true/\mg x=some (.ref f)
theorem Ez {X:Cx}{k k' n:Nat}{x:Str}{m:FN}{p pos:Pos}{e:Expr}{es:List Expr}{a:FA}(h:fH X.prog X.w X.K X.mg X.base k x n m)(hr:fF k' X.A)(hk:k<=k')(hg:Gl X x)(ha:MA X (e::es) a)(hdb:(x == ("__debug__":Str))=false:=by decide)
  (he:dE (e::es) X.env=(false,eval e X.env)::dE es X.env:=by rfl) (hpl:(backTo pos (dE es X.env)).any (·.1)=false:=by rfl):ME X (.Call (.Name x p) (e::es) [] pos) (mN (dS n m) a):=by
 obtain⟨f,fd,ps,F,b,c,d⟩:=h;exact Bv F (hr.mono hk) hg d c b ha hdb he hpl
theorem D0{P:dz}{w:dB}{K:Fg1}{mg:Str->Option dr}{base:dH}{x a:Str}{st:dJ}{f:dy}{fd:dI}{N ps:List Str}{k n:Nat}{b:FS}(F:xu K x a st f fd)(hb:kA K fd ps [])(hm:mg x=some (.ref f))(S:fX N ps (d3 st))(hn:ps.length=n)(c:∀(e:dr) (A:dA) (d:List Env) (s:dw) (H:Hp) (E:XK),fF k (A.deeper (envOfC a (d3 st) s.heap.objs.size f e)) ->
   xk (lH sK P w K mg base N a (d3 st) f e A d s H E).nox (fb st) b):fH P w K mg base (k+1) x n (iy N.length b):=by
 subst hn;exact⟨f,fd,ps,GV F S c,hb,F.kp,hm⟩
noncomputable def CGl(K:Fg1)(mg:Str->Option dr)(x:Str)(d:D):Prop:=∃(v:V) (u:dr),mg x=some u/\dX v u /\ ∀H mu,eB K H mu d v
theorem Bu {X:Cx}{x:Str}{d:D}{pos:Pos}(h:CGl X.K X.mg x d)(hg:Gl X x)(hd:(x == ("__debug__":Str))=false:=by decide):ME X (.Name x pos) (mC d):=by
 obtain⟨v,u,a,r,q⟩:=h;exact y7 d (A2 hg a r hd) q
noncomputable def fA:List Bool->Ev->Ev
 |true::bs,o::r=>o::fA bs r
 |false::bs,_::r=>none::fA bs r
 |[],_::r=>none::fA [] r
 |_,[]=>[]
noncomputable def jL:Ev->Bool
 |[]=>true
 |none::r=>jL r
 |some d::r=>d.und 0&&jL r
noncomputable def oe (ki ko:List Bool)(b:FS):FS:=fun r S=>if jL (fA ki r)=true then
  (b (fA ki r) []).bind fun p=>match p.1 with
   | .rt d=>if d.und 0=true then some (.rt d,[],S)else none
   |f=>if jL (fA ko p.2.1)=true then some (f,fA ko p.2.1,S)else none
 else none
theorem je:∀(bs:List Bool) (r:Ev),(fA bs r).length=r.length
 |true::bs,o::r=>congrArg (· + 1) (je bs r)
 |false::bs,o::r=>congrArg (· + 1) (je bs r)
 |[],o::r=>congrArg (· + 1) (je [] r)
 |[],[]=>rfl
 |true::_,[]=>rfl
 |false::_,[]=>rfl
theorem jf:∀(bs:List Bool) (r:Ev) (i:Nat) (d:D),(fA bs r)[i]?=some (some d)->r[i]?=some (some d)
 |true::bs,o::r,0,d,h=>h
 |true::bs,o::r,i+1,d,h=>by
  rw[gC1];exact jf bs r i d (by rw[fA,gC1]at h;exact h)
 |false::bs,o::r,0,d,h=>by simp[fA]at h
 |false::bs,o::r,i+1,d,h=>by
  rw[gC1];exact jf bs r i d (by rw[fA,gC1]at h;exact h)
 |[],o::r,0,d,h=>by simp[fA]at h
 |[],o::r,i+1,d,h=>by
  rw[gC1];exact jf [] r i d (by rw[fA,gC1]at h;exact h)
 |[],[],i,d,h=>by simp[fA]at h
 |true::_,[],i,d,h=>by simp[fA]at h
 |false::_,[],i,d,h=>by simp[fA]at h
theorem kF:∀(r:Ev) (i:Nat) (d:D),jL r=true->r[i]?=some (some d)->d.und 0=true
 |none::r,0,d,_,h=>by simp at h
 |none::r,i+1,d,hs,h=>kF r i d hs (by simpa using h)
 |some e::r,0,d,hs,h=>by
  rw[jL,bA1]at hs;simp at h;subst h;exact hs.1
 |some e::r,i+1,d,hs,h=>by
  rw[jL,bA1]at hs;exact kF r i d hs.2 (by simpa using h)
theorem fj.mask{K:Fg1}{H:Hp}{mu mu':List dy}{r:Ev}{σ:L2.St}{bs:List Bool}(h:fj K H mu r σ)(hs:jL (fA bs r)=true):fj K H mu' (fA bs r) σ:=
 ⟨by rw[je];exact h.len,fun i d e=>by
  obtain⟨v,c,b⟩:=h.val i d (jf bs r i d e);exact⟨v,c,b.cut (n:=0) (fun k a=>absurd a (bv _)) (kF _ i d hs e)⟩⟩
theorem y8{K:Fg1}{m t:List Bool}{b:FS}{E:i7}{σ:L2.St}{H:Hp}(h:uE K (oe m t b) E σ H):uE K b E σ H:=by
 obtain⟨r,mu,S,f,B,C,A,j,c,hc⟩:=h;unfold oe at c;split at c
 ·rename_i p;obtain⟨⟨l,y,q⟩,w,c⟩:=oB1.mp c;refine⟨fA m r,[],[],l,y,q,A.mask p,.nil,w,?_⟩;have back:∀{H':Hp} {mu':List dy},Ext [] mu' H H'->Ext mu mu H H':=fun{H' mu'} x=>⟨bm,fun a o e _=>x.old a o e (by simp),x.tup,x.frz,fun _ z=>.inl z⟩;have keep:∀{H':Hp} {mu':List dy},Ext [] mu' H H'->Sim K H' mu S:=fun{H' mu'} x=>⟨j.len,j.nd,fun n o a h1 h2=>(j.ob n o a h1 h2).keep (back x) fun o e=>x.old a o e (by simp)⟩;cases l with
  |rt d=>
   dsimp only at c;split at c
   ·rename_i i;cases c;exact fun v H' mu' x r s=>hc v H' mu (back x) (r.cut (n:=0) (fun k u=>absurd u (bv _)) i) (keep x)
   ·cases c
  |nx=>
   dsimp only at c;split at c
   ·rename_i i;cases c;exact fun g H' mu' x r s=>hc g H' mu (back x) (r.mask i) (keep x)
   ·cases c
  |bk=>
   dsimp only at c;split at c
   ·rename_i i;cases c;exact fun g H' mu' x r s=>hc g H' mu (back x) (r.mask i) (keep x)
   ·cases c
  |ct=>
   dsimp only at c;split at c
   ·rename_i i;cases c;exact fun g H' mu' x r s=>hc g H' mu (back x) (r.mask i) (keep x)
   ·cases c
 ·cases c
theorem yY{X:Cx}{sts:List dJ}{b:FS}(c a:List Bool)(h:xk X sts b):xk X sts (oe c a b):=pG h fun _ _ _=>y8
noncomputable def CV(K:Fg1)(d:D)(u:dr):Prop:=∃v:V,dX v u /\ ∀H mu,eB K H mu d v
noncomputable def HN(K:Fg1)(ds:List D)(us:List dr):Prop:=∃vs:List V,ea vs us /\ ∀H mu,dW K H mu ds vs
section
variable{K:Fg1}
theorem qg{i:Int}{t}:CV K (.int i) (.int i t):=⟨.int i,⟨t,rfl⟩,fun _ _=>.int i⟩
theorem qf{x:Str}{t}:CV K (.str x) (.str x t):=⟨.str x,⟨t,rfl⟩,fun _ _=>.str x⟩
theorem kn:HN K [] []:=⟨[],.nil,fun _ _=>.nil⟩
theorem fh{d:D}{u:dr}{ds:List D}{a:List dr}(h:CV K d u)(t:HN K ds a):HN K (d::ds) (u::a):=by
 obtain⟨v,r,q⟩:=h;obtain⟨vs,rs,b⟩:=t;exact⟨v::vs,.cons r rs,fun H mu=>.cons (q H mu) (b H mu)⟩
theorem m5 {a:dy}{c:Option dy}{b:List dr}{n:Nat}{sl:Array (Option dr)}{ds:List D}(h:K.lookup a=some ⟨.type "tuple",c,.seq b.toArray n,sl⟩)(hs:b.length<=dF)(t:HN K ds b):CV K (.tup ds) (.ref a):=by
 obtain⟨vs,rs,d⟩:=t;exact⟨.ref a,rfl,fun H mu=>.tup (.inr ⟨_,b.toArray,n,h,rfl,rfl,by simpa using hs,by simpa using rs⟩) (d H mu)⟩
theorem Fa{mg:Str->Option dr}{x:Str}{d:D}{u:dr}(hm:mg x=some u)(h:CV K d u):CGl K mg x d:=by
 obtain⟨v,r,q⟩:=h;exact⟨v,u,hm,r,q⟩
end
theorem kG{K:Fg1}{H:Hp}{mu:List dy}:∀ns:List Int,dW K H mu (ns.map D.int) (ns.map V.int)
 |[]=>.nil
 |n::ns=>.cons (.int n) (kG ns)
theorem EJ{K:Fg1}{m:FN}(hm:∀ ns:List Int,ns.length<=63 -> ∃ S,m [.rol (ns.map D.int)] []=some (.bl true,S))(H:Hp)(a:dy)(ns:List Int)(f:ns.length<=63)(c:Cv H)(b:lJ K H a (ns.map V.int)):
  Am K 1 m [.ref a] H (fun v _=>v = .bl true) fun _ _ _=>False:=by
 refine⟨rfl,?_⟩;obtain⟨S,e⟩:=hm ns f;have d:RoL K H a (ns.map V.int):=by
  rcases b with h|h
  ·rcases h with h|h
   ·rcases c a with z|⟨o,xs,z⟩
    ·rw[h]at z;cases z
    ·rw[h]at z;cases z
   ·exact .inl h
  ·exact .inr h
 refine⟨[],[],[.rol (ns.map D.int)],.bl true,S,.cons (.rol d (kG ns)) .nil,.nil,e,fun v H' mu' x r s=>?_⟩;cases r;rfl
theorem walk_m{l:PySem.W.OpenLaw}{q:dz}{b:List Str}{XP:(Str->Option dr)->dH->Prop}{g:dB->dH->Prop}{d:DefRec}{K:Params->Fg1}{m:FN}{k:Nat}{x:Str}(hn:l.most=some 63)(c:d.params.defaults=[])(hr:fF k callerA)(p:∀(w:dB) (h:dH),g w h->(K w.params).In h)(hm:∀ns:List Int,ns.length<=63 -> ∃S,m [.rol (ns.map D.int)] []=some (.bl true,S))(F:∀(w:dB) (mg:Str->Option dr) (e:dy) (h:dH),(K w.params).In h->h.Ns dD mg->mg d.name=some (.ref e) ->
   ∃fd:dI,(∀(s:dw) (u:dr),BindsTo s fd ⟨[u],[]⟩ [(x,u)]) /\ ∀base:dH,(K w.params).In base->base.Ns dD mg->k3 l.prog w (K w.params) mg base sK k e fd [x] (Am (K w.params) 1 m)):
  PySem.W.WalkO q b XP g l.row.toRowW d [] (fun f vs=>PySem.call f vs):=
 L2.AB (n:=63) (k:=k) (x:=x) (CX:=fun _=>sK) (sp:=fun w=>Am (K w.params) 1 m) hn (by decide) c hr p F (fun _ H a ns o j i=>EJ hm H a ns o j i) fun _ _ _ _ _ z=>z
structure XE (X:Cx)(e:Expr)(m:FE):Prop where
 h:ME X e m
structure XT (X:Cx)(e:Expr)(m:FT):Prop where
 h:MT X e m
structure XW (X:Cx)(e:Expr)(m:FT):Prop where
 h:MW X e m
structure XA (X:Cx)(e:List Expr)(m:FA):Prop where
 h:MA X e m
structure XS (X:Cx)(e:dJ)(m:FS):Prop where
 h:MS X e m
structure ui (X:Cx)(e:List dJ)(m:FS):Prop where
 h:xk X e m
structure XI (X:Cx)(tg e:Expr)(m:FI):Prop where
 h:MI X tg e m
structure XG (X:Cx)(e:Expr)(m:FG):Prop where
 h:MG X e m
structure HK (X:Cx)(e:List Expr)(m:Al):Prop where
 h:Hr X e m
structure XO (X:Cx)(e:Option Expr)(m:FO):Prop where
 h:MO X e m
structure XF (X:Cx)(K:Fg1)(ifs:List Expr)(t:FT):Prop where
 h:nL X ifs (xV K t)
theorem fe{X:Cx}:XF X X.K [] fQ:=⟨Bo⟩
theorem fm{X:Cx}{c:Expr}{t:FT}(h:XT X c t):XF X X.K [c] t:=⟨Bn h.h⟩
theorem v5{X:Cx}{sts:List dJ}{b:FS}(c a:List Bool)(h:ui X sts b):ui X sts (oe c a b):=⟨yY c a h.h⟩
section
variable{X:Cx}{pos:Pos}
theorem qK{i:Int}{j}:XE X (.Constant (.int i) j pos) (mC (.int i)):=⟨EC⟩
theorem sY{b:Bool}{j}:XE X (.Constant (.bool b) j pos) (mC (.bl b)):=⟨GA⟩
theorem fU{j}:XE X (.Constant .none j pos) (mC .non):=⟨EA⟩
theorem ej{x:Str}{j}:XE X (.Constant (.str x) j pos) (mC (.str x)):=⟨Ey⟩
end
section
variable{X:Cx}{pos:Pos}{e:Expr}{es:List Expr}{m:FE}{n:FA}
theorem qN:XA X [] dN:=⟨EE⟩
theorem qA(h:XE X e m)(ht:XA X es n)(hs:dE (e::es) X.env=(false,eval e X.env)::dE es X.env:=by rfl):XA X (e::es) (dM m n):=⟨Bw (h:=h.h) (ht:=ht.h) (hs:=hs)⟩
end
section
variable{X:Cx}{K:Fg1}{f:FN}{a b:FE}{σ:L2.St}{H:Hp}{Q:VK}
theorem qI{op:Operator}{x y:Expr}{pos:Pos}(ho:gh X (binaryOp op) (r2 X.K f))(hx:XE X x a)(hy:XE X y b):XE X (.BinOp x op y pos) (m2 f a b):=⟨Gx (ho:=ho) (hx:=hx.h) (hy:=hy.h)⟩
theorem C2{op:UnaryOp}{x:Expr}{pos:Pos}(ho:Fz X (unaryOp op) (fun x H Q=>rN X.K f [x] H Q))(hx:XE X x a):XE X (.UnaryOp op x pos) (m1 f a):=⟨Gw (ho:=ho) (hx:=hx.h)⟩
theorem Av{op:CmpOp}{x y:Expr}{pos:Pos}(ho:gh X (compareOp op) (r2 X.K f))(hx:XE X x a)(hy:XE X y b)(hm:behindInMarks op y=false):XE X (.Compare x [op] [y] pos) (m2 f a b):=⟨ED (ho:=ho) (hx:=hx.h) (hy:=hy.h) (hm:=hm)⟩
theorem qJ{x y:Expr}{pos:Pos}(ho:C0 X (r2 X.K f))(hx:XE X x a)(hy:XE X y b)(hs:lU y):XE X (.Subscript x y pos) (m2 f a b):=⟨Gy (ho:=ho) (hx:=hx.h) (hy:=hy.h) (hs:=hs)⟩
theorem qD {x:Str}{p pos:Pos}{e:Expr}{es:List Expr}{id:String}{a:FA}(hc:e0 X (.builtin id) (rN X.K f))(hg:Gl X x)(hm:X.mg x=none)(hv:bootBuiltins x=some (.builtin id))(ha:XA X (e::es) a)(hn:x≠"__name__":=by decide)(hdb:(x == ("__debug__":Str))=false:=by decide)(he:dE (e::es) X.env=(false,eval e X.env)::dE es X.env:=by rfl)(hpl:(backTo pos (dE es X.env)).any (·.1)=false:=by rfl):XE X (.Call (.Name x p) (e::es) [] pos) (mN f a):=⟨y6 (hc:=hc) (hg:=hg) (hm:=hm) (hv:=hv) (ha:=ha.h) (hn:=hn) (hdb:=hdb) (he:=he) (hpl:=hpl)⟩
theorem qE {x:Str}{p pos:Pos}{e:Expr}{es:List Expr}{T:String}{a:FA}(hc:e0 X (.type T) (rN X.K f))(hg:Gl X x)(hm:X.mg x=none)(hv:bootBuiltins x=some (.type T))(ha:XA X (e::es) a)(hn:x≠"__name__":=by decide)(hdb:(x == ("__debug__":Str))=false:=by decide)(he:dE (e::es) X.env=(false,eval e X.env)::dE es X.env:=by rfl)(hpl:(backTo pos (dE es X.env)).any (·.1)=false:=by rfl):XE X (.Call (.Name x p) (e::es) [] pos) (mN f a):=⟨wA (hc:=hc) (hg:=hg) (hm:=hm) (hv:=hv) (ha:=ha.h) (hn:=hn) (hdb:=hdb) (he:=he) (hpl:=hpl)⟩
end
section
variable{X:Cx}{x y c:Expr}{rest:List Expr}{pos:Pos}{a b:FT}{f g:FE}
theorem qX{op:CmpOp}{f:FN}{a b:FE}(ho:gh X (compareOp op) (r2 X.K f))(hx:XE X x a)(hy:XE X y b)(hm:behindInMarks op y=false):XT X (.Compare x [op] [y] pos) (mB (m2 f a b)):=⟨Eg (ho:=ho) (hx:=hx.h) (hy:=hy.h) (hm:=hm)⟩
theorem jD(ha:XT X x a):XW X (.BoolOp .And [x] pos) a:=⟨Bg (ha:=ha.h)⟩
theorem oX(ha:XT X x a):XW X (.BoolOp .Or [x] pos) a:=⟨Ed (ha:=ha.h)⟩
theorem lK(ha:XT X x a)(hb:XW X (.BoolOp .And (y::rest) pos) b):XW X (.BoolOp .And (x::y::rest) pos) (tQ a b):=⟨Ee (ha:=ha.h) (hb:=hb.h)⟩
theorem sR(ha:XT X x a)(hb:XW X (.BoolOp .Or (y::rest) pos) b):XW X (.BoolOp .Or (x::y::rest) pos) (Fv a b):=⟨Gu (ha:=ha.h) (hb:=hb.h)⟩
theorem lW(h:XW X x a):XT X x a:=⟨Iu (h:=h.h)⟩
theorem At(ha:XT X x a):XT X (.UnaryOp .Not x pos) (By a):=⟨Ef (ha:=ha.h)⟩
theorem oY(hc:XT X c a)(hx:XE X x f)(hy:XE X y g):XE X (.IfExp c x y pos) (vc a f g):=⟨Gz (hc:=hc.h) (hx:=hx.h) (hy:=hy.h)⟩
end
section
variable{X:Cx}{x y z:Expr}{pos:Pos}{f g:FN}{a b c:FE}{op op':CmpOp}
end
section
variable{X:Cx}{pos:Pos}{e c:Expr}{st:dJ}{rest as bs:List dJ}{a b:FS}{m:FE}{t:FT}
theorem qQ:ui X [] rG:=⟨Bi⟩
theorem qF(h1:XS X st a)(h2:ui X rest b):ui X (st::rest) (d5 a b):=⟨yZ (h1:=h1.h) (h2:=h2.h)⟩
theorem qG(h1:XS X st a):ui X [st] a:=⟨Bh (h1:=h1.h)⟩
theorem jE(h:XE X e m)(hs:swapsWith e none pos.line X.env=pure false:=by rfl):XS X (.Expr e pos) (fx m):=⟨Bj (h:=h.h) (hs:=hs)⟩
theorem qU(h:XE X e m):XS X (.Return (some e) pos) (e9 m):=⟨Ei (h:=h.h)⟩
theorem qV(hc:XT X c t)(ha:ui X as a)(hb:ui X bs b):XS X (.If c as bs pos) (hE t a b):=⟨Gv (hc:=hc.h) (ha:=ha.h) (hb:=hb.h)⟩
end
section
variable{X:Cx}{pos:Pos}
theorem qO(i:Nat){x:Str}(hN:X.N.Nodup)(hi:X.N[i]?=some x)(hx:uo X.env.scope x)(hf:X.fn x=true\/X.env.scope.names.lookup x=some .local:=by first|exact .inl rfl|exact .inr rfl|assumption):XG X (.Name x pos) (gN i):=⟨Br (i:=i) (hN:=hN) (hi:=hi) (hx:=hx) (hf:=hf)⟩
theorem gx:HK X [] gNl:=⟨Bq⟩
theorem ec{e:Expr}{es:List Expr}{g:FG}{a:Al}(h1:XG X e g)(h2:HK X es a)(hs:(assignEach (e::es) X.env).map (·.2)=assign e X.env::(assignEach es X.env).map (·.2):=by rfl):HK X (e::es) (gCs g a):=⟨y2 (h1:=h1.h) (h2:=h2.h) (hs:=hs)⟩
theorem hM{es:List Expr}{k:Nat}{a:Al}{n:Nat}(hc:X.calm=true)(h:HK X es a)(hn:(assignEach es X.env).length=n:=by rfl)(hst:(assignEach es X.env).findIdx? (·.1)=none:=by rfl):XG X (.Tuple es k pos) (gT n a):=⟨Es (hc:=hc) (h:=h.h) (hn:=hn) (hst:=hst)⟩
theorem lN{o i:Expr}{a b:FE}{f:FN}(ho:XE X o a)(hi:XE X i b)(hs:um X (rU X.K f))(ha:∀ v,assign (.Subscript o i pos) X.env v=(do
   let ov<-holding [v] (eval o X.env)
   let iv<-holding [v,ov] (eval i X.env)
   standAt pos
   holding [v,ov,iv] (setItem ov iv v)
   release [v,ov,iv] []):=by intro _;rfl):XG X (.Subscript o i pos) (gS f a b):=⟨Et (ho:=ho.h) (hi:=hi.h) (hs:=hs) (ha:=ha)⟩
theorem qR{tg e:Expr}{m:FE}{g:FG}(he:XE X e m)(hg:XG X tg g)(hs:swapsWithSole [tg] e pos.line X.env=pure false:=by rfl)(hw:swappedStores [tg] e X.env=pure none:=by rfl)(h1:(assignEach [tg] X.env).map (·.2)=[assign tg X.env]:=by rfl):XS X (.Assign [tg] e pos) (d6 m g):=⟨El (he:=he.h) (hg:=hg.h) (hs:=hs) (hw:=hw) (h1:=h1)⟩
theorem qY(i:Nat){x:Str}{e:Expr}{m:FE}{pos':Pos}(hN:X.N.Nodup)(hi:X.N[i]?=some x)(hx:uo X.env.scope x)(he:XE X e m)(hs:swapsWith e (some (.Name x pos')) pos.line X.env=pure false:=by rfl)(hf:X.fn x=true\/X.env.scope.names.lookup x=some .local:=by first|exact .inl rfl|exact .inr rfl|assumption):XS X (.Assign [.Name x pos'] e pos) (d6 m (gN i)):=⟨Eh (i:=i) (hN:=hN) (hi:=hi) (hx:=hx) (he:=he.h) (hs:=hs) (hf:=hf)⟩
theorem Au(i:Nat){x:Str}{e:Expr}{m:FE}{op:Operator}{f:FN}{pos':Pos}(hN:X.N.Nodup)(hi:X.N[i]?=some x)(hx:uo X.env.scope x)(he:XE X e m)(ho:HM X op (r2 X.K f))(hf:X.fn x=true\/X.env.scope.names.lookup x=some .local:=by first|exact .inl rfl|exact .inr rfl|assumption):XS X (.AugAssign (.Name x pos') op e pos) (BA i f m):=⟨Ek (i:=i) (hN:=hN) (hi:=hi) (hx:=hx) (he:=he.h) (ho:=ho) (hf:=hf)⟩
end
section
theorem kB{X:Cx}{pos:Pos}(n:Nat){c:Expr}{a:List dJ}{t:FT}{b:FS}(hp:PassesOwn (model X.prog X.w) X.A X.env X.xe)(hc:XT X c t)(hb:ui X a b):XS X (.While c a [] pos) (qo t b n):=⟨y0 (n:=n) (hp:=hp) (hc:=hc.h) (hb:=hb.h)⟩
theorem qW{X:Cx}{pos:Pos}{tg iter:Expr}{a:List dJ}{m:FI}{g:FG}{b:FS}(hp:PassesOwn (model X.prog X.w) X.A X.env X.xe)(hc:X.calm=true)(hi:XI X tg iter m)(hg:XG X tg g)(hb:ui X a b)(hs:∀x,foldedSetIterable iter X.env x=pure x:=by intro _;rfl):XS X (.For tg iter a [] pos) (iE m g b):=⟨Ej (hp:=hp) (hc:=hc) (hi:=hi.h) (hg:=hg.h) (hb:=hb.h) (hs:=hs)⟩
end
section
variable{X:Cx}{es:List Expr}{pos:Pos}{a:FA}
theorem d8{x1}(h:XA X es a):XE X (.Tuple es x1 pos) (eQ a):=⟨Ex (h:=h.h)⟩
theorem gn(h:XA X es a):XE X (.List es pos) (jv a):=⟨EB (h:=h.h)⟩
end
section
variable{X:Cx}{tg:Expr}
theorem qd{e:Expr}{m:FE}(h:XE X e m):XI X tg e (hH m):=⟨Er (h:=h.h)⟩
theorem sT {a:Expr}{m:FA}{p pos:Pos}(hg:Gl X "range")(hm:X.mg "range"=none)(ha:XA X [a] m)(hs:dE [a] X.env=[(false,eval a X.env)]:=by rfl):XI X tg (.Call (.Name "range" p) [a] [] pos) (tX m):=⟨wx (hg:=hg) (hm:=hm) (ha:=ha.h) (hs:=hs)⟩
theorem sS {a b:Expr}{m:FA}{p pos:Pos}(hg:Gl X "range")(hm:X.mg "range"=none)(ha:XA X [a,b] m)(hs:dE [a,b] X.env=[(false,eval a X.env),(false,eval b X.env)]:=by rfl)(hs2:dE [b] X.env=[(false,eval b X.env)]:=by rfl):XI X tg (.Call (.Name "range" p) [a,b] [] pos) (GM m):=⟨ww (hg:=hg) (hm:=hm) (ha:=ha.h) (hs:=hs) (hs2:=hs2)⟩
end
section
variable{X:Cx}{tg:Expr}
variable{elts:List Expr}{k:Nat}{tpos:Pos}
theorem xD {a:Expr}{m:FA}{p pos:Pos}(hg:Gl X "enumerate")(hm:X.mg "enumerate"=none)(ha:XA X [a] m)(hs:dE [a] X.env=[(false,eval a X.env)]:=by rfl):XI X (.Tuple elts k tpos) (.Call (.Name "enumerate" p) [a] [] pos) (Fw m):=⟨Bp (hg:=hg) (hm:=hm) (ha:=ha.h) (hs:=hs)⟩
theorem jF {a b:Expr}{m:FA}{p pos:Pos}(hg:Gl X "zip")(hm:X.mg "zip"=none)(ha:XA X [a,b] m)(hs:dE [a,b] X.env=[(false,eval a X.env),(false,eval b X.env)]:=by rfl)(hs2:dE [b] X.env=[(false,eval b X.env)]:=by rfl):XI X (.Tuple elts k tpos) (.Call (.Name "zip" p) [a,b] [] pos) (Ao m):=⟨Ep (hg:=hg) (hm:=hm) (ha:=ha.h) (hs:=hs) (hs2:=hs2)⟩
end
section
variable{X:Cx}{pins:List (dy×Obj)}{σ:L2.St}{H:Hp}{s:dw}{mu:List dy}{S:Sto}{K:Fg1}
theorem sX (T:Ty){e:Expr}{m:FE}{nm:Str}{p p2 pos:Pos}(hg:Gl X "isinstance")(hm:X.mg "isinstance"=none)(hg2:Gl X nm)(hm2:X.mg nm=none)(hv2:bootBuiltins nm=some (.type T.nm))(h:XE X e m)(hn:nm≠"__name__":=by decide)(hd:(nm == ("__debug__":Str))=false:=by decide)(hs1:dE [e,.Name nm p2] X.env=(false,eval e X.env)::dE [.Name nm p2] X.env:=by rfl)(hs2:dE [.Name nm p2] X.env=(false,eval (.Name nm p2) X.env)::dE [] X.env:=by rfl)(hpl:(backTo pos (dE [.Name nm p2] X.env)).any (·.1)=false:=by rfl):XE X (.Call (.Name "isinstance" p) [e,.Name nm p2] [] pos) (mI T m):=⟨wz (T:=T) (hg:=hg) (hm:=hm) (hg2:=hg2) (hm2:=hm2) (hv2:=hv2) (h:=h.h) (hn:=hn) (hd:=hd) (hs1:=hs1) (hs2:=hs2) (hpl:=hpl)⟩
end
section
variable{X:Cx}
theorem xC:XO X none mG:=⟨Bm⟩
theorem xB{e:Expr}{m:FE}(h:XE X e m):XO X (some e) (rr m):=⟨Bl (h:=h.h)⟩
theorem sV {a:Expr}{m:FA}{d p2 b c:Pos}(hc:X.calm=true)(hg:Gl X "range")(hm:X.mg "range"=none)(hg2:Gl X "list")(hm2:X.mg "list"=none)(ha:XA X [a] m)(hs:dE [a] X.env=[(false,eval a X.env)]:=by rfl)(hs2:dE [.Call (.Name "range" d) [a] [] b] X.env=[(false,eval (.Call (.Name "range" d) [a] [] b) X.env)]:=by rfl):XE X (.Call (.Name "list" p2) [.Call (.Name "range" d) [a] [] b] [] c) (za m):=⟨wy (hc:=hc) (hg:=hg) (hm:=hm) (hg2:=hg2) (hm2:=hm2) (ha:=ha.h) (hs:=hs) (hs2:=hs2)⟩
theorem qe {o e:Expr}{es:List Expr}{m:FE}{a:FA}{f:FN}{name:Str}{apos cpos:Pos}{id:String}(slot:Slot "list" name id)(hty:typeOf (.builtin id)=pure (.type "method_descriptor"))(hm:CZ X id (fun x xs H Q=>rN X.K f (x::xs) H Q))(ho:XE X o m)(ha:XA X (e::es) a)(hbase:attributeBase o name X.env (eval o X.env)=eval o X.env:=by rfl)(hfew:((backTo cpos (dE (e::es) X.env)).all (fun x=> !x.1)&&(backToKw cpos (keywordEach [] X.env)).all (fun x=>x.1.isSome)&&decide ((e::es).length+([]:List Keyword).length+(if([]:List Keyword).isEmpty then 0 else 1)<30))=true:=by rfl)(hline:(apos.endLine == cpos.line)=true:=by rfl)(hs:dE (e::es) X.env=(false,eval e X.env)::dE es X.env:=by rfl)(hplain:(backTo cpos (dE es X.env)).any (·.1)=false:=by rfl):XE X (.Call (.Attribute o name apos) (e::es) [] cpos) (qp f m a):=⟨y4 (slot:=slot) (hty:=hty) (hm:=hm) (ho:=ho.h) (ha:=ha.h) (hbase:=hbase) (hfew:=hfew) (hline:=hline) (hs:=hs) (hplain:=hplain)⟩
theorem Jt (i:Nat){x:Str}{pos:Pos}(hN:X.N[i]?=some x:=by rfl)(hv:Vis X.env.scope x:=by first|exact Or.inl rfl|exact Or.inr (Or.inl rfl)|exact Or.inr (Or.inr rfl))(hd:(x == ("__debug__":Str))=false:=by decide)(hcd:(x == ("__classdict__":Str))=false:=by decide):XE X (.Name x pos) (mV i):=⟨mv (i:=i) (hN:=hN) (hv:=hv) (hd:=hd) (hcd:=hcd)⟩
end
section
theorem qH {X:Cx}{k k' n:Nat}{x:Str}{m:FN}{p pos:Pos}{e:Expr}{es:List Expr}{a:FA}(h:fH X.prog X.w X.K X.mg X.base k x n m)(hr:fF k' X.A)(hk:k<=k')(hg:Gl X x)(ha:XA X (e::es) a)(hdb:(x == ("__debug__":Str))=false:=by decide)(he:dE (e::es) X.env=(false,eval e X.env)::dE es X.env:=by rfl)(hpl:(backTo pos (dE es X.env)).any (·.1)=false:=by rfl):XE X (.Call (.Name x p) (e::es) [] pos) (mN (dS n m) a):=⟨Ez (h:=h) (hr:=hr) (hk:=hk) (hg:=hg) (ha:=ha.h) (hdb:=hdb) (he:=he) (hpl:=hpl)⟩
theorem xE {X:Cx}{x:Str}{d:D}{pos:Pos}(h:CGl X.K X.mg x d)(hg:Gl X x)(hd:(x == ("__debug__":Str))=false:=by decide):XE X (.Name x pos) (mC d):=⟨Bu (h:=h) (hg:=hg) (hd:=hd)⟩
end
section
variable{X:Cx}
structure HL (X:Cx)(K:Fg1)(tg:Expr)(ifs:List Expr)(elt:Expr)(g:FG)(t:FT)(e:FE):Prop where
 g:XG X tg g
 t:XF X K ifs t
 e:XE X elt e
end
theorem As{P:dz}{w:dB}{K:Fg1}{mg:Str->Option dr}{base:dH}{x c:Str}{st:dJ}{f:dy}{fd:dI}{N ps:List Str}{k n:Nat}{b:FS}(F:xu K x c st f fd)(hb:kA K fd ps [])(hm:mg x=some (.ref f))(S:fX N ps (d3 st))(hn:ps.length=n)(e:∀(d:dr) (A:dA) (a:List Env) (s:dw) (H:Hp) (E:XK),fF k (A.deeper (envOfC c (d3 st) s.heap.objs.size f d)) ->
   ui (lH sK P w K mg base N c (d3 st) f d A a s H E).nox (fb st) b):fH P w K mg base (k+1) x n (iy N.length b):=
 D0 F hb hm S hn fun d A a s H E g=>(e d A a s H E g).h
theorem C3{P:dz}{w:dB}{K:Fg1}{mg:Str->Option dr}{base:dH}{x c:Str}{st:dJ}{f:dy}{fd:dI}{N ps:List Str}{k n:Nat}{b:FS}(F:xu K x c st f fd)(S:fX N ps (d3 st))(hn:ps.length=n)(e:∀(d:dr) (A:dA) (a:List Env) (s:dw) (H:Hp) (E:XK),fF k (A.deeper (envOfC c (d3 st) s.heap.objs.size f d)) ->
   ui (lH sK P w K mg base N c (d3 st) f d A a s H E).nox (fb st) b):k3 P w K mg base sK (k+1) f fd ps (Am K n (iy N.length b)):=by
 subst hn;exact GV F S fun d A a s H E g=>(e d A a s H E g).h
abbrev FV:=Ev->Sto->Option (List D×Ev×Sto)
noncomputable def fB (c:List (Nat×List D))(g:FG)(t:FT)(b:FV):List D->FV
 |[]=>fun r S=>if n3 S c=true then some ([],r,S)else none
 |d::ds=>fun r S=>if n3 S c=true then(g d r S).bind fun p=>(t p.1 p.2).bind fun k=>if k.1=true then(b p.1 k.2).bind fun q=>(fB c g t b ds q.2.1 q.2.2).map fun z=>(q.1++z.1,z.2)else fB c g t b ds p.1 k.2 else none
noncomputable def ev (m:FE):FV:=fun r S=>(m r S).map fun q=>([q.1],r,q.2)
noncomputable def eK (k:Nat)(keep:List Nat)(m:FI)(g:FG)(t:FT)(b:FV):FE:=fun r S=>(m r S).bind fun p=>
 (fB p.1.chk g t b p.1.items (nE k keep r) p.2).bind fun q=>if q.1.length<=dF then some (.ref q.2.2.length,q.2.2++[.lst q.1])else none
section
variable{K:Fg1}{H H' H1:Hp}{mu mu' mu1:List dy}{S:Sto}{a:dy}
theorem Ext.aside(x:Ext mu mu' H H'):Ext (a::mu) (a::mu') H H' where
 pre:=bW.mpr ⟨rfl,x.pre⟩
 old:=fun b o h n=>x.old b o h fun z=>n (mC1 _ z)
 tup:=x.tup
 frz:=x.frz
 new:=fun b h=>by
  rcases aF.mp h with h|h
  ·exact .inl (by rw[h];exact mS1)
  ·rcases x.new b h with q|q
   ·exact .inl (mC1 _ q)
   ·exact .inr q
theorem Ext.inner(x:Ext (a::mu) (a::mu') H H'):qq mu mu' H H':=⟨(bW.mp x.pre).2,x.tup,x.frz⟩
theorem Ext.held{o:HO}(x:Ext mu mu' H H')(ha:H a=some o)(hn:a∉mu):H' a=some o/\a∉mu':=by
 refine⟨x.old a o ha hn,fun z=>?_⟩;rcases x.new a z with q|q
 ·exact hn q
 ·rw[ha]at q;cases q
theorem fj.exw{r:Ev}{σ:L2.St}(e:qq mu mu' H H')(h:fj K H mu r σ):fj K H' mu' r σ:=⟨h.len,fun i d q=>by
 obtain⟨v,b,a⟩:=h.val i d q;exact⟨v,b,a.exw e⟩⟩
theorem k0.exw{b:dy}(e:qq mu mu' H H')(h:∀o,H b=some o->H' b=some o):∀{o:Ob},k0 K H mu b o->k0 K H' mu' b o
 | .lst _,⟨vs,q,r⟩=>⟨vs,h _ q,r.exw e⟩
 | .dct _,⟨ws,q,r⟩=>⟨ws,h _ q,Paired.mapP r fun _ _ z=>⟨z.1,z.2.exw e⟩⟩
 | .dcT _,⟨ws,q,r,l⟩=>⟨ws,h _ q,Paired.mapP r fun _ _ ⟨z,d,k,v,a,r⟩=>⟨z,d,k.exw e,v,a,r.exw e⟩,l⟩
 | .iset _,q=>⟨h _ q.1,q.2⟩
 | .dcF _,⟨ws,⟨o,u,c,f⟩,r,l⟩=>⟨ws,⟨o,u,h _ c,f⟩,Paired.mapP r fun _ _ ⟨z,d,k,v,a,r⟩=>⟨z,d,k.exw e,v,a,r.exw e⟩,l⟩
 | .tst _,⟨ws,q,r⟩=>⟨ws,h _ q,Paired.mapP r fun _ _ ⟨z,d,k,v,a,r⟩=>⟨z,d,k.exw e,v,a,r.exw e⟩⟩
theorem Sim.aside{u:HO}(s:Sim K H mu S)(e:qq mu mu H (upd H a u))(hn:a∉mu):Sim K (upd H a u) mu S:=
 ⟨s.len,s.nd,fun k o b h1 h2=>(s.ob k o b h1 h2).exw e fun o' q=>by rw[dR (fun z=>hn (by rw[<- z];exact gM1 h2))];exact q⟩
end
inductive FW (K:Fg1)(a:dy)(m:FV)(E:i7)(σ:L2.St)(H:Hp):Prop
 |mk (r:Ev) (mu:List dy) (S:Sto) (acc:List D) (vs:List V) (xs:List D) (r':Ev) (S':Sto):H a=some (.lst vs)->a∉mu->dW K H mu acc vs->fj K H mu r σ->Sim K H mu S->m r S=some (xs,r',S')->vs.length+xs.length<=dF ->
 (∀ σ' H' mu' vs',Ext (a::mu) (a::mu') H H'->H' a=some (.lst vs')->a∉mu'->dW K H' mu' (acc++xs) vs'->fj K H' mu' r' σ'->Sim K H' mu' S'->E.nx σ' H')->FW K a m E σ H
theorem m4{K:Fg1}{a:dy}{m:FE}{E:i7}{σ:L2.St}{H:Hp}(h:FW K a (ev m) E σ H):qy a (tM K m) E σ H:=by
 obtain⟨r,mu,S,q,vs,xs,u,w,l,f,k,i,j,g,o,hc⟩:=h;obtain⟨⟨d,t⟩,p,g⟩:=oM1.mp g;cases g;refine⟨r,mu,S,d,t,i,j,p,fun v H1 mu1 e s n=>?_⟩;obtain⟨c,b⟩:=e.held l f;have put:Ext (a::mu1) (a::mu1) H1 (upd H1 a (.lst (vs++[v]))):=Ext.put c trivial mS1;refine⟨vs,c,o,?_⟩;exact hc σ _ mu1 (vs++[v]) (e.aside.trans put) d2 b (((k.ext e).append (.cons s .nil)).exw put.inner) ((i.ext e).exw put.inner) (n.aside put.inner b)
inductive IW (K:Fg1)(a:dy)(mu2:List dy)(H:Hp)(c:List (Nat×List D))(g:FG)(t:FT)(b:FV)(r':Ev)(S':Sto)(tot:List D)(L:List D)(σ':L2.St)(H':Hp):Prop
 |mk (r3:Ev) (mu3:List dy) (S3:Sto) (acc3:List D) (vs3:List V) (xs3:List D):Ext (a::mu2) (a::mu3) H H'->H' a=some (.lst vs3)->a∉mu3->dW K H' mu3 acc3 vs3->fj K H' mu3 r3 σ'->Sim K H' mu3 S3->fB c g t b L r3 S3=some (xs3,r',S')->acc3++xs3=tot->vs3.length+xs3.length<=dF->IW K a mu2 H c g t b r' S' tot L σ' H'
theorem rK{K:Fg1}{a:dy}{j:It}{J:Ak}{g:FG}{t:FT}{b:FV}{tb:TS}{D:i7}(hb:∀ E σ H,FW K a b E σ H->tb E σ H){mu1 e:List dy}{H1 H:Hp}{r N:Ev}{S L:Sto}{σ:L2.St}{acc xs:List Mi.D}{vs:List V}(hJ:ItR K j J mu1 H1)(x:qq mu1 e H1 H)(ha:H a=some (.lst vs))(hna:a∉e)(hr:dW K H e acc vs)(he:fj K H e r σ)(hs:Sim K H e S)(hm:fB J.chk g t b J.items r S=some (xs,N,L))(hl:vs.length+xs.length<=dF)(hc:∀l H' mu' B,Ext (a::e) (a::mu') H H'->H' a=some (.lst B)->a∉mu'->dW K H' mu' (acc++xs) B->fj K H' mu' N l->Sim K H' mu' L->D.nx l H'):CB j (Dk K g) (xV K t) tb D σ H:=by
 refine⟨fun i k l H'=>k=(J.items.drop i).length/\IW K a e H J.chk g t b N L (acc++xs) (J.items.drop i) l H',
  ⟨_,rfl,r,e,S,acc,vs,xs,.refl _ _,ha,hna,hr,he,hs,hm,rfl,hl⟩,?_⟩
 rintro i k σ3 H3 ⟨rfl,r3,m,S3,f,vs3,xs3,I,w,s,z,A,Q,c,q,h⟩;cases hd0:J.items.drop i with
 |nil=>
  left;rw[hd0,fB]at c;dsimp only at c;split at c
  ·rename_i ok;cases c;refine⟨(hJ i H3 m _ (x.trans I.inner) Q ok).2 (List.drop_eq_nil_iff.mp hd0),hc σ3 H3 m vs3 I w s ?_ A Q⟩;rw[<- q,aN];exact z
  ·cases c
 |cons d ds=>
  right;rw[hd0]at c;obtain⟨hi,hd⟩:=lz hd0;rw[fB]at c;dsimp only at c;split at c
  ·rename_i ok;obtain⟨⟨G,S4⟩,e4,c⟩:=oB1.mp c;obtain⟨⟨k5,S5⟩,e5,c⟩:=oB1.mp c;obtain⟨go,yl⟩:=(hJ i H3 m _ (x.trans I.inner) Q ok).1 d hi;refine⟨go,IW K a e H J.chk g t b N L (acc++xs) ds,?_,fun y H4 yy=>?_⟩
   ·intro l H' h6;exact⟨ds.length,bC _,(congrArg List.length hd).symm,hd.symm ▸ h6⟩
   ·obtain⟨M,s4,q4⟩:=yl y H4 yy;obtain⟨R,hn4⟩:=M.held w s;refine⟨r3,m,S3,d,G,S4,A.ext M,s4,q4,e4,fun σ5 H5 X P o s5=>?_⟩;obtain⟨Y,Z⟩:=P.held R hn4;refine⟨G,X,S4,k5,S5,o,s5,e5,fun H6 n u s6=>?_⟩;obtain⟨C,F⟩:=u.held Y Z;have xx:=((I.trans M.aside).trans P.aside).trans u.aside;have p:dW K H6 n f vs3:=((z.ext M).ext P).ext u;cases k5 with
    |true=>
     obtain⟨⟨q1,r7,S7⟩,e7,c⟩:=oB1.mp c;obtain⟨⟨z1,r8,S8⟩,e8,c⟩:=oM1.mp c;cases c;refine hb _ _ _ ⟨G,n,S5,f,vs3,q1,r7,S7,C,F,p,o.ext u,s6,e7,?_,fun σ8 H8 W vs8 x8 T U v O s8=>⟨r7,W,S7,f++q1,vs8,z1,xx.trans x8,T,U,v,O,s8,e8,?_,?_⟩⟩
     ·rw[lA1]at h;dsimp only at h;lia
     ·rw[<- q,bG]
     ·have:=v.length;have h3:=p.length;rw[lA1]at this h;dsimp only at h;lia
    |false=>exact⟨G,n,S5,f,vs3,xs3,xx,C,F,p,o.ext u,s6,c,q,h⟩
  ·cases c
theorem sy{K:Fg1}{k:Nat}{keep:List Nat}{m:FI}{g:FG}{t:FT}{b:FV}{tb:dy->TS}(hb:∀ a E σ H,FW K a b E σ H->tb a E σ H){σ:L2.St}{H:Hp}{Q:VK}(h:tM K (eK k keep m g t b) σ H Q):
  uF k keep (HY K m) (Dk K g) (xV K t) tb σ H Q:=by
 obtain⟨r,mu,S,d,Y,F,O,f,hc⟩:=h;obtain⟨⟨J,X⟩,P,f⟩:=oB1.mp f;obtain⟨⟨xs,r2,G⟩,U,f⟩:=oB1.mp f;dsimp only at f;split at f
 ·rename_i R;cases f;refine ⟨r,mu,S,J,X,F,O,P,fun j H1 mu1 M T N p i=>?_⟩;have w:Ext mu1 mu1 H1 (upd H1 p (.lst [])):=Ext.fresh i;refine rK (hb p) T w.w d2 (N.notin i) .nil ((CL k keep (F.ext M)).ext w) (N.fresh i) U (by simpa using R) fun W H' mu' s v C x B V s'=>?_;have y:Ext mu1 (mu'++[p]) H1 H':=by
   refine⟨((bW.mp v.pre).2).trans (bu _ _),fun b o e n=>?_,fun b ys e=>v.tup b ys (w.tup b ys e),fun b o u e=>v.frz b o u (w.frz b o u e),fun b D=>?_⟩
   ·have L:b≠p:=ei e i;exact v.old b o (by rw [dR L];exact e) fun z=>by
     rcases aF.mp z with z|z
     ·exact L z
     ·exact n z
   ·rcases aG.mp D with z|z
    ·rcases v.new b (mC1 _ z)with q|q
     ·rcases aF.mp q with q|q
      ·exact .inr (by rw[q];exact i)
      ·exact .inl q
     ·by_cases l:b=p
      ·exact .inr (by rw[l];exact i)
      ·rw[dR l]at q;exact .inr q
    ·have:b=p:=by simpa using z
     exact .inr (by rw[this];exact i)
  refine hc _ H' (mu'++[p]) (M.trans y) (.ref (gi s'.len p)) ⟨by rw[lA1,lA1,s'.len];rfl,?_,fun n o b h1 h2=>?_⟩
  ·rw[bw];refine⟨s'.nd,by simp,fun b hb c hc e=>?_⟩;have:c=p:=by simpa using hc
   subst this;subst e;exact x hb
  ·by_cases I:n<G.length
   ·rw[gL1 I]at h1;rw[gL1 (by rw[s'.len];exact I)]at h2;exact(s'.ob n o b h1 h2).mor [p]
   ·have A:n=G.length:=by
     have:=(gE1.mp h1).1;rw[lA1]at this;simp at this;lia
    subst A;rw[gR1 (nR1 _)]at h1;rw[<- s'.len,gR1 (nR1 _)]at h2;simp at h1 h2;subst h1;subst h2;exact⟨s,C,(by simpa using B:dW K H' mu' xs s).mor [p]⟩
 ·cases f
section
variable{X:Cx}
theorem qZ{elt tg iter:Expr}{ifs:List Expr}{scope:dL}{pos:Pos}{T:List Str}{keep:List Nat}{i:List (Str×dy)}{m:FI}{g:FG}{t:FT}{e:FE}(hc:X.calm=true)(C:FB X scope T keep)(d:iX X.env.cells scope.names []=some i)(hi:XI X tg iter m)(hb:∀s H b,HL (cxC X scope i T keep s H b) X.K tg ifs elt g t e)(hs:∀x,foldedSetIterable iter X.env x=pure x:=by intro _;rfl):XE X (.ListComp elt [⟨tg,iter,ifs,0⟩] scope pos) (eK T.length keep m g t (ev e)):=
 ⟨eU (uU (emit:=oG elt) (tb:=fun p=>qy p (tM X.K e)) hc (fun it f c=>tf elt tg iter ifs scope pos it f c) C d hi.h (fun s H b p=>⟨(hb s H b).g.h,(hb s H b).t.h,pF (hb s H b).e.h p⟩) hs)
  fun σ H Q h=>sy (fun a E σ H q=>m4 q) h⟩
theorem gu{elt tg iter:Expr}{ifs:List Expr}{scope:dL}{pos b n:Pos}{y:Str}(i:Nat){T:List Str}{keep:List Nat}{l:List (Str×dy)}{m:FI}{g:FG}{t:FT}{e:FE}(hc:X.calm=true)(C:FB X scope T keep)(f:iX X.env.cells scope.names []=some l)(hi:XI X tg iter m)(hb:∀s H c,HL (cxC X scope l T keep s H c) X.K tg ifs elt g t e)(hN:X.N.Nodup)(hy:X.N[i]?=some y)(hx:uo X.env.scope y)(k:swapsWith (.ListComp elt [⟨tg,iter,ifs,0⟩] scope pos) (some (.Name y n)) b.line X.env=pure true:=by rfl)(hf:X.fn y=true\/X.env.scope.names.lookup y=some .local:=by first|exact .inl rfl|exact .inr rfl|assumption)(hs:∀x,foldedSetIterable iter X.env x=pure x:=by intro _;rfl):XS X (.Assign [.Name y n] (.ListComp elt [⟨tg,iter,ifs,0⟩] scope pos) b) (d6 (eK T.length keep m g t (ev e)) (gN i)):=
 ⟨gU (AT (emit:=oG elt) (tb:=fun p=>qy p (tM X.K e)) hc k (fun it j d=>tf elt tg iter ifs scope pos it j d) C f hi.h (fun s H c p=>⟨(hb s H c).g.h,(hb s H c).t.h,pF (hb s H c).e.h p⟩) hN hy hx hf hs)
  fun E σ H h=>Ff (fun σ H Q q=>sy (fun a E σ H q=>m4 q) q) h⟩
end
noncomputable def rO:D->Option Key
 | .int i=>some (.inl i)
 | .str x=>some (.inr x)
 |_=>none
noncomputable def dV{κ:Type}[DecidableEq κ](kvs:List (κ×D))(k:κ):Option D:=(kvs.find? fun p=>decide (p.1=k)).map (·.2)
noncomputable def eV{κ:Type}[DecidableEq κ](kvs:List (κ×D))(k:κ)(d:D):List (κ×D):=
 if(kvs.any fun p=>decide (p.1=k))=true then kvs.map (fun p=>if p.1=k then(p.1,d)else p)else kvs++[(k,d)]
section
variable{K:Fg1}{H:Hp}{mu:List dy}
theorem ka{d:D}{v:V}{k:Key}(r:eB K H mu d v)(h:rO d=some k):v=kV k:=by
 cases r with
 |int i=>cases h;rfl
 |str x=>cases h;rfl
 |_=>cases h
end
section
variable{κ:Type} [DecidableEq κ] {K:Fg1}{H:Hp}{mu:List dy}
theorem KR.length:∀{ks:List (κ×D)} {ws:List (κ×V)},KR K H mu ks ws->ks.length=ws.length:=fun h=>Paired.length h
theorem KR.look{k:κ}:∀ {ks:List (κ×D)} {ws:List (κ×V)},KR K H mu ks ws ->
  (∀d,dV ks k=some d -> ∃v,hU ws k=some v/\eB K H mu d v)/\(dV ks k=none->hU ws k=none):=by
 intro ks ws h
 induction h with
 |nil=>exact⟨fun d h=>by simp[dV]at h,fun _=>rfl⟩
 | @cons p q ks ws r t ih=>
  obtain⟨a,f⟩:=p;obtain⟨j,c⟩:=q;obtain⟨e,r⟩:=r;dsimp only at e r;subst e;obtain⟨h1,h2⟩:=ih;by_cases b:a=k
  ·subst b;refine⟨fun d h=>?_,fun h=>?_⟩
   ·have:f=d:=by simpa[dV]using h
    subst this;exact⟨c,by simp[hU],r⟩
   ·simp[dV]at h
  ·have g:dV ((a,f)::ks) k=dV ks k:=by simp[dV,a0,b]
   have i:hU ((a,c)::ws) k=hU ws k:=by simp[hU,a0,b]
   rw[g,i];exact⟨h1,h2⟩
theorem KR.any{k:κ}:∀{ks:List (κ×D)} {ws:List (κ×V)},KR K H mu ks ws->(ks.any fun p=>decide (p.1=k))=ws.any fun p=>decide (p.1=k):=by
 intro ks ws h
 induction h with
 |nil=>rfl
 |cons r t ih=>rw[bc,bc,ih,r.1]
theorem KR.repl{k:κ}{d:D}{v:V}(q:eB K H mu d v):∀ {ks:List (κ×D)} {ws:List (κ×V)},KR K H mu ks ws ->
  KR K H mu (ks.map fun p=>if p.1=k then(p.1,d)else p) (ws.map fun p=>if p.1=k then(p.1,v)else p):=by
 intro ks ws h
 induction h with
 |nil=>exact .nil
 | @cons a b ks ws r t ih=>
  refine .cons ?_ ih;obtain⟨e,r⟩:=r;dsimp only;by_cases h:a.1=k
  ·rw[if_pos h,if_pos (e ▸ h)];exact⟨e,q⟩
  ·rw[if_neg h,if_neg (e ▸ h)];exact⟨e,r⟩
theorem KR.snoc{k:κ}{d:D}{v:V}(q:eB K H mu d v):∀{ks:List (κ×D)} {ws:List (κ×V)},KR K H mu ks ws->KR K H mu (ks++[(k,d)]) (ws++[(k,v)]):=by
 intro ks ws h
 induction h with
 |nil=>exact .cons ⟨rfl,q⟩ .nil
 |cons r t ih=>exact .cons r ih
theorem KR.put{k:κ}{d:D}{v:V}(q:eB K H mu d v){ks:List (κ×D)}{ws:List (κ×V)}(h:KR K H mu ks ws):KR K H mu (eV ks k d) (g9 ws k v):=by
 unfold eV g9;rw[h.any];split
 ·exact h.repl q
 ·exact h.snoc q
end
noncomputable def t5:G2:=fun d e S=>match e with
 | .ref n=>match S[n]? with
  |some (.dct kvs)=>(rO d).map fun k=>(.bl (dV kvs k).isSome,S)
  |_=>Fy d e S
 |_=>Fy d e S
noncomputable def ix:G2:=fun d e S=>match e with
 | .ref n=>match S[n]? with
  |some (.dct kvs)=>(rO d).map fun k=>(.bl (!(dV kvs k).isSome),S)
  |_=>kQ d e S
 |_=>kQ d e S
noncomputable def kS:G2:=fun d e S=>match d with
 | .ref n=>match S[n]? with
  |some (.dct kvs)=>(rO e).bind fun k=>(dV kvs k).map fun x=>(x,S)
  |_=>zy d e S
 |_=>zy d e S
noncomputable def lp:G3:=fun o i v S=>match o with
 | .ref n=>match S[n]? with
  |some (.dct kvs)=>(rO i).bind fun k=>if kvs.length<dF then some (.non,S.set n (.dct (eV kvs k v)))else none
  |_=>jw o i v S
 |_=>jw o i v S
section
variable{X:Cx}
theorem mJ{K:Fg1}{H:Hp}{mu:List dy}{S:Sto}(hs:Sim K H mu S){n:Nat}{a:dy}{kvs:List (Key×D)}{k:Key}{y:V}(hn:mu[n]? = some a)(he:S[n]? = some (.dct kvs))(hy:y=kV k):
  ∃o:Option V,nM H a y o/\(∀d,dV kvs k=some d -> ∃v,o=some v/\eB K H mu d v)/\(dV kvs k=none->o=none)/\o.isSome=(dV kvs k).isSome:=by
 obtain⟨ws,b,c⟩:=hs.dct he hn;subst hy;obtain⟨h1,h2⟩:=c.look (k:=k);refine⟨hU ws k,nM.k b,h1,h2,?_⟩;cases e:dV kvs k with
 |none=>rw[h2 e];rfl
 |some d=>obtain⟨v,f,_⟩:=h1 d e;rw[f];rfl
theorem Gq(t:X.A.units+64<cLine):gh X (compareOp .In) (r2 X.K (b2 t5)):=by
 intro pins s σ H x y u w Q I i f h;obtain⟨mu,S,d,e,r,j,l,b,c,a,hc⟩:=nv h;have back:Fy d e S=some (r,j)->dG (model X.prog X.w) X.A (compareOp .In u w) (EP X pins σ Q) X.xe s:=fun a=>Ir t pins s σ H x y u w Q I i f ⟨mu,S,[d,e],r,j,.cons l (.cons b .nil),c,a,hc⟩;unfold t5 at a;split at a
 ·rename_i n;split at a
  ·rename_i kvs q;obtain⟨k,v,a⟩:=oM1.mp a;cases a;cases b with
   |ref m=>
    cases f;obtain⟨o,g,_,_,hi⟩:=mJ c m q (ka l v);exact II (by lia) I g i fun s' p=>⟨.bl o.isSome,H,p,rfl,by rw[hi];exact hc.now (.bl _) c⟩
  ·exact back a
 ·exact back a
theorem yO(t:X.A.units+64<cLine):gh X (compareOp .NotIn) (r2 X.K (b2 ix)):=by
 intro pins s σ H x y u w Q I i f h;obtain⟨mu,S,d,e,r,j,l,b,c,a,hc⟩:=nv h;have back:kQ d e S=some (r,j)->dG (model X.prog X.w) X.A (compareOp .NotIn u w) (EP X pins σ Q) X.xe s:=fun a=>Bc t pins s σ H x y u w Q I i f ⟨mu,S,[d,e],r,j,.cons l (.cons b .nil),c,a,hc⟩;unfold ix at a;split at a
 ·rename_i n;split at a
  ·rename_i kvs q;obtain⟨k,v,a⟩:=oM1.mp a;cases a;cases b with
   |ref m=>
    cases f;obtain⟨o,g,_,_,hi⟩:=mJ c m q (ka l v);exact Cf (by lia) I g i fun s' p=>⟨.bl (!o.isSome),H,p,rfl,by rw[hi];exact hc.now (.bl _) c⟩
  ·exact back a
 ·exact back a
theorem FC(P:X.A.units+64<cLine):C0 X (r2 X.K (b2 kS)):=by
 intro value b pins s σ H x y v u Q I t w h j;obtain⟨mu,S,d,e,r,B,C,l,p,c,hc⟩:=nv h;have back:zy d e S=some (r,B)->dG (model X.prog X.w) X.A (subscriptTail value b v u) (EP X pins σ Q) X.xe s:=fun c=>HP value b pins s σ H x y v u Q I t w ⟨mu,S,[d,e],r,B,.cons C (.cons l .nil),p,c,hc⟩ j;unfold kS at c;split at c
 ·rename_i n;split at c
  ·rename_i kvs G;obtain⟨k,M,c⟩:=oB1.mp c;obtain⟨z,J,c⟩:=oM1.mp c;cases c;cases C with
   | @ref _ a O=>
    cases t;obtain⟨o,g,h1,_,_⟩:=mJ p O G (ka l M);obtain⟨K,F,E⟩:=h1 _ J;subst F;have A:=ss I g;unfold subscriptTail;refine wB1 ?_;rw[getitemInPython_of_ne A.not_modules];refine wB1 (wpAny_specialOf A PySem.F.slot_dict_getitem.lookup ?_);have i:dG (model X.prog X.w) X.A (subscripted b false (.ref a) u) (fun r f=>dG (model X.prog X.w) X.A (letTemporaryGo value (.ref a) r >>= fun _=>pure r) (EP X pins σ Q) X.xe f) X.xe s:=by
     rw[j];exact wpAny_operating (wpAny_mono (w5 (by lia) I g w fun L D N q=>(⟨K,H,N,q,hc.now E p⟩:EP X pins σ Q L D)) (fun r f m=>wB1 (wpAny_letTemporaryGo (wP1 m))) fun _ _ x=>x)
    first
     |exact wP1 (wB1 i)
     |exact wB1 i
     |exact i
  ·exact back c
 ·exact back c
theorem Dw(L:X.A.units+64<cLine):um X (rU X.K (b3 lp)):=by
 intro pins s σ H o i v z t u Q I g p l h;obtain⟨mu,S,ds,d,w,E,b,a,hc⟩:=id h;cases E with
 |cons y F=>cases F with
  |cons j C=>cases C with
   |cons m B=>
    cases B;rename_i r f q;dsimp only[b3]at a;have back:jw r f q S=some (d,w)->dG (model X.prog X.w) X.A (setItem z t u) (fun _ s'=>∃H',Inv X pins σ H' s'/\Q H') X.xe s:=fun a=>F3 pins s σ H o i v z t u Q I g p l ⟨mu,S,[r,f,q],d,w,.cons y (.cons j (.cons m .nil)),b,a,hc⟩;unfold lp at a;split at a
    ·rename_i n;split at a
     ·rename_i kvs D;obtain⟨k,K,a⟩:=oB1.mp a;split at a
      ·rename_i G;cases a;cases y with
       |ref e=>
        cases g;obtain⟨ws,c,x⟩:=b.dct D e;have A:=ka j K;subst A;refine w4 (by lia) I (xn.k c (by rw[<- x.length];exact G)) p l fun s' J=>⟨_,J,?_⟩;have put:Ext mu mu H (upd H _ (.dK (g9 ws k v))):=Ext.put c trivial (gM1 e);exact hc _ mu put (b.put e c trivial ⟨_,d2,(x.put m).ext put⟩)
      ·cases a
     ·exact back a
    ·exact back a
noncomputable def B5:G2:=fun d e S=>match e with
 | .non=>some (.bl (ou d),S)
 | .bl b=>match d with
  | .bl c=>some (.bl (c == b),S)
  |_=>none
 |_=>none
noncomputable def gM:G2:=fun d e S=>match e with
 | .non=>some (.bl (!ou d),S)
 | .bl b=>match d with
  | .bl c=>some (.bl (!(c == b)),S)
  |_=>none
 |_=>none
theorem Go:gh X (compareOp .Is) (r2 X.K (b2 B5)):=by
 intro pins s σ H x y u w Q I j i h;obtain⟨mu,S,d,e,r,l,k,a,g,f,hc⟩:=nv h;cases e with
 |non=>exact Gp pins s σ H x y u w Q I j i ⟨mu,S,[d,.non],r,l,.cons k (.cons a .nil),g,f,hc⟩
 |bl b=>
  cases d with
  |bl c=>
   cases f;cases k;cases a;cases j;cases i;exact is_bool ⟨.bl (c == b),H,I,rfl,hc.now (.bl _) g⟩
  |_=>cases f
 |_=>cases f
theorem mF:gh X (compareOp .IsNot) (r2 X.K (b2 gM)):=by
 intro pins s σ H x y u w Q I j i h;obtain⟨mu,S,d,e,r,l,k,a,g,f,hc⟩:=nv h;cases e with
 |non=>exact D9 pins s σ H x y u w Q I j i ⟨mu,S,[d,.non],r,l,.cons k (.cons a .nil),g,f,hc⟩
 |bl b=>
  cases d with
  |bl c=>
   cases f;cases k;cases a;cases j;cases i;exact isnot_bool ⟨.bl (!(c == b)),H,I,rfl,hc.now (.bl _) g⟩
  |_=>cases f
 |_=>cases f
noncomputable def zb:FE:=fun _ S=>some (.ref S.length,S++[.dct []])
theorem xF{pos:Pos}:XE X (.Dict [] [] pos) zb:=⟨eU yE <| by
 rintro σ H Q ⟨r,mu,S,d,e,f,a,c,hc⟩ p b;cases c;exact hc _ _ (mu++[p]) (Ext.new_ b) (.ref (gi a.len p)) (a.new b ⟨[],d2,.nil⟩)⟩
noncomputable def Bx:List (FE×FE)->Ev->Sto->Option (List (D×D)×Sto)
 |[],_,S=>some ([],S)
 |(a,b)::l,r,S=>(a r S).bind fun p=>(b r p.2).bind fun q=>(Bx l r q.2).map fun t=>((p.1,q.1)::t.1,t.2)
noncomputable def vj:List (D×D)->Option (List (Key×D))
 |[]=>some []
 |(k,d)::l=>(rO k).bind fun k=>(vj l).map fun t=>(k,d)::t
noncomputable def rH(l:List (FE×FE)):FE:=fun r S=>(Bx l r S).bind fun p=>(vj p.1).bind fun kvs=>if kvs.length<=15 then some (.ref p.2.length,p.2++[.dct (kvs.foldl (fun acc kv=>eV acc kv.1 kv.2) [])])else none
structure XP (X:Cx)(pos:Pos)(ks:List (Option Expr))(vs:List Expr)(l:List (FE×FE)):Prop where
 h:Ho X pos ks vs (l.map fun p=>(tM X.K p.1,tM X.K p.2))
theorem uv{pos:Pos}:XP X pos [] [] []:=⟨AV⟩
theorem fY{pos:Pos}{k v:Expr}{ks:List (Option Expr)}{vs:List Expr}{a b:FE}{l:List (FE×FE)}(hk:XE X k a)(hv:XE X v b)(t:XP X pos ks vs l):XP X pos (some k::ks) (v::vs) ((a,b)::l):=⟨yt hk.h hv.h t.h⟩
theorem yr{K:Fg1}{σ:L2.St}:∀ {l:List (FE×FE)} {r:Ev} {mu:List dy} {H:Hp} {S e:Sto} {ps:List (D×D)} {Q:List (V×V)->Hp->Prop},fj K H mu r σ->Sim K H mu S->Bx l r S=some (ps,e) ->
  (∀vs H' mu',Ext mu mu' H H'->Paired (fun(p:D×D) (q:V×V)=>eB K H' mu' p.1 q.1/\eB K H' mu' p.2 q.2) ps vs->Sim K H' mu' e->Q vs H')->ph (l.map fun p=>(tM K p.1,tM K p.2)) σ H Q
 |[],r,mu,H,S,e,ps,Q,he,hs,c,hc=>by cases c;exact hc [] H mu (.refl _ _) .nil hs
 |(a,b)::l,r,mu,H,S,e,ps,Q,he,hs,c,hc=>by
  obtain⟨⟨d,j⟩,o,c⟩:=oB1.mp c;obtain⟨⟨k,x⟩,z,c⟩:=oB1.mp c;obtain⟨⟨t,E⟩,u,c⟩:=oM1.mp c;cases c;refine⟨r,mu,S,d,j,he,hs,o,fun v H1 mu1 i A B=>⟨r,mu1,j,k,x,he.ext i,B,z,fun C H2 s g r2 y=>?_⟩⟩;refine yr ((he.ext i).ext g) y u fun vs w f h n m=>hc _ w f ((i.trans g).trans h) (.cons ⟨(A.ext g).ext h,r2.ext h⟩ n) m
theorem zk{K:Fg1}{H:Hp}{mu:List dy}:∀ {ps:List (D×D)} {vs:List (V×V)} {kvs:List (Key×D)},Paired (fun (p:D×D) (q:V×V)=>eB K H mu p.1 q.1/\eB K H mu p.2 q.2) ps vs->vj ps=some kvs ->
  ∃ws:List (Key×V),vs=ws.map (fun c=>(kV c.1,c.2))/\KR K H mu kvs ws:=by
 intro ps vs kvs j h
 induction j generalizing kvs with
 |nil=>cases h;exact⟨[],rfl,.nil⟩
 | @cons a b ps vs q t ih=>
  obtain⟨k,d⟩:=a;obtain⟨m,f⟩:=b;obtain⟨i,l,h⟩:=oB1.mp h;obtain⟨rest,g,h⟩:=oM1.mp h;cases h;obtain⟨ws,e,r⟩:=ih g;have:=ka q.1 l;dsimp only at this;subst this;exact⟨(i,f)::ws,by rw[mP1,<- e],.cons ⟨rfl,q.2⟩ r⟩
theorem y3{K:Fg1}{H:Hp}{mu:List dy}:∀{kvs:List (Key×D)} {ws:List (Key×V)} {acc:List (Key×D)} {acw:List (Key×V)},KR K H mu kvs ws->KR K H mu acc acw->KR K H mu (kvs.foldl (fun acc c=>eV acc c.1 c.2) acc) (iq acw ws):=by
 intro kvs ws acc acw f h
 induction f generalizing acc acw with
 |nil=>exact h
 | @cons a b kvs ws r t ih=>
  obtain⟨k,d⟩:=a;obtain⟨g,v⟩:=b;obtain⟨e,r⟩:=r;dsimp only at e r;subst e;show KR K H mu (kvs.foldl _ (eV acc k d)) (iq (g9 acw k v) ws);exact ih (h.put r)
theorem qr{pos:Pos}{ks:List (Option Expr)}{vs:List Expr}{l:List (FE×FE)}(h:XP X pos ks vs l)(m:ks.all (·.isSome)=true:=by rfl)(L:ks.length=vs.length:=by rfl)(h0:ks≠[]:=by(intro z;cases z))(x:ks.length<=15:=by decide):XE X (.Dict ks vs pos) (rH l):=
 ⟨eU (A3 h.h m L h0 x) <| by
  rintro σ H Q ⟨r,mu,S,d,R,I,D,f,hc⟩ p g;obtain⟨⟨ps,G⟩,J,f⟩:=oB1.mp f;obtain⟨kvs,O,f⟩:=oB1.mp f;dsimp only at f;split at f
  ·rename_i t;cases f;have A:Ext mu mu H (upd H p (.dK [])):=Ext.fresh g;refine yr (I.ext A) (D.fresh g) J fun vs H1 mu1 i P j=>?_;obtain ⟨s,v⟩:=i.held (a:=p) (o:=.dK []) d2 (D.notin g);obtain ⟨ws,N,rk⟩:=zk P O;refine ⟨s,ws,N,by rw [<- rk.length];exact t,?_⟩;have put:Ext (p::mu1) (p::mu1) H1 (upd H1 p (.dK (iq [] ws))):=Ext.put s trivial mS1;have M:=j.aside put.inner v;have y:Ext mu (mu1++[p]) H (upd H1 p (.dK (iq [] ws))):=by
    refine⟨i.pre.trans (bu _ _),fun b o e n=>?_,fun b ys e=>put.tup b ys (i.tup b ys (A.tup b ys e)),fun b o u e=>put.frz b o u (i.frz b o u (A.frz b o u e)),fun b C=>?_⟩
    ·have F:b≠p:=ei e g;rw[dR F];exact i.old b o (by rw[dR F];exact e) n
    ·rcases aG.mp C with z|z
     ·rcases i.new b z with q|q
      ·exact .inl q
      ·by_cases k:b=p
       ·exact .inr (by rw[k];exact g)
       ·rw[dR k]at q;exact .inr q
     ·have:b=p:=by simpa using z
      exact .inr (by rw[this];exact g)
   have B:=y3 rk (acc:=[]) (acw:=[]) .nil;refine hc _ _ (mu1++[p]) y (.ref (gi j.len p)) ⟨by rw[lA1,lA1,j.len];rfl,?_,fun n o b h1 h2=>?_⟩
   ·rw[bw];refine⟨j.nd,by simp,fun b K c hc e=>?_⟩;have:c=p:=by simpa using hc
    subst this;subst e;exact v K
   ·by_cases E:n<G.length
    ·rw[gL1 E]at h1;rw[gL1 (by rw[j.len];exact E)]at h2;exact(M.ob n o b h1 h2).mor [p]
    ·have w:n=G.length:=by
      have:=(gE1.mp h1).1;rw[lA1]at this;simp at this;lia
     subst w;rw[gR1 (nR1 _)]at h1;rw[<- j.len,gR1 (nR1 _)]at h2;simp at h1 h2;subst h1;subst h2;exact⟨_,d2,KR.mor [p] (Paired.mapP B fun _ _ z=>⟨z.1,z.2.exw put.inner⟩)⟩
  ·cases f⟩
end
section
variable{K:Fg1}{H H':Hp}{mu mu':List dy}{S:Sto}
end
theorem lM{X:Cx}(i j:Nat){x y:Str}{a b:Expr}{m:FA}{l n pt pos:Pos}{kt k2 pt2}(hc:X.calm=true)(hN:X.N.Nodup)(hi:X.N[i]? = some x)(t:X.N[j]? = some y)(k:i≠j)(hx:X.env.scope.names.lookup x=some .local)(hy:X.env.scope.names.lookup y=some .local)(ha:XA X [a,b] m)(hw:swappedStores [.Tuple [.Name x l,.Name y n] kt pt] (.Tuple [a,b] k2 pt2) X.env=pure (some [x,y]):=by rfl)(hs:swapsWithSole [.Tuple [.Name x l,.Name y n] kt pt] (.Tuple [a,b] k2 pt2) pos.line X.env=pure false:=by rfl):
  XS X (.Assign [.Tuple [.Name x l,.Name y n] kt pt] (.Tuple [a,b] k2 pt2) pos) (d6 (eQ m) (gT 2 (gCs (gN i) (gCs (gN j) gNl)))):=
 ⟨gU (DK hc hN hi t k hx hy ha.h hw hs) <| by
  rintro E σ H ⟨r,mu,S,f,B,w,o,hs,g,hc⟩;obtain⟨⟨d,C⟩,e,g⟩:=oB1.mp g;obtain⟨⟨r2,z⟩,c,g⟩:=oB1.mp g;cases g;obtain⟨⟨ds,A⟩,s,e⟩:=oB1.mp e;dsimp only at e;split at e
  ·cases e;refine⟨r,mu,S,ds,_,o,hs,s,fun vs H1 mu1 p h v=>?_⟩;dsimp only at c;rw[gT]at c;split at c
   ·cases h with
    |nil=>cases c
    |cons u h=>cases h with
     |nil=>cases c
     |cons q h=>cases h with
      |nil=>
       cases c;exact⟨_,_,rfl,hc _ H1 mu1 p (((o.ext p).set u).set q) v⟩
      |cons _ _=>cases c
   ·cases c
  ·cases e⟩
noncomputable def zA:G2:=fun d e S=>match d,e with
 | .int i,.int j=>some (.int (i+j),S)
 |_,_=>none
theorem BR{X:Cx}:HM X .Add (r2 X.K (b2 zA)):=by
 intro pins s σ H x y v u Q I g f h;obtain⟨mu,S,d,e,r,l,k,b,c,a,hc⟩:=nv h;unfold zA at a;split at a
 ·rename_i i j;cases a;cases k;cases b;exact BS pins s σ H _ _ v u Q I g f ⟨i,j,rfl,rfl,hc.now (.int _) c⟩
 ·cases a
end Mi
namespace HT
open PySem PySem.Spec PyProof.Rows
variable{prog:dz}{w:dB}{A:dA}{E:dr->dw->Prop}{s:dw}
theorem jj{t sl:dy}{items:Array dr}{e vu:dr}{lo hi:Option Int}{Q:dr->dw->Prop}(ht:IsTup s.heap t items)(hs:s.heap.IsSliceOf sl e vu .none)(pl:IsPart e lo)(g:IsPart vu hi)(hw:sIx items.size 0 lo=0/\sIx items.size items.size hi=items.size)(h:Q (.ref t) s):dG (model prog w) A (getItem (.ref t) (.ref sl)) Q E s:=by
 obtain⟨i,d,b,f⟩:=id hs;have c:s.TypeIs (.ref sl) "slice":=⟨i,d,b⟩;unfold getItem
 try with_reducible refine wpAny_holding ?_
 first|refine wB1 (wP1 ?_)|skip
 refine wB1 (wpAny_sequenceKey ht.typeIs (by decide) ?_);refine wB1 (wpAny_callSpecial?_slot (name:=Str.ofString "__getitem__") ht.typeIs PyProof.Rows.slot_tuple_getitem
  (wE1 PyProof.Rows.slot_tuple_getitem ht.typeIs entry_tuple_getitem ?_ (args_tuple_getitem _ _)))
 show dG _ _ (Builtin.Tuple.tupleItemsOf (.ref t) >>= _) _ _ s;refine wB1 (tupleItemsOf_ ht ?_);refine wB1 (wpAny_typeOf c ?_);rw[if_pos (by decide)];refine wB1 (gY hs pl g ?_);have a:((((sIx items.size 0 lo:Nat):Int) == 0&&(1:Int) == 1&&(sIx items.size items.size hi-sIx items.size 0 lo) == items.size)=true):=by
  rw[hw.1,hw.2];simp
 show dG _ _ (if(((sIx items.size 0 lo:Nat):Int) == 0&&(1:Int) == 1&&(sIx items.size items.size hi-sIx items.size 0 lo) == items.size)=true then _ else _) _ _ s;rw[if_pos a];refine wB1 ?_;unfold Builtin.Tuple.tupleIsExact;refine wB1 (wpAny_typeOf ht.typeIs (wP1 ?_));rw[if_pos (by decide)]
 first
  |exact wB1 (wpAny_rule (wP1 ⟨_,rfl,wP1 h⟩))
  |exact wB1 (wpAny_rule (wB1 (wP1 ⟨_,rfl,wP1 h⟩)))
end HT
namespace Mi
open PySem PySem.Spec PyProof.Rows L2
noncomputable def Ij(K:Fg1):V->Option Int->Option Int->Hp->VK->Prop:=fun x lo hi H Q=>∃a xs,x = .ref a/\jA K H a xs/\(HT.sIx xs.length 0 lo=0/\HT.sIx xs.length xs.length hi=xs.length)/\Q (.ref a) H
section
variable{X:Cx}
theorem AF:Ap X (Ij X.K):=by
 intro pins s σ H x v l vu lo hi sl Q I i e pl g h;obtain⟨a,xs,rfl,j,f,q⟩:=h;cases i;obtain⟨c,r,d,k⟩:=I.tuple j;have b:c.toArray.size=xs.length:=by rw[sT1];exact r.length.symm
 refine⟨"tuple",_,PyProof.Rows.slot_tuple_getitem.lookup,d.typeIs,?_⟩;exact HT.jj d e pl g (by rw[b];exact f) ⟨.ref a,H,I,rfl,q⟩
noncomputable def x4(S:Sto)(d:D)(lo hi:Option Int):Option (D×Sto):=(dY S d).map fun p=>if p.1=true then(.ref S.length,S++[.lst (Mi.sx p.2 lo hi)])else(.tup (Mi.sx p.2 lo hi),S)
noncomputable def wB(m:FE)(lo hi:FO):FE:=fun r S=>(m r S).bind fun p=>(lo r p.2).bind fun a=>(hi r a.2).bind fun b=>x4 b.2 p.1 a.1 b.1
theorem w6{xs:List D}{lo hi:Option Int}(h:HT.sIx xs.length 0 lo=0/\HT.sIx xs.length xs.length hi=xs.length):Mi.sx xs lo hi=xs:=by
 unfold Mi.sx;rw[h.1,h.2,bX,Nat.sub_zero,bY]
theorem sU{e:Expr}{lo hi:Option Expr}{m:FE}{a b:FO}{pos p2:Pos}(h:XE X e m)(I:XO X lo a)(E:XO X hi b):XE X (.Subscript e (.Slice lo hi none p2) pos) (wB m a b):=
 ⟨eU (yC (Ap.or AF (Ap.or Ds AG)) h.h I.h E.h) <| by
  rintro σ H Q ⟨r,mu,S,d,R,s,C,f,hc⟩;obtain⟨⟨D,B⟩,F,f⟩:=oB1.mp f;obtain⟨⟨l,A⟩,K,f⟩:=oB1.mp f;obtain⟨⟨n,L⟩,G,f⟩:=oB1.mp f;refine⟨r,mu,S,D,B,s,C,F,fun v H1 mu1 y N O=>?_⟩;refine⟨r,mu1,B,l,A,s.ext y,O,K,fun H2 w u J=>?_⟩;refine⟨r,w,A,n,L,(s.ext y).ext u,J,G,fun P g z j=>?_⟩;obtain⟨⟨k,xs⟩,M,f⟩:=oM1.mp f;have x:=(y.trans u).trans z;obtain⟨c,vs,rfl,q,t⟩:=d0 ((N.ext u).ext z) j M;cases k with
  |true=>
   cases f;right;right;exact⟨c,vs,rfl,q,fun p i=>hc _ _ (g++[p]) (x.trans (Ext.new_ i)) (.ref (gi j.len p)) (j.newL (vL t l n) i)⟩
  |false=>
   simp only[bF1,if_false]at f;cases f;by_cases o:HT.sIx xs.length 0 l=0/\HT.sIx xs.length xs.length n=xs.length
   ·left;rw[w6 o]at hc;exact⟨c,vs,rfl,q,by rw[<- t.length];exact o,hc _ _ g x (.tup q t) j⟩
   ·right;left;exact⟨c,vs,rfl,q,by rw[<- t.length];exact o,fun p i=>hc _ _ g (x.trans (Ext.fresh i)) (.tup (jA.of d2) ((vL t l n).ext (Ext.fresh i))) (j.fresh i)⟩⟩
end
mutual
inductive gt (h:dH):TK->dr->Prop
 |non:gt h .non .none
 |int (i t):gt h (.int i) (.int i t)
 |tup {a o items n xs}:h.get? a=some o->o.cls = .type "tuple"->o.data = .seq items n->gF h xs items.toList->gt h (.tup xs) (.ref a)
inductive gF (h:dH):List TK->List dr->Prop
 |nil:gF h [] []
 |cons {k v ks vs}:gt h k v->gF h ks vs->gF h (k::ks) (v::vs)
end
section
variable{prog:dz}{w:dB}{A:dA}{E:dr->dw->Prop}{s:dw}
theorem rf{Q:Int->dw->Prop}(h:Q 0xFCA86420 {s with toks:=s.toks+1}):dG (model prog w) A (pyHash .none) Q E s:=by
 have a:s.TypeIs .none "NoneType":=rfl;unfold pyHash
 first|unfold pyHashByItsType|skip
 have b:[Value.none].any Value.onHeap=false:=rfl;refine wB1 ?_;rw[cRoomFor,if_neg (by rw[b];exact aK)];refine wP1 ?_;refine wB1 (wpAny_specialOf a F.slot_NoneType_hash.lookup ?_);show dG _ _ (if(some (Value.builtin "NoneType.__hash__") == some Value.none)=true then _ else _) Q E s;rw[if_neg (by rw[beq_builtin_none];exact aK)];refine wB1 (wpAny_specialOf a F.slot_NoneType_hash.lookup ?_);show dG _ _ (callSpecialIfBoundUnlessNone? .none "__hash__" _ >>= _) Q E s;refine wB1 (wpAny_callSpecialIfBoundUnlessNone?_slot a F.slot_NoneType_hash (wE1 F.slot_NoneType_hash a F.entry_NoneType_hash (show dG _ _ (retInt 0xFCA86420) _ _ s from wpAny_ret_mkInt ?_) (F.args_NoneType_hash_1 _)));exact wP1 h
noncomputable def qm(prog:dz)(w:dB)(k:TK):Prop:=∀{A:dA} {E:dr->dw->Prop} {s:dw} {v:dr} {Q:Int->dw->Prop},A.units+k.dep<cLine->gt s.heap k v->Q k.hash {s with toks:=s.toks+k.draws}->dG (model prog w) A (pyHash v) Q E s
theorem gF.split{h:dH}:∀{ks:List TK} {vs:List dr},gF h ks vs->ks.length=vs.length:=fun a=>a.rec (motive_1:=fun _ _ _=>True) (motive_2:=fun ks vs _=>ks.length=vs.length) trivial (fun _ _=>trivial) (fun _ _ _ _ _=>trivial) rfl (fun _ _ _ ih=>congrArg (· + 1) ih)
theorem zu{xs:List TK}(all:∀k∈xs,qm prog w k):qm prog w (.tup xs):=by
 intro A E s v Q u y h;cases y with
 | @tup a o m n _ q hc t hi=>
  have l:s.TypeIs (.ref a) "tuple":=⟨o,q,hc⟩;rw[TK.dep]at u;unfold pyHash
  first|unfold pyHashByItsType|skip
  first|refine wB1 (wpAny_cRoomFor_or (.inr (by lia)) ?_)|skip
  refine wB1 (wpAny_specialOf l F.slot_tuple_hash.lookup ?_);show dG _ _ (if(some (Value.builtin "tuple.__hash__") == some Value.none)=true then _ else _) Q E s;rw[if_neg (by rw[beq_builtin_none];exact aK)];refine wB1 (wpAny_specialOf l F.slot_tuple_hash.lookup ?_);show dG _ _ (callSpecialIfBoundUnlessNone? (.ref a) "__hash__" _ >>= _) Q E s;refine wB1 (wpAny_callSpecialIfBoundUnlessNone?_slot l F.slot_tuple_hash (wE1 F.slot_tuple_hash l F.entry_tuple_hash ?_ (F.args_tuple_hash_1 _)));show dG _ _ (Builtin.Tuple.tupleItemsOf (.ref a) >>= _) _ _ s;refine wB1 (wpAny_tupleItemsOf q t ?_);refine wB1 ?_;rw[<- Array.forIn_toList];refine wpAny_forIn_list _
   (fun rest (b:Array Int) s'=>∃c d,xs=c++d/\gF s.heap d rest/\b.toList=TK.hashes c/\s'={s with toks:=s.toks+TK.drawsAll c})
   _ ?_ ?_ _ _ ⟨[],xs,rfl,hi,rfl,rfl⟩
  ·rintro x rest b s' ⟨c,d,e,p,j,rfl⟩;cases p with
   | @cons k _ f _ h1 g=>
    have r:k∈xs:=by rw[e];simp
    refine wB1 (all k r (show A.in1.units+k.dep<cLine by have:=TK.dep_mem r;rw[show A.in1.units=A.units+1 from rfl];lia) h1 ?_)
    first
     |exact wP1 ⟨c++[k],f,by simp[e],g,by rw[TK.hashes_app];simp[j,TK.hashes],by rw[TK.draws_app];simp[TK.drawsAll,bj]⟩
     |exact wB1 (wP1 (wP1 ⟨c++[k],f,by simp[e],g,by rw[TK.hashes_app];simp[j,TK.hashes],by rw[TK.draws_app];simp[TK.drawsAll,bj]⟩))
  ·rintro b s' ⟨c,d,e,p,j,rfl⟩;cases p;rw[aN]at e;subst e;show dG _ _ (retInt (Builtin.Tuple.tupleHashOf b.toList)) _ _ _;rw[j];refine wpAny_ret_mkInt ?_;show dG _ _ (if(decide (-(2:Int)^63<=Builtin.Tuple.tupleHashOf (TK.hashes xs))&&decide (Builtin.Tuple.tupleHashOf (TK.hashes xs)<2^63))=true then _ else _) Q E _;rw[TK.hash,TK.draws]at h;unfold reduceHash at h;by_cases i:(decide (-(2:Int)^63<=Builtin.Tuple.tupleHashOf (TK.hashes xs))&&decide (Builtin.Tuple.tupleHashOf (TK.hashes xs)<2^63))=true
   ·rw[if_pos i];rw[if_pos i]at h;exact wP1 (by simpa[bj]using h)
   ·rw[if_neg i];rw[if_neg i]at h;exact wB1 (wpAny_rule (wP1 (by simpa[bj]using h)))
mutual
theorem vt:∀k:TK,qm prog w k
 | .non=>fun b a h=>by cases a;exact rf h
 | .int i=>fun b a h=>by cases a;exact wpAny_pyHash_int h
 | .tup xs=>zu (rY xs)
theorem rY:∀ks:List TK,∀k∈ks,qm prog w k
 |[],k,h=>by simp at h
 |x::xs,k,h=>by
  by_cases e:k=x
  ·rw[e];exact vt x
  ·exact rY xs k ((aF.mp h).resolve_left e)
end
end
theorem gt.inj{h:dH}:∀ {k k':TK} {v:dr},gt h k v->gt h k' v->k=k':=fun e=>e.rec (motive_1:=fun k v _=>∀ k',gt h k' v->k=k') (motive_2:=fun k v _=>∀ k',gF h k' v->k=k')
  (fun k' g=>by cases g;rfl) (fun _ _ k' g=>by cases g;rfl)
  (fun j m i l ih k' g=>by
   cases g with
   |tup d n c f=>
    rw[j]at d;cases d;rw[i]at c;cases c;rw[ih _ f])
  (fun k' g=>by cases g;rfl) (fun _ _ a b k' g=>by cases g with|cons r' t'=>rw[a _ r',b _ t']) _
theorem gt.keeps{h h':dH}{d:dy}{o:Obj}{es ep}(ho:h.get? d=some o)(hd:o.data = .dict es ep)(hs:Heap.SameBut d h h'):∀ {k:TK} {v:dr},gt h k v->gt h' k v:=fun f=>f.rec (motive_1:=fun k v _=>gt h' k v) (motive_2:=fun k v _=>gF h' k v) .non .int
  (fun{a} _ _ _ _ e g c _ ih=>.tup ((hs.2 a (fun z=>by subst z;rw[e]at ho;cases ho;rw[c]at hd;cases hd)).trans e) g c ih) .nil (fun _ _ a b=>.cons a b)
theorem gF.at{h:dH}:∀{ks:List TK} {vs:List dr} (j:Nat) (h1:j<ks.length) (h2:j<vs.length),gF h ks vs->gt h ks[j] vs[j]
 |_::_,_::_,0,_,_,.cons r _=>r
 |_::ks,_::vs,j+1,h1,h2,.cons _ t=>gF.at j (by simpa using h1) (by simpa using h2) t
theorem Ae{xs ys:List TK}(b:xs.length=ys.length):((List.range (min xs.length ys.length)).all fun j=>decide (xs[j]?=ys[j]?))=decide (xs=ys):=by
 by_cases h:xs=ys
 ·subst h;simp
 ·rw[decide_eq_false h,List.all_eq_false];have:∃j,xs[j]? ≠ ys[j]?:=Classical.byContradiction fun z=>h (bZ fun j=>Classical.byContradiction fun q=>z ⟨j,q⟩);obtain⟨j,a⟩:=this;refine⟨j,?_,by simpa using a⟩;rw[aB,b,Nat.min_self];apply Classical.byContradiction;intro c;exact a (by rw[b4 (by lia),b4 (by lia)])
theorem GZ:∀(n:Nat) {k k':TK} {A:dA} {s:dw} {u v:dr},k.dep<=n->A.units+n<cLine->gt s.heap k u->gt s.heap k' v->SeqAt.EqAt A s u v (decide (k=k')):=by
 intro n
 induction n with
 |zero=>
  intro k k' A s u v F U r g;cases r with
  |tup _ _ _ _=>simp[TK.dep]at F
  |non=>
   cases g with
   |non=>simpa using SeqAt.EqAt.same (A:=A) (s:=s) Value.none
   |int i t=>simpa[sL]using jx (A:=A) (s:=s) (y:=.non) (x:=.int i) rfl ⟨t,rfl⟩ rfl rfl
   |tup e c d t=>simpa using(eY (A:=A) (s:=s) (b:=false) (v:=.non) (u:=.none) ⟨_,e,c,_,d⟩ rfl rfl (by lia)).2.1
  |int i t=>
   cases g with
   |non=>simpa[sL]using jx (A:=A) (s:=s) (y:=.int i) (x:=.non) ⟨t,rfl⟩ rfl rfl rfl
   |int j I=>
    have:=jx (A:=A) (s:=s) (y:=.int i) (x:=.int j) ⟨t,rfl⟩ ⟨I,rfl⟩ rfl rfl;have e:sL (.int i) (.int j)=decide (TK.int i=TK.int j):=by
     by_cases h:i=j
     ·subst h;simp[sL]
     ·rw[decide_eq_false (fun z=>h (by injection z))];simp[sL,h]
    rw[e]at this;exact this
   |tup e c d q=>simpa using(eY (A:=A) (s:=s) (b:=false) (v:=.int i) (u:=.int i t) ⟨_,e,c,_,d⟩ ⟨t,rfl⟩ rfl (by lia)).2.1
 |succ n ih=>
  intro k k' A s u v F U r g;cases r with
  |non=>
   cases g with
   |non=>simpa using SeqAt.EqAt.same (A:=A) (s:=s) Value.none
   |int i t=>simpa[sL]using jx (A:=A) (s:=s) (y:=.non) (x:=.int i) rfl ⟨t,rfl⟩ rfl rfl
   |tup e c d t=>simpa using(eY (A:=A) (s:=s) (b:=false) (v:=.non) (u:=.none) ⟨_,e,c,_,d⟩ rfl rfl (by lia)).2.1
  |int i t=>
   cases g with
   |non=>simpa[sL]using jx (A:=A) (s:=s) (y:=.int i) (x:=.non) ⟨t,rfl⟩ rfl rfl rfl
   |int j I=>
    have:=jx (A:=A) (s:=s) (y:=.int i) (x:=.int j) ⟨t,rfl⟩ ⟨I,rfl⟩ rfl rfl;have e:sL (.int i) (.int j)=decide (TK.int i=TK.int j):=by
     by_cases h:i=j
     ·subst h;simp[sL]
     ·rw[decide_eq_false (fun z=>h (by injection z))];simp[sL,h]
    rw[e]at this;exact this
   |tup e c d q=>simpa using(eY (A:=A) (s:=s) (b:=false) (v:=.int i) (u:=.int i t) ⟨_,e,c,_,d⟩ ⟨t,rfl⟩ rfl (by lia)).2.1
  | @tup a o f m xs w l p G=>
   cases g with
   |non=>simpa using(eY (A:=A) (s:=s) (b:=false) (v:=.non) (u:=.none) ⟨_,w,l,_,p⟩ rfl rfl (by lia)).1
   |int i t=>simpa using(eY (A:=A) (s:=s) (b:=false) (v:=.int i) (u:=.int i t) ⟨_,w,l,_,p⟩ ⟨t,rfl⟩ rfl (by lia)).1
   | @tup a2 R items2 m2 ys M P J E=>
    by_cases N:a=a2
    ·subst N;have:TK.tup xs=TK.tup ys:=gt.inj (.tup w l p G) (.tup M P J E);rw[decide_eq_true this];exact .same _
    ·refine .of_refs N ?_;have L:=G.split;have O:=E.split;have D:=SeqAt.RcAt.tuples (A:=A) (s:=s) (e:=fun j=>decide (xs[j]? = ys[j]?)) ⟨o,w,l,m,p⟩ ⟨R,M,P,m2,J⟩ (by lia) (fun j h1 h2=>by
      have C:j<xs.length:=by rw[L];simpa using h1
      have K:j<ys.length:=by rw[O];simpa using h2
      rw[TK.dep]at F;have V:=TK.dep_mem (bS C);have q:=ih (k:=xs[j]) (k':=ys[j]) (A:=A.in1) (s:=s) (by lia) (by show A.units+1+n<cLine;lia) (G.at j C (by simpa using h1)) (E.at j K (by simpa using h2));have e:decide (xs[j]?=ys[j]?)=decide (xs[j]=ys[j]):=by
       rw[gG1 C,gG1 K];simp
      rw[e];simpa using q)
     have Q:f.size=xs.length:=by rw[L];simp
     have T:items2.size=ys.length:=by rw[O];simp
     rw[Q,T]at D;have H:((List.range (min xs.length ys.length)).all (fun j=>decide (xs[j]?=ys[j]?))&&xs.length == ys.length)=decide (TK.tup xs=TK.tup ys):=by
      by_cases B:xs.length=ys.length
      ·rw[Ae B,B,beq_self_eq_true,bM];by_cases h:xs=ys
       ·subst h;simp
       ·rw[decide_eq_false h,decide_eq_false (fun z=>h (by injection z))]
      ·have S:(xs.length == ys.length)=false:=by simpa using B
       rw[S,Bool.and_false,decide_eq_false (fun z=>B (by injection z with z;rw[z]))]
     rw[H]at D;exact D
theorem yf{prog:dz}{w:dB}:∀(n:Nat) {k:TK} {A:dA} {E:dr->dw->Prop} {s:dw} {v:dr} {Q:Bool->dw->Prop},k.dep<=n->gt s.heap k v->Q true s->dG (model prog w) A (eqIsQuiet n v) Q E s:=by
 intro n
 induction n with
 |zero=>
  intro k A E s v Q d r h;cases r with
  |non=>rw[eqIsQuiet_byValue 0 rfl];exact wP1 h
  |int i t=>rw[eqIsQuiet_byValue 0 rfl];exact wP1 h
  |tup _ _ _ _=>simp[TK.dep]at d
 |succ n ih=>
  intro k A E s v Q d r h;cases r with
  |non=>rw[eqIsQuiet_byValue _ rfl];exact wP1 h
  |int i t=>rw[eqIsQuiet_byValue _ rfl];exact wP1 h
  | @tup a o b m xs f q x p=>
   have g:s.TypeIs (.ref a) "tuple":=⟨o,f,q⟩;rw[TK.dep]at d;unfold eqIsQuiet;refine wB1 (wpAny_specialOf g F.slot_tuple_eq.lookup ?_);show dG _ _ (isInstance (.ref a) (.type "tuple") >>= _) _ _ s;refine wB1 (wpAny_isInstance g isSubtype_tuple_tuple ?_);simp only[b5,bF1,if_false];refine wB1 (wpAny_seqItems f x ?_);refine wB1 ?_;show dG _ _ (forIn b _ _) _ _ s;rw[<- Array.forIn_toList];refine wpAny_forIn_list _ (fun rest r s'=>r.1=none/\s'=s /\ ∃ks,gF s.heap ks rest/\TK.depAll ks<=n) _ ?_ ?_ _ _ ⟨rfl,rfl,xs,p,by lia⟩
   ·rintro v rest r s' ⟨c,rfl,ks,z,u⟩;cases z with
    | @cons j _ e _ y l=>
     rw[TK.depAll]at u;refine wB1 (ih (k:=j) (by lia) y ?_);simp only[b5,bF1,if_false];exact wP1 ⟨rfl,rfl,e,l,by lia⟩
   ·rintro⟨B,r2⟩ s' ⟨c,rfl,_⟩;simp only at c;subst c;exact wP1 h
noncomputable def fC(prog:dz)(w:dB):HeapKind prog w TK where
 is:=fun h k a=>gt h k (.ref a)/\k.dep<=8
 hash:=TK.hash
 draws:=TK.draws
 room:=fun A=>A.units+8<cLine
 inj:=fun hx hy=>hx.1.inj hy.1
 keeps:=fun x ho hd hs=>⟨x.1.keeps ho hd hs,x.2⟩
 pyHash:=fun hu hk h=>vt _ (by have:=hk.2;omega) hk.1 h
 eqBool:=fun hu hx hy h=>GZ 8 hx.2 hu hx.1 hy.1 _ _ _ _ h
 quiet:=fun hk h=>yf 8 hk.2 hk.1 h
noncomputable def JX:G2:=fun o v S=>match o,v with
 | .ref n,.ref b=>match S[n]?,S[b]? with
  |some (.lst xs),some (.lst ys)=>if xs.length+ys.length<=dF then some (.non,S.set n (.lst (xs++ys)))else none
  |_,_=>none
 |_,_=>none
noncomputable def pV(n:Nat)(k:Int):Nat:=if k<0 then(k+(n:Int)).toNat else min k.toNat n
noncomputable def wR:G3:=fun o i v S=>match o,i with
 | .ref n,.int k=>match S[n]? with
  |some (.lst xs)=>if-(2^63)<=k/\k<2^63/\xs.length<dF then some (.non,S.set n (.lst (xs.take (pV xs.length k)++v::xs.drop (pV xs.length k))))else none
  |_=>none
 |_,_=>none
noncomputable def wU(f:D->D->Option Bool)(x:D):List D->Option (List Bool)
 |[]=>some []
 |y::ys=>(f y x).bind fun b=>(wU f x ys).map (b :: ·)
noncomputable def zz:G2:=fun o x S=>match o with
 | .ref n=>match S[n]? with
  |some (.lst ys)=>(wU (gf S eF) x ys).bind fun bs=>if bs.length<2^62 then(bs.findIdx? id).map fun j=>(.int (j:Nat),S)else none
  |_=>none
 |_=>none
theorem vC(f:D->D->Option Bool)(x:D):∀{ys:List D} {bs:List Bool},wU f x ys=some bs->bs.length=ys.length /\ ∀(j:Nat) (y:D) (k:Bool),ys[j]?=some y->bs[j]?=some k->f y x=some k
 |[],bs,h=>by cases h;exact⟨rfl,fun j y k h=>by simp at h⟩
 |y::ys,bs,h=>by
  rw[wU]at h;obtain⟨b,c,h⟩:=oB1.mp h;obtain⟨g,e,h⟩:=oM1.mp h;obtain⟨d,a1⟩:=vC f x e;subst h;refine⟨by simp[d],fun j=>?_⟩;cases j with
  |zero=>intro a k h1 h2;simp at h1 h2;subst h1;subst h2;exact c
  |succ j=>intro a k h1 h2;exact a1 j a k (by simpa using h1) (by simpa using h2)
section
open PySem.MeetsSeq PySem.MeetsSeq2 PySem.MeetsSeq3 PySem.SeqRoads2
theorem rX{l:dy}{its:Array dr}{n:Nat}{x:dr}{e:Nat->Bool}{top:Int}{j:Nat}(f:j<its.size)(ht:(j:Int)<top)(c:e j=true):∀ (k i:Nat),i+k=j->(∀ m,i<=m->m<j->e m=false) ->
  Meets (Builtin.«list.index.loop» ⟨[.ref l,x,rawInt i,rawInt top],[]⟩)
   (fun A R s=>s.heap.get? l=some {cls:=.type "list",data:=.seq its n}/\(∀m (h:m<its.size),SeqAt.EqAt A.in1 s its[m] x (e m))/\R (.ok (.ret (.int j s.toks))) {s with toks:=s.toks+1})
 |0,i,hk,hno,prog,w,A,R,⟨hp,g,d,tk,os⟩,⟨hl,he,h⟩=>by
  have o:i=j:=by lia
  subst o
  wp_walk using AutoSeq1.wpAny_loadPart' hl
  rw[show(if(i:Int)<top then its[((i:Nat):Int).toNat]? else none)=some its[i] by simp[ht,f]];refine wB1 (he i f prog w _ _ ?_);rw[c]
  wp_walk
  exact h
 |k+1,i,hk,hno,prog,w,A,R,⟨hp,g,d,tk,os⟩,⟨hl,he,h⟩=>by
  have h1:i<its.size:=by lia
  have h2:(i:Int)<top:=by lia
  wp_walk using AutoSeq1.wpAny_loadPart' hl
  rw[show(if(i:Int)<top then its[((i:Nat):Int).toNat]? else none)=some its[i] by simp[h1,h2]];refine wB1 (he i h1 prog w _ _ ?_);rw[hno i (nR1 i) (by lia)]
  wp_walk
  rw[show((i:Int)+1)=((i+1:Nat):Int) by push_cast;rfl];have z:=rX (l:=l) (n:=n) (x:=x) f ht c k (i+1) (by lia) (fun m a b=>hno m (by lia) b) prog w A R _ ⟨hl,he,h⟩;exact⟨plainId_quiet plain_index_loop _,wD1 entry_index_loop (by rw[Around.under_plainId plain_index_loop _];exact z)⟩
theorem zr{l:dy}{its:Array dr}{n:Nat}{x:dr}{e:Nat->Bool}{j:Nat}(k:j<its.size)(ht:(j:Int)<2^63-1)(c:e j=true)(a:∀ m,m<j->e m=false):
  Meets (Builtin.«list.index» ⟨[.ref l,x],[]⟩)
   (fun A R s=>s.heap.get? l=some {cls:=.type "list",data:=.seq its n}/\(∀m (h:m<its.size),SeqAt.EqAt A.in1 s its[m] x (e m))/\R (.ok (.ret (.int j s.toks))) {s with toks:=s.toks+1}):=by
 intro prog w A R ⟨q,g,d,tk,p⟩ ⟨f,o,h⟩
 wp_walk using AutoSeq1.wpAny_loadPart' f
 rw[show((fun i:Int=>if i<0 then max 0 (i+(its.size:Int))else i) ((none:Option Int).getD 0))=((0:Nat):Int) by simp,show((fun i:Int=>if i<0 then max 0 (i+(its.size:Int))else i) ((none:Option Int).getD (2^63-1)))=2^63-1 by simp];have z:=rX (l:=l) (n:=n) (x:=x) k ht c j 0 (by lia) (fun m _ b=>a m b) prog w A R _ ⟨f,o,h⟩;exact⟨plainId_quiet plain_index_loop _,wD1 entry_index_loop (by rw[Around.under_plainId plain_index_loop _];exact z)⟩
end
section
variable{X:Cx}
theorem Ii{K:Fg1}{H:Hp}{Q:VK}{f:G3}{xs:List V}(h:rN K (b3 f) xs H Q):∃x y z mu S d e g r b,xs=[x,y,z]/\eB K H mu d x/\eB K H mu e y/\eB K H mu g z/\Sim K H mu S/\f d e g S=some (r,b)/\nN K mu H r b Q:=by
 obtain⟨mu,S,ds,r,b,i,c,a,hc⟩:=h;cases i with
 |nil=>cases a
 |cons q t=>cases t with
  |nil=>cases a
  |cons j t=>cases t with
   |nil=>cases a
   |cons k t=>cases t with
    |nil=>exact⟨_,_,_,mu,S,_,_,_,r,b,rfl,q,j,k,c,a,hc⟩
    |cons l t=>cases a
theorem FJ(hu:X.A.units+64<cLine):CZ X "list.index" (fun x xs H Q=>rN X.K (b2 zz) (x::xs) H Q):=by
 intro pins s σ H x xs v V Q I C B h;obtain⟨W,y,mu,S,d,e,r',S',J,T,r2,f,a,hc⟩:=yd h;cases J;unfold zz at a;split at a
 ·rename_i n;split at a
  ·rename_i ys G;obtain⟨bs,M,a⟩:=oB1.mp a;split at a
   ·rename_i r;obtain⟨j,p,a⟩:=oM1.mp a;cases a;cases T with
    |ref O=>
     obtain⟨vs,E,t⟩:=f.lst G O;cases C;obtain⟨u,rfl,K⟩:=B.one;obtain⟨z,b,L,c,Z,e⟩:=I.lstM E;obtain⟨l1,g⟩:=vC _ _ M;have l2:=t.length;have Y:=c.length;rw[b6]at p;obtain⟨R,o,k⟩:=p;have l:∀m (a:m<b.toArray.size),SeqAt.EqAt X.A.in1 s b.toArray[m] u (bs[m]?.getD false):=fun m a=>by
      have m1:m<b.length:=by simpa using a
      obtain⟨P,D,U⟩:=t.getV (i:=m) (v:=vs[m]'(by lia)) (gG1 (by lia));obtain⟨w',q,w⟩:=c.get (i:=m) (x:=vs[m]'(by lia)) (gG1 (by lia));have m2:m<bs.length:=by lia
      have N:b.toArray[m]=w':=by
       have:=gG1 m1;rw[this]at q;simpa using q
      rw[N,gG1 m2];exact(kU I f eF (A:=X.A.in1) (by show X.A.units+1+60<cLine;lia) U r2 w K (g m P bs[m] D (gG1 m2))).1
     refine call_meets F.slot_list_index ⟨_,e,rfl⟩ F.entry_list_index (F.args_list_index_2 _ _)
      (zr (n:=L) (e:=fun m=>bs[m]?.getD false) (j:=j) (by simp;lia) (by lia) ?_ ?_) ⟨e,l,?_⟩
     ·simp only[gG1 R,b7];simpa using o
     ·intro m a;have m2:m<bs.length:=by lia
      have:=k m a;simp only[gG1 m2,b7];simpa using this
     ·exact⟨.int j,H,I.tok _,⟨_,rfl⟩,hc.now (.int _) f⟩
   ·cases a
  ·cases a
 ·cases a
theorem CA:CZ X "list.insert" (fun x xs H Q=>rN X.K (b3 wR) (x::xs) H Q):=by
 intro pins s σ H x xs v J Q I q p h;obtain⟨K,y,z,mu,S,d,e,g,P,N,A,D,r2,r,j,b,hc⟩:=Ii h;cases A;unfold wR at b;split at b
 ·rename_i n k;split at b
  ·rename_i ys w;split at b
   ·rename_i m;cases b;cases D with
    |ref i=>
     cases r2;obtain⟨vs,f,t⟩:=j.lst w i;cases q;obtain⟨G,l,rfl,C,o⟩:=p.two;obtain⟨tk,rfl⟩:=C;obtain⟨E,a,B,c,M,e⟩:=I.lstM f;have O:=t.length;have L:=c.length;refine call_meets F.slot_list_insert ⟨_,e,rfl⟩ F.entry_list_insert (F.args_list_insert_3 _ _ _)
      (AutoSeq1.list_insert_list_int_val_1 _ a.toArray B k tk l (by rw[fitsIndex_both m.1 m.2.1];exact aK) (by rw[sT1];omega)) ⟨e,?_⟩
     have x:=Ext.put (u:=.lst (vs.take (pV ys.length k)++z::vs.drop (pV ys.length k))) f trivial (gM1 i);refine⟨.non,_,I.lset (its':=a.take (pV ys.length k)++l::a.drop (pV ys.length k)) f e ?_ ((c.take _).append (.cons o (c.drop _))) ?_,rfl,hc _ _ mu x .non (j.putL ((t.take _).append (.cons r (t.drop _))) i f)⟩
     ·rw[show ys.length=a.length by omega];simp[pV];exact b8 (by simp)
     ·simp;omega
   ·cases b
  ·cases b
 ·cases b
end
mutual
noncomputable def kD:D->Option TK
 | .non=>some .non
 | .int i=>some (.int i)
 | .tup xs=>(GH xs).map .tup
 |_=>none
noncomputable def GH:List D->Option (List TK)
 |[]=>some []
 |x::xs=>(kD x).bind fun k=>(GH xs).map (k :: ·)
end
noncomputable def keyT:D->Option TK
 | .tup xs=>(GH xs).bind fun ks=>if(TK.tup ks).dep<=8 then some (.tup ks)else none
 |_=>none
mutual
theorem GI:∀{d:D} {k:TK},kD d=some k->tkD k=d
 | .non,k,h=>by cases h;rfl
 | .int i,k,h=>by cases h;rfl
 | .tup xs,k,h=>by
  rw[kD]at h;obtain⟨ks,e,h⟩:=oM1.mp h;subst h;rw[tkD,tS e]
 | .bl _,k,h=>by simp[kD]at h
 | .str _,k,h=>by simp[kD]at h
 | .rol _,k,h=>by simp[kD]at h
 | .fn _,k,h=>by simp[kD]at h
 | .ref _,k,h=>by simp[kD]at h
theorem tS:∀{ds:List D} {ks:List TK},GH ds=some ks->iD ks=ds
 |[],ks,h=>by cases h;rfl
 |x::xs,ks,h=>by
  rw[GH]at h;obtain⟨k,a,h⟩:=oB1.mp h;obtain⟨t,b,h⟩:=oM1.mp h;subst h;rw[iD,GI a,tS b]
end
theorem vk{d:D}{k:TK}(h:keyT d=some k):tkD k=d/\k.dep<=8 /\ ∃xs,k = .tup xs:=by
 cases d with
 |tup xs=>
  rw[keyT]at h;obtain⟨ks,e,h⟩:=oB1.mp h;split at h
  ·rename_i a;cases h;exact⟨by rw[tkD,tS e],a,ks,rfl⟩
  ·cases h
 |_=>cases h
section
variable{X:Cx}{pins:List (dy×Obj)}{σ:L2.St}{H:Hp}{s:dw}{mu:List dy}
mutual
theorem uB(I:Inv X pins σ H s):∀(k:TK) {v:V} {u:dr},eB X.K H mu (tkD k) v->dX v u->gt s.heap k u
 | .non,v,u,r,q=>by
  rw[tkD]at r;cases r;cases q;exact .non
 | .int i,v,u,r,q=>by
  rw[tkD]at r;cases r;obtain⟨t,rfl⟩:=q;exact .int i t
 | .tup xs,v,u,r,q=>by
  rw[tkD]at r;cases r with
  |tup h t=>
   cases q;obtain⟨c,b,⟨o,d,e,n,a⟩,_⟩:=I.tuple h;exact .tup d e a (by simpa using xR I xs t b)
theorem xR(I:Inv X pins σ H s):∀(ks:List TK) {vs:List V} {a:List dr},dW X.K H mu (iD ks) vs->ea vs a->gF s.heap ks a
 |[],vs,a,r,q=>by rw[iD]at r;cases r;cases q;exact .nil
 |k::ks,vs,a,r,q=>by
  rw[iD]at r;cases r with
  |cons r t=>cases q with
   |cons q p=>exact .cons (uB I k r q) (xR I ks t p)
end
theorem tG{α β γ δ:Type}{F:α->β->Prop}{G:γ->δ->Prop}{f:α->γ}{g:β->δ}:∀{l₁:List α} {l₂:List β},Paired F l₁ l₂->(∀a b,F a b->G (f a) (g b))->Paired G (l₁.map f) (l₂.map g):=by
 intro a b h g
 induction h with
 |nil=>exact .nil
 |cons r t ih=>exact .cons (g _ _ r) ih
theorem tH{α β:Type}{F:α->β->Prop}:∀{l₁ e:List α} {l₂ f:List β},Paired F l₁ l₂->Paired F e f->Paired F (l₁++e) (l₂++f):=by
 intro a b c d h g
 induction h with
 |nil=>exact g
 |cons r t ih=>exact .cons r ih
theorem KT.length{K:Fg1}:∀{ks:List (TK×D)} {ws:List (TK×dy×dr)},KT K H mu ks ws->ks.length=ws.length:=fun h=>Paired.length h
theorem KT.mem{K:Fg1}:∀{ks:List (TK×D)} {ws:List (TK×dy×dr)},KT K H mu ks ws -> ∀x∈ws,x.1.dep<=8/\eB K H mu (tkD x.1) (.ref x.2.1):=by
 intro ks ws a x h
 induction a with
 |nil=>cases h
 |cons r t ih=>
  rcases aF.mp h with e|e
  ·subst e;rw[<- r.1];exact⟨r.2.1,r.2.2.1⟩
  ·exact ih e
theorem KT.look{K:Fg1}{k:TK}:∀ {ks:List (TK×D)} {ws:List (TK×dy×dr)},KT K H mu ks ws ->
  (∀d,dV ks k=some d -> ∃p v,atKey ws k=some p/\dX v p.2/\eB K H mu d v)/\(atKey ws k).isSome=(dV ks k).isSome:=by
 intro ks ws h
 induction h with
 |nil=>exact⟨fun d h=>by simp[dV]at h,rfl⟩
 | @cons p i ks ws r t ih=>
  obtain⟨a,f⟩:=p;obtain⟨l,a2,c⟩:=i;obtain⟨z,d,q,v,e,r⟩:=r;dsimp only at z q e r;subst z;obtain⟨h1,h2⟩:=ih;by_cases b:a=k
  ·subst b;refine⟨fun d h=>?_,by simp[atKey,dV]⟩;have:f=d:=by simpa[dV]using h
   subst this;exact⟨(a2,c),v,by simp[atKey],e,r⟩
  ·have g:dV ((a,f)::ks) k=dV ks k:=by simp[dV,a0,b]
   have j:atKey ((a,a2,c)::ws) k=atKey ws k:=by simp[atKey,a0,b]
   rw[g,j];exact⟨h1,h2⟩
theorem KT.put{K:Fg1}{k:TK}{d:D}{v:V}{a:dy}{u:dr}(hk:k.dep<=8)(j:eB K H mu (tkD k) (.ref a))(g:dX v u)(q:eB K H mu d v){ks:List (TK×D)}{ws:List (TK×dy×dr)}(h:KT K H mu ks ws):KT K H mu (eV ks k d) (storedH ws k a u):=by
 unfold eV storedH;have e:(ks.any fun p=>decide (p.1=k))=(atKey ws k).isSome:=by
  rw[h.look.2];unfold dV;rw[bf,bQ,List.find?_isSome,bR]
 rw[e];split
 ·clear e;refine tG h fun p w ⟨z,f,i,l,c,m⟩=>?_;unfold putAt;by_cases b:p.1=k
  ·rw[if_pos b,if_pos (by rw[<- z];exact b)];exact⟨z,f,i,v,g,q⟩
  ·rw[if_neg b,if_neg (by rw[<- z];exact b)];exact⟨z,f,i,l,c,m⟩
 ·exact tH h (.cons ⟨rfl,hk,j,v,g,q⟩ .nil)
theorem su(I:Inv X pins σ H s){a:dy}{xs:List (TK×dy×dr)}{kvs:List (TK×D)}(e:H a=some (.ext (fO a xs)))(h:KT X.K H mu kvs xs):(a == sysModules)=false/\s.heap.DictOfH (fC X.prog X.w) a xs:=by
 obtain⟨⟨h1,h2,o,es,ep,d,f,g,c⟩,_⟩:=(show ew X.prog X.w H s.heap a (.ext (fO a xs))from I.hok a _ e);exact⟨h1,o,es,ep,d,f,g,c,fun x b=>⟨uB I _ (h.mem x b).2 rfl,(h.mem x b).1⟩,h2⟩
theorem qa{h:dH}{a:dy}{xs:List (TK×dy×dr)}(hd:(a == sysModules)=false)(hm:h.DictOfH (fC X.prog X.w) a xs):ew X.prog X.w H h a (.ext (fO a xs)):=by
 obtain⟨o,es,ep,d,j,k,g,n,l⟩:=hm;refine⟨⟨hd,l,o,es,ep,d,j,k,g⟩,⟨o,d⟩,fun m p ⟨a1,a2,o',c,b,b3,f,e,i⟩ st=>⟨a1,a2,o',c,b,st _ b3,f,e,i⟩⟩
end
noncomputable def iV:G2:=fun d e S=>match e with
 | .ref n=>match S[n]? with
  |some (.dcT kvs)=>(keyT d).map fun k=>(.bl (dV kvs k).isSome,S)
  |_=>t5 d e S
 |_=>t5 d e S
noncomputable def fv:G2:=fun d e S=>match e with
 | .ref n=>match S[n]? with
  |some (.dcT kvs)=>(keyT d).map fun k=>(.bl (!(dV kvs k).isSome),S)
  |_=>ix d e S
 |_=>ix d e S
noncomputable def dQ:G2:=fun d e S=>match d with
 | .ref n=>match S[n]? with
  |some (.dcT kvs)=>(keyT e).bind fun k=>(dV kvs k).map fun x=>(x,S)
  |some (.dcF kvs)=>(keyT e).bind fun k=>(dV kvs k).map fun x=>(x,S)
  |_=>kS d e S
 |_=>kS d e S
noncomputable def iU:G3:=fun o i v S=>match o with
 | .ref n=>match S[n]? with
  |some (.dcT kvs)=>(keyT i).bind fun k=>if kvs.length<dF then some (.non,S.set n (.dcT (eV kvs k v)))else none
  |some (.dct [])=>match keyT i with
   |some k=>some (.non,S.set n (.dcT [(k,v)]))
   |none=>lp o i v S
  |_=>lp o i v S
 |_=>lp o i v S
section
variable{X:Cx}
theorem ln{κ:Type}[DecidableEq κ](kvs:List (κ×D))(k:κ)(d:D):(eV kvs k d).length<=kvs.length+1:=by
 unfold eV;split
 ·rw[lM1];lia
 ·simp
theorem m3{h:dH}{a:dy}(dd:h.DictOf (eN X.prog X.w) a []):h.DictOfH (fC X.prog X.w) a []:=by
 obtain⟨o,es,ep,h1,h2,c,_,b,_⟩:=dd;have e:es.toList=[]:=by
  generalize es.toList=l at b;cases b;rfl
 exact⟨o,es,ep,h1,h2,c,e,(fun x d=>by simp at d),bn⟩
theorem ik{A:dA}(a:A.units+64<cLine):(fC X.prog X.w).room A.in1:=by
 show A.units+1+8<cLine;lia
theorem iR{pins:List (dy×Obj)}{σ:L2.St}{H:Hp}{s:dw}{mu:List dy}(I:Inv X pins σ H s){d:D}{v:V}{u:dr}{k:TK}(r:eB X.K H mu d v)(q:dX v u)(h:keyT d=some k):
  ∃a,u = .ref a/\v = .ref a/\eB X.K H mu (tkD k) (.ref a)/\k.dep<=8/\(fC X.prog X.w).is s.heap k a:=by
 obtain⟨e,b,xs,ex⟩:=vk h;subst e;have is:=uB I k r q;subst ex;cases id is with
 | @tup a _ _ _ _ _ _ _ _=>
  rw[tkD]at r;cases r with
  |tup h1 h2=>
   cases q;exact⟨a,rfl,rfl,by rw[tkD];exact .tup h1 h2,b,is,b⟩
theorem n4(j:X.A.units+64<cLine):gh X (compareOp .In) (r2 X.K (b2 iV)):=by
 intro pins s σ H x y u w Q I i g h;obtain⟨mu,S,d,e,r,l,m,c,f,b,hc⟩:=nv h;have back:t5 d e S=some (r,l)->dG (model X.prog X.w) X.A (compareOp .In u w) (EP X pins σ Q) X.xe s:=fun b=>Gq j pins s σ H x y u w Q I i g ⟨mu,S,[d,e],r,l,.cons m (.cons c .nil),f,b,hc⟩;unfold iV at b;split at b
 ·rename_i n;split at b
  ·rename_i kvs t;obtain⟨k,v,b⟩:=oM1.mp b;cases b;cases c with
   |ref q=>
    cases g;obtain⟨xs,z,o,_⟩:=f.dcT t q;obtain⟨p,dd⟩:=su I z o;obtain⟨a,rfl,rfl,_,_,hi⟩:=iR I m i v;refine wpAny_in_heap (ik j) hi p dd ?_;exact⟨.bl (atKey xs k).isSome,H,I.tok _,rfl,by rw[o.look.2];exact hc.now (.bl _) f⟩
  ·exact back b
 ·exact back b
theorem mE(j:X.A.units+64<cLine):gh X (compareOp .NotIn) (r2 X.K (b2 fv)):=by
 intro pins s σ H x y u w Q I i g h;obtain⟨mu,S,d,e,r,l,m,c,f,b,hc⟩:=nv h;have back:ix d e S=some (r,l)->dG (model X.prog X.w) X.A (compareOp .NotIn u w) (EP X pins σ Q) X.xe s:=fun b=>yO j pins s σ H x y u w Q I i g ⟨mu,S,[d,e],r,l,.cons m (.cons c .nil),f,b,hc⟩;unfold fv at b;split at b
 ·rename_i n;split at b
  ·rename_i kvs t;obtain⟨k,v,b⟩:=oM1.mp b;cases b;cases c with
   |ref q=>
    cases g;obtain⟨xs,z,o,_⟩:=f.dcT t q;obtain⟨p,dd⟩:=su I z o;obtain⟨a,rfl,rfl,_,_,hi⟩:=iR I m i v;refine wpAny_notIn_heap (ik j) hi p dd ?_;exact⟨.bl (!(atKey xs k).isSome),H,I.tok _,rfl,by rw[o.look.2];exact hc.now (.bl _) f⟩
  ·exact back b
 ·exact back b
theorem E7{pins:List (dy×Obj)}{σ:L2.St}{H:Hp}{s:dw}{mu:List dy}(I:Inv X pins σ H s){a:dy}{xs:List (TK×dy×dr)}{kvs:List (TK×D)}(e:∃o u,H a=some (.frz o u)/\vZ a xs o)(h:KT X.K H mu kvs xs):(a == sysModules)=false/\s.heap.DictOfH (fC X.prog X.w) a xs:=by
 obtain⟨o,u,e,h1,h2,f,es,ep,g,c⟩:=e;obtain⟨d,_⟩:=(show ew X.prog X.w H s.heap a (.frz o u)from I.hok a _ e);exact⟨h1,o,es,ep,d,f,g,c,fun x b=>⟨uB I _ (h.mem x b).2 rfl,(h.mem x b).1⟩,h2⟩
theorem qP(J:X.A.units+64<cLine):C0 X (r2 X.K (b2 dQ)):=by
 intro value c pins s σ H x y v u Q I w F h m;obtain⟨mu,S,d,e,r,B,D,o,t,f,hc⟩:=nv h;have back:kS d e S=some (r,B)->dG (model X.prog X.w) X.A (subscriptTail value c v u) (EP X pins σ Q) X.xe s:=fun f=>FC J value c pins s σ H x y v u Q I w F ⟨mu,S,[d,e],r,B,.cons D (.cons o .nil),t,f,hc⟩ m;have i:∀kvs a xs,v = .ref a->KT X.K H mu kvs xs->s.heap.DictOfH (fC X.prog X.w) a xs->((keyT e).bind fun k=>(dV kvs k).map fun x=>(x,S))=some (r,B)->dG (model X.prog X.w) X.A (subscriptTail value c v u) (EP X pins σ Q) X.xe s:=fun kvs a xs L l dd f=>by
  obtain⟨k,P,f⟩:=oB1.mp f;obtain⟨z,M,f⟩:=oM1.mp f;cases f;subst L;obtain⟨b,rfl,rfl,_,_,hi⟩:=iR I o F P;obtain⟨p,O,ep,K,N⟩:=l.look.1 _ M;have G:=dd.typeIs;unfold subscriptTail;refine wB1 ?_;rw[getitemInPython_of_ne G.not_modules];refine wB1 (wpAny_specialOf G PySem.F.slot_dict_getitem.lookup ?_);have j:dG (model X.prog X.w) X.A (subscripted c false (.ref a) (.ref b)) (fun r g=>dG (model X.prog X.w) X.A (letTemporaryGo value (.ref a) r >>= fun _=>pure r) (EP X pins σ Q) X.xe g) X.xe s:=by
   rw[m];exact wpAny_operating (wpAny_mono (wpAny_getItem_heap (ik J) hi dd ep (show EP X pins σ Q p.2 _ from⟨O,H,I.tok _,K,hc.now N t⟩)) (fun r g q=>wB1 (wpAny_letTemporaryGo (wP1 q))) fun _ _ x=>x)
  first
   |exact wP1 (wB1 j)
   |exact wB1 j
   |exact j
 unfold dQ at f;split at f
 ·rename_i n;split at f
  ·rename_i kvs A;cases D with
   | @ref _ a C=>
    cases w;obtain⟨xs,E,l,_⟩:=t.dcT A C;exact i kvs a xs rfl l (su I E l).2 f
  ·rename_i kvs A;cases D with
   | @ref _ a C=>
    cases w;obtain⟨xs,E,l,_⟩:=(show k0 X.K H mu a (.dcF kvs)from t.ob n _ a A C);exact i kvs a xs rfl l (E7 I E l).2 f
  ·exact back f
 ·exact back f
theorem pB(K:X.A.units+64<cLine):um X (rU X.K (b3 iU)):=by
 intro pins s σ H o i v R O u Q I y B t h;obtain⟨mu,S,ds,d,P,W,j,a,hc⟩:=id h;cases W with
 |cons L Y=>cases Y with
  |cons A V=>cases V with
   |cons r U=>
    cases U;rename_i N M D;dsimp only[b3]at a;have back:lp N M D S=some (d,P)->dG (model X.prog X.w) X.A (setItem R O u) (fun _ s'=>∃H',Inv X pins σ H' s'/\Q H') X.xe s:=fun a=>Dw K pins s σ H o i v R O u Q I y B t ⟨mu,S,[N,M,D],d,P,.cons L (.cons A (.cons r .nil)),j,a,hc⟩;unfold iU at a;split at a
    ·rename_i n;split at a
     ·rename_i kvs E;obtain⟨k,J,a⟩:=oB1.mp a;split at a
      ·rename_i Z;cases a;cases L with
       | @ref _ m g=>
        cases y;obtain⟨xs,x,l,T⟩:=j.dcT E g;obtain⟨F,dd⟩:=su I x l;obtain⟨b,rfl,rfl,rk,w,hi⟩:=iR I A B J;refine wpAny_setItem_heap (hsz:=T) (ik K) hi dd fun h' e c=>?_;have f:∃q,h'.get? _=some q:=let ⟨q,_,_,f,_⟩:=e;⟨q,f⟩
        have put:Ext mu mu H (upd H m (.ext (fO m (storedH xs k b u)))):=Ext.put x trivial (gM1 g);refine⟨_,km I (by rw[x];exact True.intro) c f (qa F e),hc _ mu put (j.put g x trivial ⟨_,d2,((l.put w rk t r).ext put),?_⟩)⟩;rw[<- (l.put w rk t r).length];have:=ln kvs k D;lia
      ·cases a
     ·rename_i E;split at a
      ·rename_i k J;cases a;cases L with
       | @ref _ m g=>
        cases y;obtain⟨ws,p,l⟩:=j.dct E g;cases l;obtain⟨z,F,vs,C,dd⟩:=vI I.hok p;cases C;obtain⟨b,rfl,rfl,rk,w,hi⟩:=iR I A B J;have G:s.heap.DictOfH (fC X.prog X.w) _ []:=m3 dd;refine wpAny_setItem_heap (hsz:=bh _) (ik K) hi G fun h' e c=>?_;have f:∃q,h'.get? _=some q:=let ⟨q,_,_,f,_⟩:=e;⟨q,f⟩
        have put:Ext mu mu H (upd H m (.ext (fO m (storedH [] k b u)))):=Ext.put p trivial (gM1 g);exact⟨_,km I (by rw[p];exact True.intro) c f (qa F e),hc _ mu put (j.put g p trivial ⟨_,d2,KT.ext put (.cons ⟨rfl,w,rk,v,t,r⟩ .nil),(show 1<=dF by decide)⟩)⟩
      ·exact back a
     ·exact back a
    ·exact back a
end
noncomputable def tj(S:Sto)(d:D):Option Bool:=match d with
 | .non=>some false
 | .bl b=>some b
 | .int i=>some (i != 0)
 | .str y=>if y.length<=dF then some ((y.length:Int) != 0)else none
 | .ref n=>match S[n]? with
  |some (.dct kvs)=>some (!kvs.isEmpty)
  |_=>(dY S d).map fun p=> !p.2.isEmpty
 |_=>(dY S d).map fun p=> !p.2.isEmpty
noncomputable def HD (m:FE):FT:=fun r S=>(m r S).bind fun p=>(tj p.2 p.1).map fun b=>(b,p.2)
section
variable{K:Fg1}{H:Hp}{mu:List dy}{S:Sto}
theorem pz{d:D}{v:V}{b:Bool}(r:eB K H mu d v)(s:Sim K H mu S)(h:((dY S d).map fun p=> !p.2.isEmpty)=some b):Cu K v H b:=by
 obtain⟨⟨k,xs⟩,e,h⟩:=oM1.mp h;obtain⟨a,vs,rfl,q,t⟩:=d0 r s e;have z:(!xs.isEmpty) = !vs.isEmpty:=by cases t<;>rfl
 dsimp only at h;rw[z]at h;cases k
 ·exact .inr (.inl ⟨vs,q,h.symm⟩)
 ·exact .inl ⟨vs,q,h.symm⟩
theorem Dg{d:D}{v:V}{b:Bool}(r:eB K H mu d v)(s:Sim K H mu S)(h:tj S d=some b):Cu K v H b:=by
 cases d with
 |non=>cases r;cases h;rfl
 |bl k=>cases r;cases h;rfl
 |int i=>cases r;cases h;rfl
 |str y=>
  rw[tj]at h;split at h
  ·rename_i c;cases r;cases h;exact⟨c,rfl⟩
  ·cases h
 |tup xs=>exact pz r s h
 |rol xs=>exact pz r s h
 |fn x=>cases h
 |ref n=>
  rw[tj]at h;split at h
  ·rename_i kvs f;cases h;cases r with
   |ref e=>
    obtain⟨ws,a,g⟩:=s.dct f e;refine .inr (.inr ⟨ws,a,?_⟩);cases g<;>rfl
  ·exact pz r s h
end
theorem uu{X:Cx}{x:Expr}{f:FE}(h:XE X x f)(he:∀a,isTrue x X.env a=(do let v<-a;standAt x.pos;holding [v] (truthy v)):=by intro _;rfl):XT X x (HD f):=
 ⟨tz (yo h.h he) <| by
  rintro σ H Q ⟨r,mu,S,b,n,he,e,c,hc⟩;obtain⟨⟨m,l⟩,g,c⟩:=oB1.mp c;obtain⟨b1,k,c⟩:=oM1.mp c;cases c;exact⟨r,mu,S,_,_,he,e,g,fun v H1 mu1 i j d=>⟨_,Dg j d k,hc H1 mu1 i d⟩⟩⟩
section
variable{X:Cx}{pins:List (dy×Obj)}{σ:L2.St}{H:Hp}{s:dw}{mu:List dy}
end
section
variable{X:Cx}
noncomputable def mO:List D->Option (List Int)
 |[]=>some []
 | .int i::ds=>(mO ds).map fun is=>i::is
 |_=>none
noncomputable def ddI(ns:List Int):List Int:=ns.foldl step_dedup []
theorem sv:∀(ns acc:List Int),acc.Nodup->(ns.foldl step_dedup acc).Nodup
 |[],acc,h=>h
 |n::ns,acc,h=>by
  rw[b9];refine sv ns _ ?_;unfold step_dedup;split
  ·exact h
  ·rename_i d;rw[bw];refine⟨h,by simp,fun a f b c e=>?_⟩;simp at c;apply d;rw[bR];exact⟨a,f,by simp[e,c]⟩
theorem wJ{K:Fg1}{H:Hp}{mu:List dy}:∀{ds:List D} {vs:List V} {b:List dr} {ns:List Int},dW K H mu ds vs->ea vs b->mO ds=some ns->IntsAre b ns/\ns.length=ds.length:=by
 intro ds vs b ns g a h
 induction g using dW.ind generalizing b ns with
 |hn=>cases h;cases a;exact⟨.nil,rfl⟩
 | @hc d v ds vs r t ih=>
  cases d with
  |int i=>
   obtain⟨c,e,h⟩:=oM1.mp h;cases h;cases r;cases a with
   |cons r a=>
    obtain⟨f,j⟩:=ih a e;obtain⟨tk,rfl⟩:=r;exact⟨.cons _ _ f,by rw[lC1,lC1,j]⟩
  |_=>cases h
end
@[elab_as_elim] theorem JU {P:List dr->Prop}{us:List dr}(l:us.length=0)(f:P []):P us:=by
 cases us with
 |nil=>exact f
 |cons _ _=>cases l
@[elab_as_elim] theorem Jh {P:List dr->Prop}{us:List dr}(l:us.length=1)(f:∀a,P [a]):P us:=by
 cases us with
 |nil=>cases l
 |cons a us=>exact JU (P:=fun us=>P (a::us)) (Nat.succ.inj l) (f a)
@[elab_as_elim] theorem Jg {P:List dr->Prop}{us:List dr}(l:us.length=2)(f:∀a b,P [a,b]):P us:=by
 cases us with
 |nil=>cases l
 |cons a us=>exact Jh (P:=fun us=>P (a::us)) (Nat.succ.inj l) (f a)
@[elab_as_elim] theorem Jf {P:List dr->Prop}{us:List dr}(l:us.length=3)(f:∀a b c,P [a,b,c]):P us:=by
 cases us with
 |nil=>cases l
 |cons a us=>exact Jg (P:=fun us=>P (a::us)) (Nat.succ.inj l) (f a)
@[elab_as_elim] theorem Je {P:List dr->Prop}{us:List dr}(l:us.length=4)(f:∀a b c d,P [a,b,c,d]):P us:=by
 cases us with
 |nil=>cases l
 |cons a us=>exact Jf (P:=fun us=>P (a::us)) (Nat.succ.inj l) (f a)
@[elab_as_elim] theorem Ix {P:List dr->Prop}{us:List dr}(l:us.length=5)(f:∀a b c d e,P [a,b,c,d,e]):P us:=by
 cases us with
 |nil=>cases l
 |cons a us=>exact Je (P:=fun us=>P (a::us)) (Nat.succ.inj l) (f a)
end Mi
namespace HT
open PySem PySem.Spec PyProof.Rows
variable{prog:dz}{w:dB}{A:dA}{E:dr->dw->Prop}{s:dw}
end HT
namespace Mi
open PySem PySem.Spec PyProof.Rows L2
section
variable{X:Cx}
end
end Mi
namespace HT
open PySem PySem.Spec PyProof.Rows
section
variable{prog:dz}{w:dB}{A:dA}{R:Result->dw->Prop}{I ax L:dy}{xs:Array dr}
end
section
variable{prog:dz}{w:dB}{A:dA}{E:dr->dw->Prop}{s:dw}
end
end HT
namespace Mi
open PySem PySem.Spec PyProof.Rows L2
section
variable{X:Cx}
end
section
variable{elt tg iter tg2 iter2 tg3 iter3:Expr}{ifs ifs2 ifs3:List Expr}{scope:dL}{pos:Pos}
end
section
variable{X:Cx}
end
noncomputable def wL(a:Int):List Int->List Int
 |[]=>[a]
 |b::l=>if a<=b then a::b::l else b::wL a l
noncomputable def jI:List Int->List Int
 |[]=>[]
 |a::l=>wL a (jI l)
theorem kP(a:Int):∀l:List Int,(wL a l).Perm (a::l)
 |[]=>.refl _
 |b::l=>by
  rw[wL];split
  ·exact .refl _
  ·exact((kP a l).cons b).trans (.swap _ _ _)
theorem ic:∀l:List Int,(jI l).Perm l
 |[]=>.refl _
 |a::l=>(kP a _).trans ((ic l).cons a)
theorem vq{a:Int}:∀{l:List Int},l.Pairwise (· <= ·)->(wL a l).Pairwise (· <= ·)
 |[],_=>List.pairwise_singleton _ _
 |b::l,h=>by
  rw[ca]at h;rw[wL];split
  ·rename_i d;rw [ca,ca];exact ⟨fun x c=>by
    rcases aF.mp c with z|z
    ·lia
    ·have:=h.1 x z;lia,h.1,h.2⟩
  ·rename_i d;rw[ca];refine⟨fun x c=>?_,vq h.2⟩;rcases aF.mp ((kP a l).mem_iff.mp c)with z|z
   ·lia
   ·exact h.1 x z
theorem l6:∀l:List Int,(jI l).Pairwise (· <= ·)
 |[]=>.nil
 |a::l=>vq (l6 l)
theorem pE:∀{a b:List Int},a.Perm b->a.Pairwise (· <= ·)->b.Pairwise (· <= ·)->a=b
 |[],b,p,_,_=>(List.nil_perm.mp p).symm
 |x::a,[],p,_,_=>absurd p.length_eq (by simp)
 |x::a,y::b,p,h1,h2=>by
  rw[ca]at h1 h2;have e:x=y:=by
   have f:=p.mem_iff.mp (mS1 (a:=x) (l:=a));have d:=p.mem_iff.mpr (mS1 (a:=y) (l:=b));rcases aF.mp f with z|z
   ·exact z
   ·rcases aF.mp d with c|c
    ·exact c.symm
    ·have:=h2.1 x z;have:=h1.1 y c;lia
  subst e;rw[pE (List.perm_cons x |>.mp p) h1.2 h2.2]
noncomputable def ox:List D->Option (List Int)
 |[]=>some []
 | .int i::l=>(ox l).map fun t=>i::t
 |_=>none
section
variable{X:Cx}
theorem wH{K:Fg1}{H:Hp}{mu:List dy}:∀{ds:List D} {vs:List V} {a:List dr} {ns:List Int},dW K H mu ds vs->ea vs a->ox ds=some ns->IntsAre a ns:=by
 intro ds
 induction ds with
 |nil=>intro vs a ns r v h;cases r;cases v;cases h;exact .nil
 |cons d ds ih=>
  intro vs a ns r v h;cases r with
  |cons f t=>
   cases v with
   |cons b c=>
    cases f
    case int i=>
     obtain⟨m,e,h⟩:=oM1.mp h;subst h;obtain⟨tk,rfl⟩:=b;exact .cons i tk (ih t c e)
    all_goals cases h
theorem wI:∀{us:List dr} {ns:List Int},IntsAre us ns->ea (ns.map V.int) us:=by
 intro us ns h
 induction h with
 |nil=>exact .nil
 |cons i t _ ih=>exact .cons ⟨t,rfl⟩ ih
end
end Mi
namespace Mi
open PySem PySem.Spec PyProof.Rows L2
section
variable{X:Cx}
end
theorem kC(n:Nat):∀ns:List Int,D.unds n (ns.map D.int)=true
 |[]=>rfl
 |_::ns=>by rw[mP1,D.unds,kC n ns];rfl
theorem gc_same{n:Nat}{d:D}{S:Sto}(h:S.length=n):gc n (d,S)=(d,S):=by
 unfold gc;split
 ·rw[show(d,S).2=S from rfl,<- h,bY]
 ·rfl
theorem xb{n:Nat}{f:FN}{ds:List D}{S S1:Sto}{d:D}(h:f ds []=some (d,S1))(hn:ds.length=n)(a:D.unds 0 ds=true)(hd:d.und 0=true):dS n f ds S=some (d,S):=by
 unfold dS oK;rw[if_pos hn,if_pos a,h,oP1,if_pos hd]
theorem sB{n:Nat}{f:FN}{ds:List D}{S S1:Sto}{d:D}(h:f ds []=some (d,S1))(hn:ds.length=n)(a:D.unds 0 ds=true)(hd:d.und 0=false):dS n f ds S=some (d.sh S.length,S++S1.map (Ob.sh S.length)):=by
 unfold dS oK;rw[if_pos hn,if_pos a,h,oP1,if_neg (by dsimp only;rw[hd];decide)]
theorem oI{n:Nat}{f:FN}{ds:List D}{S S1:Sto}{d:D}(h:f ds S=some (d,S1))(hn:ds.length=n)(a:D.unds 0 ds=false):dS n f ds S=some (gc S.length (d,S1)):=by
 unfold dS oK;rw[if_pos hn,if_neg (by rw[a];decide),h,oP1]
theorem kX{n:Nat}{f:FN}{ds:List D}{S S1:Sto}{d:D}(h:f ds S=some (d,S1))(hn:ds.length=n)(a:D.unds 0 ds=false)(b:S1.length=S.length):dS n f ds S=some (d,S1):=by
 rw[oI h hn a,gc_same b]
theorem n6{i j:Int}(h1: -(2^64)<i)(h2:i<2^64):eJ i j=true:=by
 unfold eJ;simp only[bO,bA1,decide_eq_true_eq];exact .inl (.inl ⟨h1,h2⟩)
theorem va{i j:Int}(h1: -(2^64)<j)(h2:j<2^64):eJ i j=true:=by
 unfold eJ;simp only[bO,bA1,decide_eq_true_eq];exact .inl (.inr ⟨h1,h2⟩)
theorem gp{S:Sto}{n:Nat}{xs:List D}(h:S[n]?=some (.lst xs)):n3 S [(n,xs)]=true:=by
 rw[n3,h];simp[D.sames_refl,n3]
noncomputable def jt(n:Nat):Nat->List D
 |0=>[]
 |k+1=>.ref n::jt (n+1) k
theorem rF:∀{n:Nat} {lo:Int} {d:D},d∈gB lo n -> ∃k:Int,d = .int k/\lo<=k/\k<lo+n
 |0,lo,d,h=>by simp[gB]at h
 |n+1,lo,d,h=>by
  rw[gB]at h;rcases aF.mp h with h|h
  ·exact⟨lo,h,Int.le_refl _,by lia⟩
  ·obtain⟨k,e,h1,h2⟩:=rF h;exact⟨k,e,by lia,by lia⟩
theorem gy{n:Nat}:∀{xs:List D} {x:D},D.unds n xs=true->x∈xs->x.und n=true
 |y::ys,x,h,hx=>by
  rw[D.unds,bA1]at h;rcases aF.mp hx with e|e
  ·rw[e];exact h.1
  ·exact gy h.2 e
theorem ja{S:Sto}{d:D}(h:d.und 0=true):dY S d=dY [] d:=by
 cases d with
 |ref n=>simp[D.und]at h
 |_=>rfl
theorem ig{S:Sto}{d:D}(h:d.und 0=true){p:Bool×List D}(e:dY S d=some p):D.unds 0 p.2=true:=by
 cases d with
 |ref n=>simp[D.und]at h
 |tup xs=>cases e;simpa[D.und]using h
 |rol xs=>cases e;simpa[D.und]using h
 |_=>cases e
theorem oC{f f':D->D->Option Bool}:∀{xs ys:List D},(∀x∈xs,∀y∈ys,f x y=f' x y)->nq f xs ys=nq f' xs ys
 |[],[],_=>rfl
 |[],_::_,_=>rfl
 |_::_,[],_=>rfl
 |x::xs,y::ys,h=>by
  rw[nq,nq,h x mS1 y mS1,oC fun a c b d=>h a (mC1 _ c) b (mC1 _ d)]
theorem rQ{S:Sto}{d:D}(h:d.und 0=true):tU S d=false:=by
 cases d with
 |ref n=>simp[D.und]at h
 |_=>rfl
theorem vD{S:Sto}:∀{n:Nat} {d e:D},d.und 0=true->e.und 0=true->gf S n d e=gf [] n d e
 |0,_,_,_,_=>rfl
 |n+1,d,e,hd,he=>by
  rw[gf,gf,ja hd,ja he];unfold G5;simp only[rQ hd,rQ he];cases h1:dY [] d with
  |none=>cases dY [] e<;>rfl
  |some p=>
   cases h2:dY [] e with
   |none=>rfl
   |some q=>
    dsimp only;have b:=ig hd h1;have a:=ig he h2;rw[oC (f:=gf S n) (f':=gf [] n) fun x g y c=>vD (gy b g) (gy a c)]
theorem og{f f' g g':D->D->Option Bool}:∀{xs ys:List D},(∀x∈xs,∀y∈ys,f x y=f' x y)->(∀x∈xs,∀y∈ys,g x y=g' x y)->nD f g xs ys=nD f' g' xs ys
 |[],[],_,_=>rfl
 |[],_::_,_,_=>rfl
 |_::_,[],_,_=>rfl
 |x::xs,y::ys,h,k=>by
  rw[nD,nD,h x mS1 y mS1,k x mS1 y mS1,og (fun a c b d=>h a (mC1 _ c) b (mC1 _ d)) fun a c b d=>k a (mC1 _ c) b (mC1 _ d)]
theorem ve{S:Sto}:∀{n:Nat} {d e:D},d.und 0=true->e.und 0=true->jB S n d e=jB [] n d e
 |0,_,_,_,_=>rfl
 |n + 1,d,e,h,k=>by
  rw[jB,jB,ja h,ja k];cases HE d e with
  |some b=>rfl
  |none=>
   cases h1:dY [] d with
   |none=>rfl
   |some p=>
    cases h2:dY [] e with
    |none=>rfl
    |some q=>
     dsimp only;have j:=ig h h1;have i:=ig k h2;rw[og (f:=gf S n) (f':=gf [] n) (g:=jB S n) (g':=jB [] n) (fun x c y a=>vD (gy j c) (gy i a)) fun x c y a=>ve (gy j c) (gy i a)]
open Classical in
noncomputable def rkV(ws:List dr)(x:dr):Nat:=ws.findIdx fun y=>decide (y=x)
theorem ye{ws:List dr}{x:dr}(h:x∈ws):ws[rkV ws x]?=some x:=by
 have a:rkV ws x<ws.length:=List.findIdx_lt_length_of_exists ⟨x,h,by simp⟩;rw[gG1 a];have:=List.findIdx_getElem (w:=a);have e:ws[rkV ws x]=x:=of_decide_eq_true this;rw[e]
noncomputable def kR(ws:List dr)(xs:Array Keyed)(i:Nat):Nat:=(xs[i]?.map fun p=>rkV ws p.1).getD 0
theorem kb{ws:List dr}{xs ys:Array Keyed}{i j:Nat}(h:xs[i]?=ys[j]?):kR ws xs i=kR ws ys j:=by unfold kR;rw[h]
noncomputable def Up(ws:List dr)(xs:Array Keyed)(k:Nat):Prop:=∀i j,i<j->j<k->kR ws xs i<kR ws xs j
structure kY (prog:dz)(w:dB)(A:dA)(s:dw)(κ:SortKind)(ws:List dr)(a₀:Array Keyed):Prop where
 nd:ws.Nodup
 keys:(a₀.toList.map (·.1)).Perm ws
 lt:∀(x y:dr) (i j:Nat),ws[i]?=some x->ws[j]?=some y->i≠j -> ∀(E:dr->dw->Prop) (Q:Bool->dw->Prop),Q (decide (i<j)) s->dG (model prog w) A (keyLt' κ x y) Q E s
section
variable{prog:dz}{w:dB}{A:dA}{E:dr->dw->Prop}{s:dw}{κ:SortKind}{ws:List dr}{a₀:Array Keyed}
theorem kY.at_(C:kY prog w A s κ ws a₀){xs:Array Keyed}(p:xs.Perm a₀){i:Nat}(hi:i<a₀.size):∃x q,xs[i]?=some (x,q)/\ws[kR ws xs i]?=some x:=by
 have a:i<xs.size:=by rw[p.size_eq];exact hi
 refine⟨xs[i].1,xs[i].2,aG1 a,?_⟩;have b:xs[i]∈a₀.toList:=(cb.mp p).mem_iff.mp (by simp);have:=ye (C.keys.mem_iff.mp (cc.mpr ⟨_,b,rfl⟩));unfold kR;rw[aG1 a];exact this
theorem kY.inj(C:kY prog w A s κ ws a₀){xs:Array Keyed}(p:xs.Perm a₀){i j:Nat}(hi:i<a₀.size)(c:j<a₀.size)(h:kR ws xs i=kR ws xs j):i=j:=by
 obtain⟨x,q,e,b⟩:=C.at_ p hi;obtain⟨y,r,g,f⟩:=C.at_ p c;rw[h,f]at b;cases b;have nd:(xs.toList.map (·.1)).Nodup:=(((cb.mp p).map (·.1)).trans C.keys).nodup_iff.mpr C.nd;have a:(xs.toList.map (·.1))[i]?=some x:=by rw[gP1,aT1,e];rfl
 have d:(xs.toList.map (·.1))[j]?=some x:=by rw[gP1,aT1,g];rfl
 exact(List.getElem?_inj (gE1.mp a).1 nd).mp (a.trans d.symm)
theorem Dr(C:kY prog w A s κ ws (pairsOf vs)){xs:Array Keyed}(p:xs.Perm (pairsOf vs))(u:Up ws xs (pairsOf vs).size):xs.map (·.2)=ws.toArray:=by
 have l:ws.length=(pairsOf vs).size:=by rw[<- C.keys.length_eq,lM1];simp
 have a:∀i,i<(pairsOf vs).size->i<=kR ws xs i:=by
  intro i
  induction i with
  |zero=>intro _;lia
  |succ i ih=>intro h;have:=ih (by lia);have:=u i (i+1) (by lia) h;lia
 have b:∀d i,i+d+1=(pairsOf vs).size->kR ws xs i<=i:=by
  intro d
  induction d with
  |zero=>
   intro i h;obtain⟨x,q,_,f⟩:=C.at_ p (i:=i) (by lia);have:=(gE1.mp f).1;lia
  |succ d ih=>
   intro i h;have:=ih (i+1) (by lia);have:=u i (i+1) (by lia) (by lia);lia
 apply Array.ext
 ·rw[Array.size_map,p.size_eq,<- l];simp
 ·intro i h1 h2;rw[Array.size_map,p.size_eq]at h1;have m:kR ws xs i=i:=Nat.le_antisymm (b ((pairsOf vs).size-1-i) i (by lia)) (a i h1);obtain⟨x,q,e,f⟩:=C.at_ p h1;rw[m]at f;have j:(x,q)∈(pairsOf vs).toList:=(cb.mp p).mem_iff.mp (aM.mpr (cf e));rw[pairsOf_toList]at j;have k:x=q:=(mem_zip_self j).1;have c:(xs.map (·.2))[i]?=some q:=by rw[Array.getElem?_map,e];rfl
  have g:ws.toArray[i]?=some x:=by rw[cg];exact f
  rw[aG1 (by rw[Array.size_map,p.size_eq];exact h1)]at c;rw[aG1 h2]at g;rw[Option.some.inj c,Option.some.inj g,k]
end
section
variable{prog:dz}{w:dB}{A:dA}{E:dr->dw->Prop}{s:dw}
theorem yH{p q:dr}{b:Bool}{Q:Bool->dw->Prop}(r:Aj A.in1 s p q b)(h:Q b s):dG (model prog w) A (oneLt' false p q) Q E s:=by
 rw[oneLt'_eq];simp only[bF1,if_false];exact wB1 (wpAny_of_in1 (r prog w E _ (wpAny_truthy_bool h)))
theorem iw(f:Bool)(x y:dr):keyLt' (tuples' f) x y=(do
  let xs<-Builtin.List.listItems x
  let ys<-Builtin.List.listItems y
  for ((p,q),i) in (xs.toList.zip ys.toList).zipIdx do
   if !(<- eqBool p q)then return<-oneLt' (f&&i == 0) p q
  return decide (xs.size<ys.size)):=rfl
theorem EL{a b:dy}{g zs:List dr}{k:Bool}{Q:Bool->dw->Prop}(ha:IsTup s.heap a g.toArray)(hb:IsTup s.heap b zs.toArray)(L:sJ A s g zs k)(h:Q k s):
  dG (model prog w) A (keyLt' (tuples' false) (.ref a) (.ref b)) Q E s:=by
 rw[iw];obtain⟨o,r,y,_,n⟩:=ha;obtain⟨v,u,B,_,m⟩:=hb;refine wB1 (listItems_at r n (wB1 (listItems_at u m ?_)));simp only[Bool.false_and];refine wB1 (wpAny_mono (wpAny_forIn_list _ (fun rest c s'=>s'=s/\c=(none,()) /\ ∃(i:Nat) (vs ws:List dr),rest=(vs.zip ws).zipIdx i/\sJ A s vs ws k/\vs.length+zs.length=ws.length+g.length)
  (fun c s'=>s'=s/\(c=(some k,())\/(c=(none,())/\k=decide (g.length<zs.length)))) ?_ ?_ _ _ ⟨rfl,rfl,0,g,zs,rfl,L,by lia⟩) ?_ fun _ _ e=>e)
 ·rintro x rest c s' ⟨rfl,rfl,i,vs,ws,d,j,f⟩;cases j with
  |nn=>simp at d
  |nc _ _=>simp at d
  |cn _ _=>simp at d
  | @eq p q ps l _ e t=>
   rw[bT,bK]at d;cases d;refine wB1 (e.of_in1 prog w E _ ?_);simp only[b5,bF1,if_false];exact wP1 ⟨rfl,rfl,i+1,ps,l,rfl,t,by simp at f;lia⟩
  | @lt p q ps l _ e t=>
   rw[bT,bK]at d;cases d;refine wB1 (e.of_in1 prog w E _ ?_);simp only[ci,if_true];exact wB1 (yH t (wP1 ⟨rfl,.inl rfl⟩))
 ·rintro c s' ⟨rfl,rfl,i,vs,ws,d,j,f⟩;refine⟨rfl,.inr ⟨rfl,?_⟩⟩;cases j with
  |nn=>simp at f;rw[decide_eq_false (by lia)]
  |nc _ _=>simp at f;rw[decide_eq_true (by lia)]
  |cn _ _=>simp at f;rw[decide_eq_false (by lia)]
  |eq _ _=>simp at d
  |lt _ _=>simp at d
 ·rintro c s' ⟨rfl,z⟩;rcases z with rfl|⟨rfl,z⟩
  ·exact wP1 h
  ·refine wP1 ?_;rw[sT1,sT1,<- z];exact h
theorem jZ{M:Model}{α β:Type}{f:α->Sem β}{P:α->β->Prop}:∀ {l:List α} {Q:List β->dw->Prop},(∀ v∈l,∃ r,P v r /\ ∀ Q:β->dw->Prop,Q r s->dG M A (f v) Q E s) ->
  (∀rs,rs.length=l.length->(∀r∈rs,∃v∈l,P v r)->Q rs s)->dG M A (l.mapM f) Q E s
 |[],Q,_,q=>by rw[List.mapM_nil];exact wP1 (q [] rfl fun r a=>by cases a)
 |v::l,Q,h,q=>by
  rw[List.mapM_cons];obtain⟨r,p,a⟩:=h v mS1;refine wB1 (a _ ?_);refine wB1 (jZ (fun v e=>h v (mC1 _ e)) fun rs b d=>?_);refine wP1 (q (r::rs) (by rw[lC1,lC1,b]) fun x g=>?_);rcases aF.mp g with z|z
  ·exact⟨v,mS1,by rw[z];exact p⟩
  ·obtain⟨c,h1,h2⟩:=d x z;exact⟨c,mC1 _ h1,h2⟩
theorem r9(v:dr):firstOfTuple' v=(do
  if(<- typeOf v) != .type "tuple" then return none
  return (<- Builtin.List.listItems v)[0]?):=rfl
theorem EN{vs:List dr}{Q:SortKind->dw->Prop}(n:vs≠[])(h:∀ v∈vs,∃ a p ps b c,v = .ref a/\IsTup s.heap a (p::ps).toArray/\p = .ref b/\IsTup s.heap b c)(q:Q (tuples' false) s):
  dG (model prog w) A (keyKind' vs.toArray) Q E s:=by
 rw[keyKind'_eq,cj,<- bind_pure_comp];refine wB1 (wB1 (jZ (P:=fun _ r=>∃b c,r=some (.ref b)/\IsTup s.heap b c) (fun v l=>?_) fun rs G m=>wP1 ?_))
 ·obtain⟨a,p,ps,b,c,rfl,⟨o,g,j,_,D⟩,rfl,i⟩:=h v l;refine⟨some (.ref b),⟨b,c,rfl,i⟩,fun Q q=>?_⟩;rw[r9];refine wB1 (wpAny_typeOf (T:="tuple") ⟨o,g,j⟩ ?_);rw[if_neg (by decide)];refine wB1 (listItems_at g D (wP1 ?_));simpa using q
 ·have y:rs.toArray.all (·.isSome)=true:=by
   rw[ck,bB];intro r k;obtain⟨v,_,b,c,e,_⟩:=m r k;rw[e];rfl
  rw[if_pos y];refine wB1 (wpAny_rule ?_);rw[oneTypeOnly'_eq];have C:rs.toArray.filterMap id=(rs.filterMap id).toArray:=by simp
  rw[C,cj,<- bind_pure_comp];refine wB1 (wB1 (wB1 (jZ (P:=fun _ t=>t=Value.type "tuple") (fun v l=>?_) fun d f i=>wP1 ?_)))
  ·obtain⟨r,k,e⟩:=aL.mp l;obtain⟨I,_,b,c,B,⟨o,g,j,_⟩⟩:=m r k;rw[B]at e;cases e;exact⟨_,rfl,fun Q q=>wpAny_typeOf (T:="tuple") ⟨o,g,j⟩ q⟩
  ·cases d with
   |nil=>
    exfalso;cases rs with
    |nil=>exact n (cm.mp G.symm)
    |cons r rs=>
     obtain⟨_,_,b,_,e,_⟩:=m r mS1;rw[e]at f;simp at f
   |cons t d=>
    have all:∀x∈t::d,x=Value.type "tuple":=fun x u=>by obtain⟨_,_,z⟩:=i x u;exact z
    have F:=all t mS1;subst F;have H:((Value.type "tuple"::d).toArray.all fun x=>x == Value.type "tuple")=true:=by
     rw[ck,bB];intro x u;rw[all x u];rfl
    show dG _ _ (pure (if((Value.type "tuple"::d).toArray.all fun x=>x == Value.type "tuple")=true then some (Value.type "tuple")else none)) _ _ _;rw[if_pos H];exact wP1 (wP1 q)
end
section
variable{prog:dz}{w:dB}{A:dA}{E:dr->dw->Prop}{R:Result->dw->Prop}
end
section
variable{prog:dz}{w:dB}{A:dA}{E:dr->dw->Prop}{s:dw}
end
mutual
theorem s0{n:Nat}:∀k:TK,(tkD k).und n=true
 | .non=>rfl
 | .int _=>rfl
 | .tup xs=>by rw[tkD,D.und];exact uz xs
theorem uz{n:Nat}:∀ks:List TK,D.unds n (iD ks)=true
 |[]=>rfl
 |k::ks=>by rw[iD,D.unds,s0 k,uz ks];rfl
end
section
variable{X:Cx}
end
noncomputable def Fu(H:Hp)(a:dy):Prop:=(∃kvs,H a=some (.dK kvs)) \/ ∃xs,H a=some (.ext (fO a xs))
section
variable{X:Cx}
theorem BQ{pins:List (dy×Obj)}{σ:L2.St}{H:Hp}{s:dw}{a:dy}(I:Inv X pins σ H s)(h:Fu H a):(a == sysModules)=false /\ ∃o,s.heap.get? a=some o/\o.ExactDict:=by
 rcases h with⟨kvs,e⟩|⟨xs,e⟩
 ·obtain⟨_,b,vs,_,o,es,ep,h1,h2,_⟩:=I.hok a _ e;exact⟨b,o,h1,h2⟩
 ·obtain⟨⟨b,_,o,es,ep,h1,h2,_⟩,_⟩:=(show ew X.prog X.w H s.heap a (.ext (fO a xs))from I.hok a _ e);exact⟨b,o,h1,h2⟩
end
abbrev xl(h:dH)(it d:dy)(i n ep:Nat):Prop:=h.get? it=some {cls:=.type "dict_keyiterator",dict:=none,data:=.fields #[.ref d,.int i 0,.int n 0,.int ep 0],slots:= #[]}
section
variable{prog:dz}{w:dB}{A:dA}{E:dr->dw->Prop}{s:dw}
theorem BC{it d:dy}{i ep:Nat}{es:Array DictEntry}{o:Obj}{Q:Option dr->dw->Prop}(g:xl s.heap it d i es.size ep)(hd:s.heap.get? d=some o)(h:o.data = .dict es ep)(hi:i<es.size)(q:∀h',xl h' it d (i+1) es.size ep->Heap.SameBut it s.heap h'->Q (some es[i].key) {s with heap:=h'}):dG (model prog w) A (pyNext (.ref it)) Q E s:=by
 have j:s.TypeIs (.ref it) "dict_keyiterator":=⟨_,g,rfl⟩;unfold pyNext;refine wB1 (wpAny_attempt (wpAny_callSpecial?_slot (name:=Str.ofString "__next__") j PySem.F.slot_dict_keyiterator_next
  (wE1 PySem.F.slot_dict_keyiterator_next j PySem.F.entry_dict_keyiterator_next ?_ (PySem.F.args_dict_keyiterator_next_1 _))))
 refine wB1 (wP1 (wB1 (wB1 (wB1 (wpAny_typeNameOfWhole_keyiter j (wP1 ?_))))));refine wB1 (wpAny_fieldsOf g rfl ?_);have k:Builtin.Dict_items.ownsTuple "dict_keyiterator"=false:=by decide
 simp only[k,bF1,if_false];show dG _ _ (if(Value.ref d == Value.none)=true then _ else _) _ _ s;rw[if_neg (show¬ ((Value.ref d == Value.none)=true)from aK)];refine wB1 (wP1 (wB1 (wpAny_dictEntries hd h ?_)));rw[if_neg (by simp)];refine wB1 (wP1 (wB1 (wpAny_dictEpoch hd h ?_)));rw[if_neg (by simp)];refine wP1 ?_;simp only[show¬ ((i:Int)<0)from by lia,if_false,Int.toNat_natCast,aG1 hi];refine wB1 (wB1 (wpAny_typeNameOfWhole_keyiter j (wP1 ?_)));refine wB1 (wpAny_isOneOf_keyiter j ?_);show dG _ _ (setField (.ref it) 1 (rawInt ((i:Int)+1)) >>= _) _ _ s;refine wB1 (wS1 g (by simp) fun b a f=>?_);replace a:xl b it d (i+1) es.size ep:=by
  have e:((i+1:Nat):Int)=(i:Int)+1:=by lia
  unfold xl;rw[e];simpa[rawInt]using a
 have c:Shared.TypeIs {s with heap:=b} (.ref it) "dict_keyiterator":=⟨_,a,rfl⟩;refine wB1 (wpAny_holding (wB1 (wpAny_isOneOf_keyiter c ?_)));show dG _ _ (pure es[i].key) _ _ _;exact wP1 (wP1 ⟨_,rfl,wP1 (q b a f)⟩)
theorem EK{it d:dy}{i ep:Nat}{es:Array DictEntry}{o:Obj}{Q:Option dr->dw->Prop}(p:A.handled=none)(f:xl s.heap it d i es.size ep)(hd:s.heap.get? d=some o)(g:o.data = .dict es ep)(hi:es.size<=i)(q:∀h',(∀b o,b≠it->s.heap.get? b=some o->h'.get? b=some o)->Q none {s with heap:=h'}):dG (model prog w) A (pyNext (.ref it)) Q E s:=by
 have j:s.TypeIs (.ref it) "dict_keyiterator":=⟨_,f,rfl⟩;unfold pyNext;refine wB1 (wpAny_attempt (wpAny_callSpecial?_slot (name:=Str.ofString "__next__") j PySem.F.slot_dict_keyiterator_next
  (wE1 PySem.F.slot_dict_keyiterator_next j PySem.F.entry_dict_keyiterator_next ?_ (PySem.F.args_dict_keyiterator_next_1 _))))
 refine wB1 (wP1 (wB1 (wB1 (wB1 (wpAny_typeNameOfWhole_keyiter j (wP1 ?_))))));refine wB1 (wpAny_fieldsOf f rfl ?_);have h:Builtin.Dict_items.ownsTuple "dict_keyiterator"=false:=by decide
 simp only[h,bF1,if_false];show dG _ _ (if(Value.ref d == Value.none)=true then _ else _) _ _ s;rw[if_neg (show¬ ((Value.ref d == Value.none)=true)from aK)];refine wB1 (wP1 (wB1 (wpAny_dictEntries hd g ?_)));rw[if_neg (by simp)];refine wB1 (wP1 (wB1 (wpAny_dictEpoch hd g ?_)));rw[if_neg (by simp)];refine wP1 ?_;simp only[show¬ ((i:Int)<0)from by lia,if_false,Int.toNat_natCast,cp hi];refine wB1 (wB1 (wpAny_typeNameOfWhole_keyiter j (wP1 ?_)));show dG _ _ (setField (.ref it) 0 .none >>= _) _ _ s;refine wB1 (wS1 f (by simp) fun l k c=>?_);show dG _ _ (newExc (.type "StopIteration") [] >>= _) _ _ _;refine wB1 ?_;simp only[newExc,newTuple];refine wB1 (wO1 ?_ (by size_fits));refine wB1 (m:=firstArgMember _ _) (wpAny_of_eq (a:=Value.none) (by first|rfl|(simp only[firstArgMember];rfl)) ?_);refine wO1 ?_ (by size_fits);simp only[raiseNew];refine wB1 (wpAny_handled ?_);rw[show A.in1.handled=none from p];refine wB1 (wP1 (wpAny_throw ?_));refine wB1 (wpAny_isInstance (T:="StopIteration") (b:=true) ⟨_,hS1 _ rfl,rfl⟩ isSubtype_stop ?_);exact wP1 (q _ fun b o n e=>hP1 _ (hP1 _ (c.extBut b o n e)))
theorem BD {d:dy}{es:Array DictEntry}{ep:Nat}{o:Obj}{Q:dr->dw->Prop}(hm:(d == sysModules)=false)(hd:s.heap.get? d=some o)(hc:o.cls = .type "dict")(a:o.data = .dict es ep)(hn:es.size<=dF)
  (q:Q (.ref s.heap.objs.size) {s with heap:=s.heap.push {cls:=.type "dict_keyiterator",data:=.fields #[.ref d,.int 0 0,.int es.size 0,.int ep 0]}}):dG (model prog w) A (pyIter (.ref d)) Q E s:=by
 have b:s.TypeIs (.ref d) "dict":=⟨o,hd,hc⟩;refine wpAny_pyIter_slot b PySem.F.slot_dict_iter (wE1 PySem.F.slot_dict_iter b PySem.F.entry_dict_iter ?_ (PySem.F.args_dict_iter_1 _));unfold Builtin.«dict.__iter__»;refine wB1 ?_;unfold Builtin.Dict.dictSlotNone;refine wB1 (wpAny_notOrdered_dict b ?_);show dG _ _ (pure (Value.ref d)) _ _ s;refine wP1 ?_;show dG _ _ (Builtin.Dict.showsAll d >>= _) _ _ s;unfold Builtin.Dict.showsAll;rw[if_neg (by rw[hm];exact aK)];refine wB1 (wP1 (wB1 (wpAny_dictEntries hd a (wB1 (wpAny_dictEpoch hd a (wB1 ?_))))));refine wO1 (wP1 ⟨_,rfl,"dict_keyiterator",_,⟨_,hS1 _ rfl,rfl⟩,PySem.F.slot_dict_keyiterator_next.lookup,?_⟩);simpa[rawInt]using q
end
section
variable{prog:dz}{w:dB}{A:dA}{E:dr->dw->Prop}{R:Result->dw->Prop}
end
section
variable{X:Cx}
theorem KT.keys{K:Fg1}{H:Hp}{mu:List dy}:∀{ks:List (TK×D)} {ws:List (TK×dy×dr)},KT K H mu ks ws->dW K H mu (ks.map fun p=>tkD p.1) (ws.map fun x=>V.ref x.2.1)
 |_,_,.nil=>.nil
 |_,_,.cons ⟨z,d,k,_⟩ t=>.cons k (KT.keys t)
noncomputable def H9(X:Cx)(td ty tx:TE):TE:=fun σ H Q=>td σ H fun x H1=>∃a,x = .ref a/\Fu H1 a/\ty σ H1 fun y H2=>tx σ H2 fun z H3=>
 ∀pins s u r,Inv X pins σ H3 s->dX y u->dX z r->dG (model X.prog X.w) X.A (call (.builtin "dict.get") [.ref a,u,r]) (EP X pins σ Q) X.xe s
theorem DZ {o e f:Expr}{apos cpos:Pos}{td ty tx:TE}(ho:PE X o td)(he:PE X e ty)(hf:PE X f tx)(m:M2 X o "get" apos e f cpos):PE X (.Call (.Attribute o "get" apos) [e,f] [] cpos) (H9 X td ty tx):=by
 intro pins s σ H Q I h;refine wpAny_Call_method m.base m.few m.line PySem.F.plainAttrs_dict PySem.F.slot_dict_get PySem.F.type_dict_get (e6 (ho pins s σ H _ I h) fun u C ⟨x,H1,j,w,a,ex,d,A⟩=>?_);subst ex;obtain rfl:u=Value.ref a:=w;obtain⟨_,o',i,c⟩:=BQ j d;refine⟨⟨o',i,c.1⟩,fun b l=>by cases l;exact⟨o',i,c.2.1⟩,?_⟩;rw[m.trees];refine Calls.callWith_builtin rfl (Calls.evalArgs_plain (Calls.spliced_cons (e6 (he pins C σ H1 _ j A) fun k B ⟨y,H2,p,n,r⟩=>
  Calls.spliced_cons (e6 (hf pins B σ H2 _ p r) fun v t ⟨z,E,D,q,g⟩=>Calls.spliced_nil ?_))))
 exact g pins t k v D n q
noncomputable def wZ(S:Sto)(n:Nat):Option (List (TK×D)):=match S[n]? with
 |some (.dcT kvs)=>some kvs
 |some (.dct [])=>some []
 |_=>none
theorem vJ{H:Hp}{mu:List dy}{S:Sto}{n:Nat}{a:dy}{kvs:List (TK×D)}(hs:Sim X.K H mu S)(hn:mu[n]? = some a)(h:wZ S n=some kvs):
  Fu H a /\ ∃xs,KT X.K H mu kvs xs /\ ∀pins σ s,Inv X pins σ H s->(a == sysModules)=false/\s.heap.DictOfH (fC X.prog X.w) a xs:=by
 unfold wZ at h;split at h
 ·rename_i ks d;cases h;obtain⟨xs,h1,h2,l⟩:=hs.dcT d hn;exact⟨.inr ⟨xs,h1⟩,xs,h2,fun pins σ s I=>su I h1 h2⟩
 ·rename_i d;cases h;obtain⟨ws,h1,h2⟩:=hs.dct d hn;cases h2;refine⟨.inl ⟨[],h1⟩,[],.nil,fun pins σ s I=>?_⟩;obtain⟨_,b,vs,i,o,es,ep,e,f,j,g⟩:=I.hok a _ h1;cases i;have c:es.toList=[]:=cm.mp (by have:=g.2.1.length;simpa using this);exact⟨b,o,es,ep,e,f,j,c,fun x k=>(by cases k),bn⟩
 ·cases h
noncomputable def pR(m a b:FE):FE:=fun r S=>(m r S).bind fun p=>match p.1 with
 | .ref n=>(wZ p.2 n).bind fun _=>(a r p.2).bind fun q=>(b r q.2).bind fun t=>(wZ t.2 n).bind fun kvs=>(keyT q.1).map fun k=>((dV kvs k).getD t.1,t.2)
 |_=>none
theorem v7 {o e f:Expr}{apos cpos:Pos}{m a b:FE}(hu:X.A.units+64<cLine)(ho:XE X o m)(he:XE X e a)(hf:XE X f b)(hm:M2 X o "get" apos e f cpos:=by exact⟨rfl,rfl,rfl,rfl⟩):XE X (.Call (.Attribute o "get" apos) [e,f] [] cpos) (pR m a b):=
 ⟨eU (DZ ho.h he.h hf.h hm) <| by
  rintro σ H Q ⟨r,mu,S,d,S',he,K,hm,hc⟩;obtain⟨⟨R,J⟩,U,hm⟩:=oB1.mp hm;refine⟨r,mu,S,R,J,he,K,U,fun v1 H1 mu1 l r1 G=>?_⟩;dsimp only at hm;split at hm
  ·rename_i n;obtain⟨N,x,hm⟩:=oB1.mp hm;cases r1 with
   | @ref _ F E=>
    refine⟨F,rfl,(vJ G E x).1,?_⟩;obtain⟨⟨L,C⟩,e2,hm⟩:=oB1.mp hm;obtain⟨⟨O,S3⟩,W,hm⟩:=oB1.mp hm;refine⟨r,mu1,J,L,C,he.ext l,G,e2,fun v2 H2 B h r2 s2=>?_⟩;refine⟨r,B,C,O,S3,(he.ext l).ext h,s2,W,fun v3 j g i P t=>?_⟩;obtain⟨kvs,T,hm⟩:=oB1.mp hm;obtain⟨k,ek,hm⟩:=oM1.mp hm;cases hm;intro pins s u w I V A;obtain⟨_,xs,D,Y⟩:=vJ t (i.at (h.at E)) T;obtain⟨y,dd⟩:=Y pins σ s I;obtain⟨b,rfl,rfl,_,_,hi⟩:=iR I (r2.ext i) V ek;refine call_meetsIn PySem.F.slot_dict_get dd.typeIs PySem.F.entry_dict_get (PySem.F.args_dict_get_3 _ _ _) (meetsH_dict_get_default (fC X.prog X.w) F b y w) ⟨ik hu,k,xs,hi,dd,?_⟩;show EP X pins σ Q (((atKey xs k).map (·.2)).getD w) _;cases ez:dV kvs k with
    |none=>
     have c:=(D.look (k:=k)).2;rw[ez]at c hc;have q:atKey xs k=none:=by
      cases q:atKey xs k with
      |none=>rfl
      |some _=>rw[q]at c;cases c
     rw[q];exact⟨v3,j,I.tok _,A,hc _ j g ((l.trans h).trans i) P t⟩
    |some z=>
     obtain⟨p,v,e4,M,Z⟩:=D.look.1 z ez;rw[ez]at hc;rw[e4];exact⟨v,j,I.tok _,M,hc _ j g ((l.trans h).trans i) Z t⟩
  ·cases hm⟩
end
noncomputable def NF(X:Cx)(a:dy):Prop:=(∀xs,X.H₀ a≠some (.tup xs))/\(∀o v,X.H₀ a≠some (.frz o v)) /\ ∀ps,X.H₀ a≠some (.tbl ps)
section
variable{X:Cx}{pins:List (dy×Obj)}{σ:L2.St}{H:Hp}{s:dw}{a:dy}{u v:HO}
theorem rR(I:Inv X pins σ H s)(e:H a=some u)(d:NF X a)(h1:∀c,u ≠ .own c)(h2:∀xs,u ≠ .tup xs)(new:ew X.prog X.w H s.heap a v):Inv X pins σ (upd H a v) s:=by
 have ne:∀{b:dy},H b=none->b≠a:=fun{b} z=>by rintro rfl;rw[e]at z;cases z
 have h:∀b c,H b=some (.own c)->upd H a v b=some (.own c):=fun b c z=>by
  rw[dR (by rintro rfl;rw[e]at z;cases z;exact h1 _ rfl)];exact z
 have g:∀b xs,H b=some (.tup xs)->upd H a v b=some (.tup xs):=fun b xs z=>by
  rw[dR (by rintro rfl;rw[e]at z;cases z;exact h2 _ rfl)];exact z
 refine⟨I.ok,I.os,I.bare,⟨I.base.keep,I.base.slot,fun b o q n l=>?_,I.base.there,fun b xs q=>?_,fun b o w q=>?_,fun b ps q=>?_⟩,I.loc,I.cell,?_,fun x c q=>?_,fun p j=>?_,fun b w q=>?_,I.len⟩
 ·have z:=I.base.free b o q n l;rw[dR (ne z)];exact z
 ·rw[dR (by rintro rfl;exact d.1 _ q)];exact I.base.tups b xs q
 ·rw[dR (by rintro rfl;exact d.2.1 _ _ q)];exact I.base.frzs b o w q
 ·rw[dR (by rintro rfl;exact d.2.2 _ q)];exact I.base.tbls b ps q
 ·rw[dR (ne I.free)];exact I.free
 ·rw[dR (ne (I.freeC x c q))];exact I.freeC x c q
 ·obtain⟨k,p2,i⟩:=I.pin p j;exact⟨k,by rw[dR (ne p2)];exact p2,i⟩
 ·by_cases f:b=a
  ·subst f;rw[d2]at q;cases q;exact new.stay (fun c o _ z=>z) (fun c z=>h c _ z) fun c xs z=>g c xs z
  ·rw[dR f]at q;exact(I.hok b w q).stay (fun c o _ z=>z) (fun c z=>h c _ z) fun c xs z=>g c xs z
end
inductive xm (a:dy):List (TK×dy×dr)->HO->Prop
 |ext (xs:List (TK×dy×dr)):xm a xs (.ext (fO a xs))
 |dK:xm a [] (.dK [])
noncomputable def ItD(a:dy)(o:Obj)(xs:List (TK×dy×dr)):It:=
 ⟨fun i H=>(∃u,H a=some (.frz o u))/\i<xs.length,fun i H x H'=>H'=H /\ ∃q,xs[i]?=some q/\x = .ref q.2.1,fun i H=>(∃u,H a=some (.frz o u))/\xs.length<=i⟩
theorem wa{P:dz}{w:dB}{K:Fg1}{tg:Expr}{a it:dy}{o:Obj}{xs:List (TK×dy×dr)}{es:Array DictEntry}{ep:Nat}(hd:o.data = .dict es ep)(c:es.toList=xs.map fun x=>(⟨x.1.hash,.ref x.2.1,x.2.2⟩:DictEntry)):
  sI P w K tg (ItD a o xs) [it] it (fun i h=>xl h it a i es.size ep) where
 mem:=by simp
 obj:=fun i h st b d=>by
  have e:b=it:=by simpa using d
  subst e;exact⟨_,st,fun v z=>by cases z⟩
 keep:=fun i h h' st k=>k it (by simp) _ st
 item:=by
  intro X q g t hc i pins s σ H E I f st m;subst q g t;obtain⟨⟨u,A⟩,hi⟩:=m;obtain⟨n,_⟩:=(show ew X.prog X.w H s.heap a (.frz o u)from I.hok a _ A);have y:es.size=xs.length:=by rw[<- aJ,c,lM1]
  obtain⟨l,j,C,B,p,r⟩:=f it (by simp);refine BC st n hd (by omega) fun h' st' J=>?_;have F:Inv X pins σ H {s with heap:=h'}:=I.turned (t':=s.toks) (fun b o d e=>(J.2 b d).trans e) l j B p r;have G:es[i].key = .ref (xs[i]).2.1:=by
   have:es.toList[i]?=(xs.map fun x=>(⟨x.1.hash,.ref x.2.1,x.2.2⟩:DictEntry))[i]?:=by rw[c]
   rw[aT1,aG1 (by omega),gP1,gG1 hi]at this;have:=Option.some.inj this;rw[this]
  refine⟨_,rfl,vv (s:={s with heap:=h'}) st' rfl rfl (by decide) ⟨.ref (xs[i]).2.1,H,F,G,⟨rfl,_,gG1 hi,rfl⟩,st',fun b d=>(f b d).1⟩⟩
 done:=by
  intro X q g t hc i pins s σ H E I f st m;subst q g t;obtain⟨⟨u,A⟩,hi⟩:=m;obtain⟨n,_⟩:=(show ew X.prog X.w H s.heap a (.frz o u)from I.hok a _ A);have y:es.size=xs.length:=by rw[<- aJ,c,lM1]
  obtain⟨l,j,C,B,p,r⟩:=f it (by simp);exact EK (I.ok.hd hc) st n hd (by omega) fun h' D=>⟨rfl,I.turned (t':=s.toks) (fun b o d e=>D b o d e) l j B p r⟩
 self:=fun _ _ _ _ _ st h=>wpAny_pyIter_keyiter ⟨_,st,rfl,rfl⟩ h
noncomputable def GP(X:Cx)(tl:TE):TI:=fun σ H R=>tl σ H fun x H1=>∃a xs u,x = .ref a/\H1 a=some u/\xm a xs u/\xs.length<=dF /\ ∀o,vZ a xs o->NF X a->R (ItD a o xs) (upd H1 a (.frz o u))
theorem E6{X:Cx}{pins:List (dy×Obj)}{σ:L2.St}{H:Hp}{s:dw}{a:dy}{u:HO}{xs:List (TK×dy×dr)}(I:Inv X pins σ H s)(e:H a=some u)(h:xm a xs u):∃o,s.heap.get? a=some o/\vZ a xs o:=by
 cases h with
 |ext xs=>
  obtain⟨⟨h1,h2,o,es,ep,b,c,f,d⟩,_⟩:=(show ew X.prog X.w H s.heap a (.ext (fO a xs))from I.hok a _ e);exact⟨o,b,h1,h2,c,es,ep,f,d⟩
 |dK=>
  obtain⟨_,h1,vs,h2,b⟩:=(show ew X.prog X.w H s.heap a (.dK [])from I.hok a _ e);cases h2;obtain⟨o,es,ep,b,c,f,d,_⟩:=m3 b;exact⟨o,b,h1,bn,c,es,ep,f,d⟩
theorem E5{X:Cx}{pins:List (dy×Obj)}{σ:L2.St}{H:Hp}{s:dw}{a:dy}{u:HO}{xs:List (TK×dy×dr)}(I:Inv X pins σ H s)(e:H a=some u)(h:xm a xs u):NF X a:=by
 refine⟨fun ys q=>?_,fun o v q=>?_,fun ps q=>?_⟩
 ·have:=I.base.tups a ys q;rw[e]at this;cases this;cases h
 ·have:=I.base.frzs a o v q;rw[e]at this;cases this;cases h
 ·obtain⟨m,z⟩:=I.base.tbls a ps q;rw[e]at z;cases z;cases h
theorem DR{X:Cx}{tg l:Expr}{tl:TE}(y:PE X l tl):PI X tg l (GP X tl):=by
 intro pins s σ H R I h;refine e6 (y pins s σ H _ I h) fun v s1 ⟨x,H1,d,C,B⟩=>?_;obtain⟨a,xs,u,e,g,f,D,q⟩:=B;subst e;cases C;obtain⟨o,n,j⟩:=E6 d g f;have k:=E5 d g f;have q:=q o j k;obtain⟨r,E,t,es,ep,p,i⟩:=j;have A:es.size=xs.length:=by rw[<- aJ,i,lM1]
 refine BD r n t.1 p (by lia) ?_;have m:Inv X pins σ (upd H1 a (.frz o u)) s1:=rR d g k (fun c z=>by subst z;cases f) (fun c z=>by subst z;cases f) ⟨n,d.hok a _ g⟩;refine⟨s1.heap.objs.size,[s1.heap.objs.size],_,_,_,rfl,m.kept (t':=s1.toks) fun b o e=>hP1 _ e,wa p i,hS1 _ rfl,fun b w=>?_,q⟩;have e:b=s1.heap.objs.size:=by simpa using w
 subst e;exact d.fpOk (nR1 _) (m.hok.fresh (nR1 _))
noncomputable def zj:Ob->Option (List (TK×D))
 | .dcT kvs=>some kvs
 | .dct []=>some []
 |_=>none
noncomputable def kT(k:Nat)(keep:List Nat)(m:FE)(g:FG)(t:FT)(b:FV):FE:=fun r S=>(m r S).bind fun p=>match p.1 with
 | .ref n=>(p.2[n]?).bind fun ob=>(zj ob).bind fun kvs=>(fB [] g t b (kvs.map fun q=>tkD q.1) (nE k keep r) (p.2.set n (.dcF kvs))).bind fun q=>
   if q.1.length<=dF then some (.ref q.2.2.length,q.2.2.set n ob++[.lst q.1])else none
 |_=>none
section
variable{K:Fg1}{H H':Hp}{mu mu':List dy}{S:Sto}{n:Nat}{a:dy}{o:Obj}{u:HO}
theorem k0.exv{b:dy}(e:xw mu mu' H H')(h:∀o,H b=some o->H' b=some o):∀{o:Ob},k0 K H mu b o->k0 K H' mu' b o
 | .lst _,⟨vs,q,r⟩=>⟨vs,h _ q,r.exv e⟩
 | .dct _,⟨ws,q,r⟩=>⟨ws,h _ q,Paired.mapP r fun _ _ z=>⟨z.1,z.2.exv e⟩⟩
 | .dcT _,⟨ws,q,r,l⟩=>⟨ws,h _ q,Paired.mapP r fun _ _ ⟨z,d,k,v,a,r⟩=>⟨z,d,k.exv e,v,a,r.exv e⟩,l⟩
 | .iset _,q=>⟨h _ q.1,q.2⟩
 | .dcF _,⟨ws,⟨o,u,c,f⟩,r,l⟩=>⟨ws,⟨o,u,h _ c,f⟩,Paired.mapP r fun _ _ ⟨z,d,k,v,a,r⟩=>⟨z,d,k.exv e,v,a,r.exv e⟩,l⟩
 | .tst _,⟨ws,q,r⟩=>⟨ws,h _ q,Paired.mapP r fun _ _ ⟨z,d,k,v,a,r⟩=>⟨z,d,k.exv e,v,a,r.exv e⟩⟩
theorem qx(e:H a=some (.frz o u))(h1:∀xs,u ≠ .tup xs)(h2:∀xs,u ≠ .lst xs):xw mu mu H (upd H a u) where
 pre:=bm
 tup:=fun b xs h=>by
  have ne:b≠a:=by
   rintro rfl;rcases h with h|⟨_,h⟩<;>(rw[e]at h;cases h)
   exact h1 _ rfl
  rcases h with h|⟨c,h⟩
  ·exact .inl (by rw[dR ne];exact h)
  ·exact .inr ⟨c,by rw[dR ne];exact h⟩
 frl:=fun b c xs h=>by
  rw[dR (by rintro rfl;rw[e]at h;cases h;exact h2 _ rfl)];exact h
theorem Sim.thaw(s:Sim K H mu S){c:Ob}(hn:mu[n]?=some a)(x:xw mu mu H (upd H a u))(ho:k0 K (upd H a u) mu a c):Sim K (upd H a u) mu (S.set n c):=by
 refine⟨by rw[aW];exact s.len,s.nd,fun k o' b h1 h2=>?_⟩;by_cases d:n=k
 ·subst d;have f:n<S.length:=by
   have:=(gE1.mp h1).1
   rwa [aW]at this
  rw[aI f]at h1;cases h1;rw[hn]at h2;cases h2;exact ho
 ·rw [gS1 d] at h1;have ne:b≠a:=fun e=>by
   subst e;obtain⟨j,g⟩:=gE1.mp hn;obtain⟨i,h⟩:=gE1.mp h2;exact d ((List.getElem_inj s.nd).mp (g.trans h.symm))
  exact(s.ob k o' b h1 h2).exv x fun c e=>by rw[dR ne];exact e
theorem BK(s:Sim K H mu S){ob:Ob}{kvs:List (TK×D)}(h:S[n]? = some ob)(hk:zj ob=some kvs)(hn:mu[n]? = some a):
  ∃xs u,H a=some u/\xm a xs u/\KT K H mu kvs xs/\xs.length<=dF /\ ∀H' mu',xw mu mu' H H'->H' a=some u->k0 K H' mu' a ob:=by
 cases ob with
 |dcT ks=>
  cases hk;obtain⟨xs,e,r,l⟩:=s.dcT h hn;exact⟨xs,_,e,.ext xs,r,l,fun H' mu' x b=>⟨xs,b,Paired.mapP r fun _ _ ⟨z,d,k,v,c,r⟩=>⟨z,d,k.exv x,v,c,r.exv x⟩,l⟩⟩
 |dct ks=>
  cases ks with
  |nil=>
   cases hk;obtain⟨ws,e,r⟩:=s.dct h hn;cases r;exact⟨[],_,e,.dK,.nil,bh _,fun H' mu' x b=>⟨[],b,.nil⟩⟩
  |cons _ _=>cases hk
 |_=>cases hk
end
theorem KT.keyOf{K:Fg1}{H:Hp}{mu:List dy}{ks:List (TK×D)}{ws:List (TK×dy×dr)}(h:KT K H mu ks ws){i:Nat}{d:D}(e:(ks.map fun q=>tkD q.1)[i]?=some d){q:TK×dy×dr}(c:ws[i]?=some q):eB K H mu d (.ref q.2.1):=by
 obtain⟨v,a,b⟩:=h.keys.get e;rw[gP1,c]at a;cases a;exact b
theorem zZ{X:Cx}{K:Fg1}{k:Nat}{keep:List Nat}{m:FE}{g:FG}{t:FT}{b:FV}{tb:dy->TS}(hb:∀ a E σ H,FW K a b E σ H->tb a E σ H){σ:L2.St}{H:Hp}{Q:VK}(h:tM K (kT k keep m g t b) σ H Q):
  uF k keep (GP X (tM K m)) (Dk K g) (xV K t) tb σ H (fun v H'=>∃a o u,H' a=some (.frz o u)/\(∀xs,u ≠ .tup xs)/\NF X a/\Q v (upd H' a u)):=by
 obtain⟨r,mu,S,d,S',he,hs,f,hc⟩:=h;obtain⟨⟨d1,S1⟩,e1,f⟩:=oB1.mp f;cases d1 with
 |ref n=>
  obtain⟨x,eo,f⟩:=oB1.mp f;obtain⟨kvs,ek,f⟩:=oB1.mp f;obtain⟨⟨ys,r2,L⟩,e2,f⟩:=oB1.mp f;dsimp only at f;split at f
  ·rename_i hl;cases f;refine⟨r,mu,S,.ref n,S1,he,hs,e1,fun v H1 mu1 x1 r1 s1=>?_⟩;cases r1 with
   | @ref _ a G=>
   obtain⟨xs,u,P,A,F,hz,back⟩:=BK s1 eo ek G;refine⟨a,xs,u,rfl,P,A,hz,fun o hO nf p l=>?_⟩;have mt:Mut (some u):=by cases A<;>trivial
   have put:Ext mu1 mu1 H1 (upd H1 a (.frz o u)):=Ext.put P mt (gM1 G);have sf:Sim K (upd H1 a (.frz o u)) mu1 (S1.set n (.dcF kvs)):=s1.put G P mt ⟨xs,⟨o,u,d2,hO⟩,KT.ext put F,hz⟩;have s:p≠a:=by rintro rfl;rw[d2]at l;cases l
   have T:Ext mu1 mu1 (upd H1 a (.frz o u)) (upd (upd H1 a (.frz o u)) p (.lst [])):=Ext.fresh l;have hlen:kvs.length=xs.length:=by have:=F.keys.length;simpa using this
   have J1:ItR K (ItD a o xs) ⟨kvs.map fun q=>tkD q.1,[]⟩ mu1 (upd H1 a (.frz o u)):=by
    intro i H2 mu2 L x2 s2 _;have hf:=x2.frz a o u d2;refine⟨fun d A=>?_,fun h=>⟨⟨u,hf⟩,by rw[lM1]at h;lia⟩⟩;have hi:i<xs.length:=by have:=(gE1.mp A).1;rw[lM1]at this;lia
    refine⟨⟨⟨u,hf⟩,hi⟩,?_⟩;rintro y H3 ⟨rfl,q,eq,rfl⟩;exact⟨.refl _ _,s2,((KT.ext put F).keyOf A eq).exw x2⟩
   refine rK (hb p) J1 T.w d2 (sf.notin l) .nil ((CL k keep (he.ext (x1.trans put))).ext T) (sf.fresh l) e2 (by simpa using hl) fun σ' H' mu' D J Y U W he' s'=>?_;have C:H' a=some (.frz o u):=J.frz a o u (by rw[dR s.symm];exact d2);have h1:∀xs,u ≠ .tup xs:=fun xs z=>by subst z;cases A
   have h2:∀xs,u ≠ .lst xs:=fun xs z=>by subst z;cases A
   refine⟨a,o,u,C,h1,nf,?_⟩;have B:=(bW.mp J.pre).2;have na:mu'[n]?=some a:=by
    obtain⟨t,rfl⟩:=B;rw[gL1 (gE1.mp G).1];exact G
   have ne1:∀{b:dy},H1 b=none->b≠a:=fun{b} z=>by rintro rfl;rw[P]at z;cases z
   have y:Ext mu1 (mu'++[p]) H1 (upd H' a u):=by
    refine⟨B.trans (bu _ _),fun b w e nb=>?_,fun b ys e=>?_,fun b x w e=>?_,fun b Z=>?_⟩
    ·have R:b≠a:=fun z=>nb (by rw[z];exact gM1 G);have bp:b≠p:=by rintro rfl;rw[dR s,e]at l;cases l
     rw[dR R];exact J.old b w (by rw[dR bp,dR R];exact e) fun z=>by
      rcases aF.mp z with z|z
      ·exact bp z
      ·exact nb z
    ·exact(qx (mu:=mu') C h1 h2).tup b ys (J.tup b ys (T.tup b ys (put.tup b ys e)))
    ·have R:b≠a:=by rintro rfl;rw[P]at e;cases e;cases A
     rw[dR R];exact J.frz b x w (T.frz b x w (put.frz b x w e))
    ·rcases aG.mp Z with z|z
     ·rcases J.new b (mC1 _ z)with q|q
      ·rcases aF.mp q with q|q
       ·exact .inr (by rw[q];rw[dR s]at l;exact l)
       ·exact .inl q
      ·by_cases N:b=p
       ·exact .inr (by rw[N];rw[dR s]at l;exact l)
       ·rw[dR N]at q;by_cases O:b=a
        ·exact .inl (by rw[O];exact gM1 G)
        ·rw[dR O]at q;exact .inr q
     ·have:b=p:=by simpa using z
      exact .inr (by rw[this];rw[dR s]at l;exact l)
   have tx:=qx (mu:=mu') C h1 h2;have I:Sim K (upd H' a u) mu' (L.set n x):=s'.thaw na tx (back _ _ ⟨B,y.tup,fun b x w e=>y.frz b x _ e⟩ d2);have M:upd H' a u p=some (.lst D):=by rw[dR s];exact Y
   refine hc _ _ (mu'++[p]) (x1.trans y) (by rw[show L.length=(L.set n x).length by simp];exact .ref (gi I.len p)) ⟨by rw[lA1,lA1,I.len];rfl,?_,fun j w b h1 h2=>?_⟩
   ·rw[bw];refine⟨I.nd,by simp,fun b hb c hc e=>?_⟩;have:c=p:=by simpa using hc
    subst this;subst e;exact U hb
   ·by_cases F:j<(L.set n x).length
    ·rw[gL1 F]at h1;rw[gL1 (by rw[I.len];exact F)]at h2;exact(I.ob j w b h1 h2).mor [p]
    ·have V:j=(L.set n x).length:=by
      have:=(gE1.mp h1).1;rw[lA1]at this;simp at this F;simp;lia
     subst V;rw[gR1 (nR1 _)]at h1;rw[<- I.len,gR1 (nR1 _)]at h2;simp at h1 h2;subst h1;subst h2;exact⟨D,M,((by simpa using W:dW K H' mu' ys D).exv tx).mor [p]⟩
  ·cases f
 |_=>cases f
theorem nO{X:Cx}{elt tg iter:Expr}{ifs:List Expr}{scope:dL}{pos:Pos}{T:List Str}{keep:List Nat}{l:List (Str×dy)}{m:FE}{g:FG}{t:FT}{e:FE}(hc:X.calm=true)(C:FB X scope T keep)(f:iX X.env.cells scope.names []=some l)(hi:XE X iter m)(hb:∀s H b,HL (cxC X scope l T keep s H b) X.K tg ifs elt g t e)(hs:∀x,foldedSetIterable iter X.env x=pure x:=by intro _;rfl):XE X (.ListComp elt [⟨tg,iter,ifs,0⟩] scope pos) (kT T.length keep m g t (ev e)):=by
 refine⟨fun pins s σ H Q I h=>?_⟩;have r:=uU (g:=Dk X.K g) (ti:=xV X.K t) (emit:=oG elt) (tb:=fun p=>qy p (tM X.K e)) hc (fun it i d=>tf elt tg iter ifs scope pos it i d) C f (DR (tg:=tg) hi.h) (fun s H b p=>⟨(hb s H b).g.h,(hb s H b).t.h,pF (hb s H b).e.h p⟩) hs;refine wpAny_mono (r pins s σ H _ I (zZ (fun a E σ H q=>m4 q) h)) ?_ fun _ _ x=>x;rintro v y ⟨x,H2,j,r2,a,o,u,k,w,n,q⟩;exact⟨x,upd H2 a u,rR j k n (fun c z=>by cases z) (fun c z=>by cases z) (j.hok a _ k).2,r2,q⟩
theorem uk.lt{xs:Array Nat}(h:uk xs){a b u v:Nat}(e:a<b)(d:xs[a]?=some u)(c:xs[b]?=some v):u<v:=by
 rw[<- aT1]at d c;obtain⟨g,d⟩:=gE1.mp d;obtain⟨f,c⟩:=gE1.mp c;have:=cq.mp h a b g f e;rw[d,c]at this;exact this
structure Bs (xs:Array Nat)(j i:Nat):Prop where
 le:i<=xs.size
 lo:∀k v,xs[k]?=some v->k<i->v<j
 hi:∀k v,xs[k]?=some v->i<=k->j<=v
theorem Bs.uniq{xs:Array Nat}{j i i':Nat}(h:Bs xs j i)(h':Bs xs j i'):i=i':=by
 rcases Nat.lt_trichotomy i i' with z|z|z
 ·have a:i<xs.size:=nL1 z h'.le;have e:=aG1 a;have:=h.hi _ _ e (nR1 _);have:=h'.lo _ _ e z;lia
 ·exact z
 ·have a:i'<xs.size:=nL1 z h.le;have e:=aG1 a;have:=h'.hi _ _ e (nR1 _);have:=h.lo _ _ e z;lia
theorem Ab{xs:Array Nat}{j:Nat}(hr:uk xs):∀n lo hi:Nat,lo<=hi->hi<=xs.size->hi-lo<=n->(∀k v,xs[k]?=some v->k<lo->v<j)->(∀k v,xs[k]?=some v->hi<=k->j<=v)->Bs xs j (SetTable.below.go xs j n lo hi)
 |0,lo,hi,h1,h2,g,b,c=>by
  have:lo=hi:=by lia
  subst this;exact⟨h2,b,c⟩
 |n + 1,lo,hi,h1,h2,g,b,c=>by
  rw[SetTable.below.go];by_cases d:lo<hi
  ·rw[if_pos d];have f:(lo+hi)/2<xs.size:=by lia
   have a:=aG1 f;have h:xs.getD ((lo+hi)/2) j=xs[(lo+hi)/2]:=by simp[Array.getD,f]
   dsimp only;rw[h];by_cases hc:xs[(lo+hi)/2]<j
   ·rw[if_pos hc];refine Ab hr n _ _ (by lia) h2 (by lia) (fun k v e i=>?_) c;rcases bV k ((lo+hi)/2)with z|z
    ·have:=hr.lt z e a;lia
    ·have:k=(lo+hi)/2:=by lia
     subst this;rw[a]at e;cases e;exact hc
   ·rw[if_neg hc];refine Ab hr n _ _ (by lia) (by lia) (by lia) b fun k v e i=>?_;rcases bV ((lo+hi)/2) k with z|z
    ·have:=hr.lt z a e;lia
    ·have:k=(lo+hi)/2:=by lia
     subst this;rw[a]at e;cases e;lia
  ·rw[if_neg d];have:lo=hi:=by lia
   subst this;exact⟨h2,b,c⟩
theorem m9{xs:Array Nat}(hr:uk xs)(j:Nat):Bs xs j (SetTable.below xs j):=
 Ab hr _ 0 _ (bh _) (nR1 _) (by lia) (fun _ _ _ h=>absurd h (bv _)) fun k v e h=>by
  have:=(Array.getElem?_eq_some_iff.mp e).1;lia
theorem rV{α:Type}(xs:Array α)(p:Nat)(x:α):(SetTable.insertAt xs p x).toList=xs.toList.take p++x::xs.toList.drop p:=by
 unfold SetTable.insertAt;rw[cr,cu,cv,cv];simp[List.extract_eq_drop_take];rw[b8 (by simp)]
theorem AJ{xs:Array Nat}(hr:uk xs){j:Nat}(hn:xs[SetTable.below xs j]? ≠ some j):uk (SetTable.insertAt xs (SetTable.below xs j) j):=by
 have b:=m9 hr j;unfold uk;rw[rV,cw,ca];have lo:∀v∈xs.toList.take (SetTable.below xs j),v<j:=fun v h=>by
  obtain⟨k,d⟩:=bo h;rw[List.getElem?_take]at d;split at d
  ·rename_i g;exact b.lo k v (by rw[<- aT1];exact d) g
  ·cases d
 have hi:∀v∈xs.toList.drop (SetTable.below xs j),j<v:=fun v h=>by
  obtain⟨k,d⟩:=bo h;rw[cy,aT1]at d;have h1:=b.hi _ v d (bq _ _);rcases bV j v with z|z
  ·exact z
  ·exfalso;have f:v=j:=by lia
   subst f;cases k with
   |zero=>exact hn d
   |succ k=>
    have l:SetTable.below xs v<xs.size:=by have:=(Array.getElem?_eq_some_iff.mp d).1;lia
    have e:=aG1 l;have:=b.hi _ _ e (nR1 _);have:=hr.lt (by lia) e d;lia
 refine⟨hr.sublist (aU _ _),⟨hi,hr.sublist (cA _ _)⟩,fun a i c hc=>?_⟩;rcases aF.mp hc with z|z
 ·rw[z];exact lo a i
 ·exact bg (lo a i) (hi c z)
structure TS (l:Bool)(t:SetTable):Prop where
 up:uk t.place
 du:t.dummies = #[]
 ld:t.led=l
theorem rB{t:SetTable}(hd:t.dummies = #[])(j:Nat):SetTable.has t.dummies j=false:=by rw[hd];rfl
theorem nQ{t:SetTable}(hd:t.dummies = #[]){f:Nat->Int}{h:Int}:∀(n:Nat) (p:SetTable.Probe) (j:Nat) (d:Option Nat),p.dummy=none->SetTable.probe.go t f h n p=some (.empty j d)->d=none/\t.place[SetTable.below t.place j]? ≠ some j
 |0,p,j,d,_,e=>by rw[SetTable.probe.go]at e;cases e
 |n+1,p,j,d,hp,e=>by
  have a:(t.advance p).dummy=none:=by
   unfold SetTable.advance;split
   ·exact hp
   ·dsimp only;exact hp
  rw[SetTable.probe.go]at e;unfold SetTable.slot at e;dsimp only at e;rw[rB hd]at e;by_cases hc:(t.place[SetTable.below t.place p.j]? == some p.j)=true
  ·rw[if_pos hc]at e;dsimp only at e;split at e
   ·cases e
   ·exact nQ hd n _ j d a e
  ·rw[if_neg hc,if_neg (by decide)]at e;dsimp only at e;cases e;refine⟨hp,fun z=>hc ?_⟩;rw[z];simp
theorem B9{t:SetTable}(hd:t.dummies = #[]){h:Int}{j:Nat}{b:Bool}(e:t.freeSlot h=some (j,b)):t.place[SetTable.below t.place j]? ≠ some j:=by
 unfold SetTable.freeSlot at e;split at e
 ·rename_i c d ep;obtain⟨rfl,a⟩:=nQ hd _ _ _ _ rfl ep;cases e;exact a
 ·cases e
theorem jH{l:Bool}{t:SetTable}(h:TS l t)(n:Nat):TS l (t.standIn n):=by
 refine⟨?_,rfl,h.ld⟩;show(Array.range n).toList.Pairwise (· < ·);rw[Array.toList_range];exact cB
theorem FF{l:Bool}{t:SetTable}(h:TS l t)(n:Nat):TS l (t.orStandIn n):=by
 unfold SetTable.orStandIn;split
 ·exact h
 ·exact jH h n
theorem Dd{l:Bool}{t:SetTable}(ht:TS l t)(es:Array (Int×dr))(h:Int)(x:dr):TS l (layNew t es h x).2.1:=by
 unfold layNew;split
 ·rename_i j b e;show TS l ((t.put j).1.orStandIn _);refine FF (t:=(t.put j).1) ⟨?_,?_,ht.ld⟩ _
  ·exact AJ ht.up (B9 ht.du e)
  ·show(if SetTable.has t.dummies j=true then _ else t.dummies) = #[];rw[rB ht.du,if_neg (by decide)];exact ht.du
 ·exact jH ht _
theorem p7{α:Type}(f:Nat->Option α):∀l:List Nat,((l.filterMap fun j=>(f j).map (j,·)).map (·.1)).Sublist l
 |[]=>.slnil
 |a::l=>by
  rw[aE];cases f a with
  |none=>exact(p7 f l).cons a
  |some x=>exact(p7 f l).cons₂ a
theorem AC{l p:Bool}{m b c:Nat}{hs:Array Int}{t:SetTable}{a:Array Nat}(e:SetTable.laid m b c l p hs=some (t,a)):TS l t:=by
 unfold SetTable.laid at e;obtain⟨d,_,e⟩:=oB1.mp e;cases e;refine⟨?_,rfl,rfl⟩;unfold uk;dsimp only;exact List.pairwise_lt_range.sublist (by simpa using p7 (fun j=>d.getD j none) (List.range (m+1)))
theorem xN{l:Bool}{t:SetTable}(ht:TS l t)(es:Array (Int×dr))(n:Nat):TS l (relayAll t es n).2.1:=by
 unfold relayAll;split
 ·rename_i b a e;dsimp only;split
  ·have:=AC e;rw[ht.ld]at this;exact this
  ·exact jH ht _
 ·exact jH ht _
theorem xO(l:Bool):TS l (SetTable.fresh 0 0 l):=⟨List.Pairwise.nil,rfl,rfl⟩
theorem Cm{xs:Array Nat}(hr:uk xs){i:Nat}(hi:i<xs.size):SetTable.below xs (xs[i]+1)=i+1:=by
 refine(m9 hr _).uniq ⟨hi,fun k v e a=>?_,fun k v e a=>?_⟩
 ·rcases bV k i with z|z
  ·have:=hr.lt z e (aG1 hi);lia
  ·have:k=i:=by lia
   subst this;rw[aG1 hi]at e;cases e;lia
 ·have:=hr.lt (show i<k by lia) (aG1 hi) e;lia
theorem Aa{xs:Array Nat}(hr:uk xs):SetTable.below xs 0=0:=
 (m9 hr _).uniq ⟨bh _,fun k v e a=>absurd a (bv _),fun k v e a=>bh _⟩
noncomputable def Iz(e:Int×dr):Int:=match e.2 with
 | .int k _=>k
 |_=>0
structure Els (es:Array (Int×dr))(ns:List Int):Prop where
 el:∀e∈es.toList,∃k t,e=(hashInt k,Value.int k t)
 pm:(es.toList.map Iz).Perm ns
theorem Els.of{P:dz}{w:dB}{es:Array (Int×dr)}{ns:List Int}(h:Els es ns):ElemsOf (intKind P w) es.toList:=fun e a=>by
 obtain⟨k,t,rfl⟩:=h.el e a;exact⟨⟨k,intKind_is _ _ _ _,rfl⟩,rfl⟩
theorem Els.size{es:Array (Int×dr)}{ns:List Int}(h:Els es ns):es.size=ns.length:=by
 have:=h.pm.length_eq;rw[lM1,aJ]at this;exact this
theorem Els.perm{es fs:Array (Int×dr)}{ns:List Int}(h:Els es ns)(p:fs.toList.Perm es.toList):Els fs ns:=
 ⟨fun e a=>h.el e (p.mem_iff.mp a),(p.map _).trans h.pm⟩
theorem Els.add{es fs:Array (Int×dr)}{ns:List Int}(h:Els es ns){k:Int}{t:Tok}(p:fs.toList.Perm (es.push (hashInt k,.int k t)).toList):Els fs (ns++[k]):=by
 rw[cu]at p;refine⟨fun e a=>?_,?_⟩
 ·rcases aG.mp (p.mem_iff.mp a)with z|z
  ·exact h.el e z
  ·simp at z;exact⟨k,t,z⟩
 ·refine(p.map _).trans ?_;rw[cC];exact h.pm.append (.refl _)
noncomputable def i6(b:Bool)(p:dy)(ns:List Int)(h:dH):Prop:=∃es ep t l,h.get? p=some (stO es ep t)/\Els es ns/\es.size<scanBound/\t.fits es.size=true/\TS l t/\(b=false->l=true)
section
variable{P:dz}{w:dB}{A:dA}{E:dr->dw->Prop}{s:dw}{b:Bool}{p:dy}{ns:List Int}
theorem yn{es fs:Array (Int×dr)}{ep:Nat}{t u:SetTable}{h:dH}(e:h.get? p=some (stO es ep t)):(h.update p (Obj.putSet fs u)).get? p=some (stO fs (ep+1) u):=by
 have:=hW1 (Obj.putSet fs u) e (by rw[putSet_of fs u rfl];rfl);rw[putSet_of fs u rfl]at this;exact this
theorem gw{c:Bool}{Q:Unit->dw->Prop}(q:Q () s):dG (model P w) A (match c with
  |true=>rule "set.scan.the-table-gave-way"
  |false=>pure ()) Q E s:=by cases c<;>first|exact wP1 q|exact wpAny_rule q
theorem IN{k:Int}{tk:Tok}{Q:Bool->dw->Prop}(W:i6 b p ns s.heap)(hr:ns.length+1<scanBound)(q:∀c h',Heap.SameBut p s.heap h'->i6 b p (step_dedup ns k) h'->Q c {s with heap:=h'}):dG (model P w) A (setAddHashed p (.int k tk) (hashInt k)) Q E s:=by
 obtain⟨es,ep,t,l,i,a,R,D,V,J⟩:=W;have hz:=a.size;have N:ElemsOf (intKind P w) es.toList:=a.of;unfold setAddHashed setAddHashedIn;refine wpAny_holding (wB1 (wpAny_setState_of i rfl D ?_));dsimp only;rw[byScan_of (knd:=intKind P w) rfl R N,if_pos rfl];unfold setAddByScan;refine wB1 (wB1 (wpAny_rule (wB1 (wpAny_setScan_of (knd:=intKind P w) (k:=k) (intKind_is _ _ _ _) i rfl D N ?_))));cases hx:List.findIdx? (fun e=>(intKind P w).is k e.2) es.toList with
 |some j=>
  obtain⟨U,g,_⟩:=b6.mp hx;have K:k∈ns:=by
   refine a.pm.mem_iff.mp (cc.mpr ⟨_,bS U,?_⟩);obtain⟨k',Y,e⟩:=a.el _ (bS U);rw[e]at g ⊢;exact((intKind P w).inj _ _ _ g (intKind_is P w k' Y)).symm
  have I:step_dedup ns k=ns:=by unfold step_dedup;rw[if_pos (bR.mpr ⟨k,K,by simp⟩)]
  rw[I]at q;exact wP1 (wP1 (q _ s.heap (Heap.SameBut.refl p s.heap) ⟨es,ep,t,l,i,a,R,D,V,J⟩))
 |none=>
  have I:step_dedup ns k=ns++[k]:=by
   unfold step_dedup;rw[if_neg fun z=>?_];obtain⟨k',K,e⟩:=bR.mp z;have e:=beq_iff_eq.mp e;subst e;obtain⟨x,m,d⟩:=cc.mp (a.pm.mem_iff.mpr K);obtain⟨n,h,rfl⟩:=a.el x m;have d:n=k':=d;subst d;have:=List.findIdx?_eq_none_iff.mp hx _ m;rw[show(intKind P w).is n (hashInt n,Value.int n h).2=true from intKind_is _ _ _ _]at this;cases this
  rw[I]at q;have C:=layNew_perm t es (hashInt k) (.int k tk);have B:=layNew_fits t es (hashInt k) (.int k tk);have y:=Dd V es (hashInt k) (.int k tk);dsimp only;generalize layNew t es (hashInt k) (.int k tk)=L at C B y ⊢;obtain⟨fs,u,X,gv⟩:=L;dsimp only at C B y ⊢;have o:Els fs (ns++[k]):=a.add C;have H:fs.size<scanBound:=by rw[o.size,lA1];exact hr
  refine wB1 (gw ?_);have tail:∀ (c:Bool),dG (model P w) A (do
    storeSet p fs u
    if (!X&&u.tooFull)=true then do
      (match (relayAll u fs (SetTable.grown fs.size)).2.2 with
       |true=>rule "set.scan.the-table-gave-way"
       |false=>pure ())
      storeSet p (relayAll u fs (SetTable.grown fs.size)).1 (relayAll u fs (SetTable.grown fs.size)).2.1
      pure (some true)
     else pure (some true)) (fun r s'=>dG (model P w) A (match r with
      |some f=>pure f
      |none=>setAddHashedIn p (.int k tk) (hashInt k) 99999) Q E s') E s:=fun _=>by
   refine wB1 (wpAny_storeSet_of i rfl ?_ (fits_of_scanBound H));have F:=yn (fs:=fs) (u:=u) i;have M:=Heap.SameBut.update s.heap p (Obj.putSet fs u);split
   ·have p2:=relayAll_perm u fs (SetTable.grown fs.size);have G:=relayAll_fits u fs (SetTable.grown fs.size);have h:=xN y fs (SetTable.grown fs.size);generalize relayAll u fs (SetTable.grown fs.size)=L2 at p2 G h ⊢;obtain⟨O,v,Z⟩:=L2;dsimp only at p2 G h ⊢;have T:=o.perm p2;have S:O.size<scanBound:=by rw[T.size,<- o.size];exact H
    refine wB1 (gw (wB1 (wpAny_storeSet_of F rfl ?_ (fits_of_scanBound S))));exact wP1 (wP1 (q _ _ (M.trans (Heap.SameBut.update _ p _)) ⟨O,_,v,l,yn F,T,S,G,h,J⟩))
   ·exact wP1 (wP1 (q _ _ M ⟨fs,_,u,l,F,o,H,B,y,J⟩))
  split
  ·refine wB1 (wP1 ?_);exact tail true
  ·refine wB1 (wP1 ?_);exact tail true
end
section
variable{P:dz}{w:dB}{A:dA}{E:dr->dw->Prop}{s:dw}
noncomputable def byT(w:dB):Bool:=w.params.followText "set-order"
theorem Be(x:dr){G:dr->dw->Prop}(q:G (.ref s.heap.objs.size) {s with heap:=s.heap.push (stO #[] 0 (.fresh 0 0 (!byT w)))}):
  codeAny (model P w) A (.call (.builtin "set.__new__") ⟨[.type "set",x],[]⟩) (wants G E) s:=by
 refine codeAny_of_tree (?_:dG _ A.in1 (do checkBuiltinCall "set.__new__" ⟨[.type "set",x],[]⟩;again (.builtin "set.__new__" ⟨[.type "set",x],[]⟩)) _ _ s);refine wB1 (wpAny_of_eq (PySem.F.newCall_set_1 x) (wP1 ⟨plainId_quiet PySem.F.plain_set_new _,wD1 PySem.F.entry_set_new (?_:_)⟩));rw[Around.under_plainId PySem.F.plain_set_new _];unfold Builtin.«set.__new__» Builtin.Frozenset.newClass;have a:=sub_set_self;obtain⟨b,g,d,tk,c⟩:=s;dsimp only
 wp_walk
 refine wpAny_askSetting (wP1 (?_:_));dsimp only;simp only[newObj];exact wB1 (wpAny_alloc (wP1 (wP1 q)))
set_option maxHeartbeats 3200000 in
theorem uf {l:dy}{its:Array dr}{Q:dr->dw->Prop}(C:s.heap.IsList l its)
  (d:∀i:dA,i.handled=A.handled->i.units<=A.units+2 -> ∀R:Result->dw->Prop,(∀s',Q (.ref s.heap.objs.size) s'->R (.ok (.ret .none)) s') ->
   codeAny (model P w) i (.builtin "set.update.loop" ⟨[.ref s.heap.objs.size,.ref (s.heap.objs.size+1)],[]⟩) R {s with heap:=(s.heap.push (stO #[] 0 (.fresh 0 0 (!byT w)))).push {cls:=.type "list_iterator",data:=.fields #[.ref l,.int 0 0]}}):
  dG (model P w) A (call (.type "set") [.ref l]) Q E s:=by
 obtain⟨W,N,o⟩:=PySem.F.called_set.mro;have g:=PySem.F.called_set.made;have k:=PySem.F.called_set.sub
 refine wpAny_call (codeAny_of_tree (?_:dG _ _ (callAny (.type "set") _) _ _ _));refine wP1 ⟨Code.quiet_builtin _ (by decide+kernel),wD1 PySem.F.entry_type_call (?_:_)⟩;rw[Around.under_plain (weight_type_call_type "set" [.ref l] []) rfl];have O:=PySem.F.called_set.notType;have L:=PySem.F.called_set.canCreate;have T:=PySem.F.typeCall_set_1 (.ref l)
 repeat(any_goals (first|wp_step|assumption))
 refine codeAny_mono (Be (.ref l) (E:=E) (G:=fun x t=>x = .ref s.heap.objs.size/\t={s with heap:=s.heap.push (stO #[] 0 (.fresh 0 0 (!byT w)))}) ⟨rfl,rfl⟩) fun r t h=>?_;cases r with
 |error e=>exact h
 |ok v=>
  cases v with
  |ret x=>
   obtain⟨rfl,rfl⟩:=h;have n:(s.heap.push (stO #[] 0 (.fresh 0 0 (!byT w)))).get? s.heap.objs.size=some (stO #[] 0 (.fresh 0 0 (!byT w))):=hS1 _ rfl;have B:Shared.TypeIs {s with heap:=s.heap.push (stO #[] 0 (.fresh 0 0 (!byT w)))} (.ref s.heap.objs.size) "set":=⟨_,n,rfl⟩;have X:=PySem.F.called_set.init.lookup;have V:=PySem.F.called_set.init.bind (.ref s.heap.objs.size)
   repeat(any_goals (first|wp_step|assumption))
   refine codeAny_mono (codeAny_call_builtin (R:=wants (fun r p=>r = .none/\Q (.ref s.heap.objs.size) p) E) PySem.F.called_set.init.plain PySem.F.entry_set_init (check_set_init_1 B (?_:_))) fun r2 p a=>?_
   ·obtain⟨H,f,b,m,c⟩:=C;obtain⟨S,y,K,I⟩:=H;simp only at b c;subst b;subst c;have u:(s.heap.push (stO #[] 0 (.fresh 0 0 (!byT w)))).get? l=some {cls:=.type "list",dict:=y,data:=.seq its m,slots:=I}:=hP1 _ f;have M:=PySem.F.sub_list_set;have J:=PySem.F.sub_list_frozenset;have U:(Value.type "list" == Value.type "dict")=false:=by decide
    have F:(s.heap.push (stO #[] 0 (.fresh 0 0 (!byT w)))).IsList l its:=⟨_,u,rfl,m,rfl⟩;have D:(s.heap.push (stO #[] 0 (.fresh 0 0 (!byT w)))).get? s.heap.objs.size=some {cls:=.type "set",dict:=none,data:=.set #[] 0 (.fresh 0 0 (!byT w)),slots:= #[]}:=n;unfold Builtin.«set.__init__» noKeywords Builtin.Frozenset.updateFrom;generalize j:pyIter=PI
    wp_walk
    subst j;refine wpAny_pyIter_list F (wB1 (wpAny_runValue (?_:_)));dsimp only;rw[show(s.heap.push (stO #[] 0 (.fresh 0 0 (!byT w)))).objs.size=s.heap.objs.size+1 from by rw[hZ1]];refine d A.in1.in1 (by simp) (nR1 _) _ fun s' q=>?_;exact wP1 (wP1 ⟨rfl,q⟩)
   ·cases r2 with
    |error e=>exact a
    |ok z=>
     cases z with
     |ret r=>
      obtain⟨rfl,q⟩:=a
      repeat(any_goals (first|wp_step|assumption))
     |_=>exact a.elim
  |_=>exact h.elim
theorem xc {l:dy}{its:Array dr}{Q:dr->dw->Prop}(c:s.heap.IsList l its)
  (b:∀a:dA,a.handled=A.handled -> ∀R:Result->dw->Prop,(∀s',Q (.ref s.heap.objs.size) s'->R (.ok (.ret .none)) s') ->
   codeAny (model P w) a (.builtin "set.update.loop" ⟨[.ref s.heap.objs.size,.ref (s.heap.objs.size+1)],[]⟩) R {s with heap:=(s.heap.push (stO #[] 0 (.fresh 0 0 (!byT w)))).push {cls:=.type "list_iterator",data:=.fields #[.ref l,.int 0 0]}}):
  dG (model P w) A (call (.type "set") [.ref l]) Q E s:=uf c fun a h _=>b a h
end
section
variable{P:dz}{w:dB}{A:dA}{E:dr->dw->Prop}{b:Bool}
theorem i6.old{p:dy}{ns:List Int}{h h':dH}(x:i6 b p ns h)(k:∀o,h.get? p=some o->h'.get? p=some o):i6 b p ns h':=by
 obtain⟨es,ep,t,l,e,r⟩:=x;exact⟨es,ep,t,l,k _ e,r⟩
theorem mU:∀(ns acc:List Int),(ns.foldl step_dedup acc).length<=acc.length+ns.length
 |[],acc=>by simp
 |n::ns,acc=>by
  rw[b9];have h1:=mU ns (step_dedup acc n);have h2:(step_dedup acc n).length<=acc.length+1:=by unfold step_dedup;split<;>simp
  rw[lC1];lia
theorem x5{p l it:dy}{its:Array dr}{ns:List Int}{R:Result->dw->Prop}(H:A.handled=none)(x:IntsAre its.toList ns)(hb:ns.length+1<scanBound)(I:p≠l)(j:p≠it)(K:it≠l):
  ∀(k i:Nat) (s:dw),its.size-i=k->i<=its.size->s.heap.IsListIter it l i->s.heap.IsList l its->i6 b p ((ns.take i).foldl step_dedup []) s.heap ->
  (∀h' tk,(∀c o,c≠p->c≠it->s.heap.get? c=some o->h'.get? c=some o)->i6 b p (ddI ns) h'->R (.ok (.ret .none)) {s with heap:=h',toks:=tk})->codeAny (model P w) A (.builtin "set.update.loop" ⟨[.ref p,.ref it],[]⟩) R s:=by
 have g:its.size=ns.length:=by rw[<- aJ];exact x.length
 intro k
 induction k with
 |zero=>
  intro i s L hi st h m q;have e:i=its.size:=by lia
  subst e;refine wD1 PyProof.Rows.F.entry_set_update_loop (?_:_);rw[Around.under_plainId PyProof.Rows.F.plain_set_update_loop _];show dG _ A.in1 (pyNext (.ref it) >>= _) _ _ s;refine wB1 (wpAny_pyNext_list_end (by simpa using H) st h (by simp) fun h' z=>wP1 ?_);refine q h' s.toks (fun c o _ hc e=>z c o hc e) ?_;have:=m.old (h':=h') fun o e=>z p o j e;rw[g,bY]at this;exact this
 |succ k ih=>
  intro i s L hi st h m q;have f:i<its.size:=by lia
  have D:=aG1 f;obtain⟨t,F⟩:=PyProof.Rows.IntsAre.int_at x i its[i] (by rw[aT1];exact D);refine wD1 PyProof.Rows.F.entry_set_update_loop (?_:_);rw[Around.under_plainId PyProof.Rows.F.plain_set_update_loop _];show dG _ A.in1 (pyNext (.ref it) >>= _) _ _ s;refine wB1 (wpAny_pyNext_list_item st h D fun h' st' C=>?_);rw[F];show dG _ A.in1 (holding [Value.int (ns.getD i 0) t] (setAdd p (.int (ns.getD i 0) t)) >>= _) _ _ _;refine wB1 (wpAny_holding ?_);unfold setAdd;refine wpAny_holding (wB1 (wpAny_pyHash_int ?_));have n:i6 b p ((ns.take i).foldl step_dedup []) h':=m.old fun o e=>by rw[C.2 p j];exact e
  have v:=mU (ns.take i) [];refine IN (s:={s with heap:=h',toks:=s.toks+1}) (k:=ns.getD i 0) n (by rw[aR,bd]at v;lia) fun c h2 d a=>?_;have M:ns[i]?=some (ns.getD i 0):=by rw[gG1 (by lia)];simp[List.getD,show i<ns.length by lia]
  have G:step_dedup ((ns.take i).foldl step_dedup []) (ns.getD i 0)=(ns.take (i+1)).foldl step_dedup []:=by
   rw[cD,M,List.foldl_append];rfl
  rw[G]at a;have y:∀c o,c≠p->c≠it->s.heap.get? c=some o->h2.get? c=some o:=fun c o h1 u e=>by rw[d.2 c h1];show h'.get? c=_;rw[C.2 c u];exact e
  have keepIt:∀o,h'.get? it=some o->h2.get? it=some o:=fun o e=>by rw[d.2 it (Ne.symm j)];exact e
  refine wP1 ⟨plainId_quiet PyProof.Rows.F.plain_set_update_loop _,ih (i+1) {s with heap:=h2,toks:=s.toks+1} (by lia) f (st'.at keepIt) ?_ a fun u tk E J=>?_⟩
  ·obtain⟨o,e,r⟩:=h;exact⟨o,y l o (Ne.symm I) (Ne.symm K) e,r⟩
  ·exact q u tk (fun c o h1 B e=>E c o h1 B (y c o h1 B e)) J
theorem xf{s:dw}{l:dy}{its:Array dr}{ns:List Int}{Q:dr->dw->Prop}(j:A.handled=none)(d:s.heap.IsList l its)(i:IntsAre its.toList ns)(hb:ns.length+1<scanBound)(q:∀h' tk,(∀c o,s.heap.get? c=some o->h'.get? c=some o)->i6 (byT w) s.heap.objs.size (ddI ns) h'->Q (.ref s.heap.objs.size) {s with heap:=h',toks:=tk}):dG (model P w) A (call (.type "set") [.ref l]) Q E s:=by
 have a:l<s.heap.objs.size:=by obtain⟨o,e,_⟩:=d;exact hL1 e
 refine xc d fun t n R m=>?_;have f:(s.heap.push (stO #[] 0 (.fresh 0 0 (!byT w)))).objs.size=s.heap.objs.size+1:=by rw[hZ1]
 have g:(s.heap.push (stO #[] 0 (.fresh 0 0 (!byT w)))).get? s.heap.objs.size=some (stO #[] 0 (.fresh 0 0 (!byT w))):=hS1 _ rfl;refine x5 (its:=its) (ns:=ns) (b:=byT w) (n.trans j) i hb (nG1 a) (nN1 (bC _)) (nG1 (cE a)) _ 0 _ rfl (bh _) ?_ ?_ ?_ fun h' tk k x=>m _ (q h' tk (fun c o e=>k c o (nN1 (hL1 e)) (nN1 (cE (hL1 e))) (hP1 _ (hP1 _ e))) x)
 ·refine⟨{cls:=.type "list_iterator",data:=.fields #[.ref l,.int 0 0]},?_,rfl,rfl⟩;have this:((s.heap.push (stO #[] 0 (.fresh 0 0 (!byT w)))).push {cls:=.type "list_iterator",data:=.fields #[.ref l,.int 0 0]}).get? (s.heap.push (stO #[] 0 (.fresh 0 0 (!byT w)))).objs.size=some {cls:=.type "list_iterator",data:=.fields #[.ref l,.int 0 0]}:=hS1 _ rfl;rw[f]at this;exact this
 ·obtain⟨o,e,r⟩:=d;exact⟨o,hP1 _ (hP1 _ e),r⟩
 ·refine⟨#[],0,_,!byT w,hP1 _ g,⟨fun e p=>by simp at p,.refl _⟩,by decide,rfl,xO _,fun h=>by rw[h];rfl⟩
end
theorem iJ:Slot "set_iterator" "__next__" "set_iterator.__next__":=
 .of (owner:="set_iterator") (n:="__next__") (by rw[typeLookup_type,builtinLookup_eq_fast];kernel_rfl) (by decide+kernel) (by decide+kernel) (by decide+kernel) (by first|exact .inl (by decide+kernel)|exact .inr (by decide+kernel)) (by rw[isSubtype_type];kernel_rfl)
theorem oE:entryFor table "set_iterator.__next__"=some Builtin.«set_iterator.__next__» :=entryFor_of_tree (by kernel_rfl)
theorem sE(x:dr):argsOk "set_iterator.__next__" ⟨[x],[]⟩:=by unfold argsOk;kernel_rfl
theorem si:entryFor table "set.__iter__"=some Builtin.«frozenset.__iter__» :=entryFor_alias (id':="frozenset.__iter__") (by kernel_rfl) rfl (by decide+kernel) (by kernel_rfl)
abbrev Fo(h:dH)(it a:dy)(f:dr)(i n ep:Nat):Prop:=h.get? it=some {cls:=.type "set_iterator",dict:=none,data:=.fields #[f,.int i 0,.ref a,.int n 0,.int ep 0],slots:= #[]}
noncomputable def kE(t:SetTable)(i:Nat):Nat:=match i with
 |0=>0
 |i+1=>t.place.getD i 0+1
inductive sF (w:dB)(h:dH)(a:dy)(es:Array (Int×dr))(ep:Nat)(t:SetTable):dr->Nat->List dr->Prop
 |txt (b:byT w=true) (i:Nat) (sl:Nat):sF w h a es ep t (.int sl 0) i ((pickOrder (w.params.setOrder a ep) es).toList.map (·.2))
 |drw (b:byT w=false) (d:(!t.plain&&decide (es.size>1))=true) (i:Nat) (tp:dy) (ps:List Nat) (e:h.get? tp=some {cls:=.type "tuple",data:=.seq (ps.map fun j=>Value.int (j:Nat) 0).toArray}) (pm:ps.Perm (List.range es.size)):sF w h a es ep t (.ref tp) i (ps.map fun j=>(es[j]?.map (·.2)).getD .none)
 |plc (b:byT w=false) (d:(!t.plain&&decide (es.size>1))=false) (ld:t.led=true) (up:uk t.place) (i:Nat):sF w h a es ep t (.int (kE t i) 0) i (es.toList.map (·.2))
theorem nW{α:Type}(f:Nat->Nat):∀(n k:Nat) (l:List α) (out:Array α),l.length=n->(pickOrder.go f n k l out).toList.Perm (out.toList++l)
 |0,k,l,out,h=>by
  rw[pickOrder.go,cm.mp h,aN]
 |n+1,k,l,out,h=>by
  have b:f k%l.length<l.length:=Nat.mod_lt _ (by lia);rw[pickOrder.go,gG1 b];refine(nW f n (k+1) _ _ (by rw[cF b];lia)).trans ?_;rw[cu,bG];refine List.Perm.append_left _ ?_;have c:l=l.take (f k%l.length)++l[f k%l.length]::l.drop (f k%l.length+1):=by rw[List.getElem_cons_drop,cG]
  rw[cH];refine List.Perm.trans ?_ (List.Perm.of_eq c.symm);exact(List.perm_middle (l₁:=l.take (f k%l.length)) (l₂:=l.drop (f k%l.length+1)) (a:=l[f k%l.length])).symm
theorem sF.perm{w:dB}{h:dH}{a:dy}{es:Array (Int×dr)}{ep:Nat}{t:SetTable}{f:dr}{i:Nat}{pl:List dr}(y:sF w h a es ep t f i pl):pl.Perm (es.toList.map (·.2)):=by
 cases y with
 |txt=>exact(nW _ _ _ _ _ rfl).map _
 |drw _ _ _ d ps e c=>
  refine(c.map _).trans ?_;have:(List.range es.size).map (fun j=>(es[j]?.map (·.2)).getD .none)=es.toList.map (·.2):=by
   apply bZ;intro j;rw[gP1,gP1,aT1 (xs:=es)];by_cases b:j<es.size
   ·rw[cI b,oP1,aG1 b];rfl
   ·rw[b4 (by simpa using b),cp (by lia)];rfl
  rw[this]
 |plc=>exact .refl _
theorem sF.len{w:dB}{h:dH}{a:dy}{es:Array (Int×dr)}{ep:Nat}{t:SetTable}{f:dr}{i:Nat}{pl:List dr}(y:sF w h a es ep t f i pl):pl.length=es.size:=by
 rw[y.perm.length_eq,lM1,aJ]
section
variable{P:dz}{w:dB}{A:dA}{E:dr->dw->Prop}{s:dw}{it a:dy}{f:dr}{i ep:Nat}{es:Array (Int×dr)}{t:SetTable}{pl:List dr}
theorem oZ{Q:Bool->dw->Prop}(q:Q (byT w) s):dG (model P w) A setsByText Q E s:=by unfold setsByText;exact wB1 (wpAny_askSetting (wP1 q))
theorem xZ{sl:Nat}{Q:Option (dr×Nat)->dw->Prop}(b:byT w=true)(ho:s.heap.get? a=some (stO es ep t))(hf:t.fits es.size=true)(q:Q (((pickOrder (w.params.setOrder a ep) es)[i]?).map fun e=>(e.2,sl)) s):dG (model P w) A (setNext a sl i ep) Q E s:=by
 unfold setNext;refine wB1 (wpAny_setState_of ho rfl hf (wB1 (oZ ?_)));rw[b,if_pos rfl,if_neg (by simp)];refine wB1 ?_;unfold setWalk;refine wB1 (wpAny_setState_of ho rfl hf (wB1 (oZ ?_)));rw[b,if_pos rfl];exact wB1 (wpAny_askSetting (wP1 (wP1 q)))
theorem Cn(a:uk t.place)(hi:i<=t.place.size):SetTable.below t.place (kE t i)=i:=by
 cases i with
 |zero=>exact Aa a
 |succ j=>
  have b:j<t.place.size:=hi;show SetTable.below t.place (t.place.getD j 0+1)=j+1;rw[show t.place.getD j 0=t.place[j]from by simp[Array.getD,b]];exact Cm a b
theorem x0{Q:Option (dr×Nat)->dw->Prop}(b:byT w=false)(d:(!t.plain&&decide (es.size>1))=false)(g:t.led=true)(j:uk t.place)(ho:s.heap.get? a=some (stO es ep t))(hf:t.fits es.size=true)(hi:i<=es.size)(q:Q ((es[i]?).map fun e=>(e.2,kE t (i+1))) s):dG (model P w) A (setNext a (kE t i) i ep) Q E s:=by
 have k:t.place.size=es.size:=by
  unfold SetTable.fits at hf;rw[bA1,beq_iff_eq]at hf;exact hf.1
 unfold setNext;refine wB1 (wpAny_setState_of ho rfl hf (wB1 (oZ ?_)));rw[b,if_neg (by decide)];rw[if_neg (fun z=>by have f:(!t.plain&&decide (es.size>1))=true:=z;rw[d]at f;cases f)];refine wB1 ?_;show dG _ _ (if(!t.led && !es.isEmpty)=true then _ else _) _ _ _;rw[if_neg (by rw[g];simp)];refine wP1 ?_;dsimp only;rw[Cn j (by omega)];by_cases c:i<es.size
 ·rw [aG1 c] at q ⊢;rw [aG1 (show i<t.place.size by omega)];have h:kE t (i+1)=t.place[i]+1:=by
   show t.place.getD i 0+1=_;rw[show t.place.getD i 0=t.place[i]from by simp[Array.getD,show i<t.place.size by omega]]
  rw[h]at q;exact wP1 q
 ·rw[cp (by omega)]at q ⊢;exact wP1 q
theorem Aw{Q:Option dr->dw->Prop}(k:Fo s.heap it a f i es.size ep)(ho:s.heap.get? a=some (stO es ep t))(hf:t.fits es.size=true)(y:sF w s.heap a es ep t f i pl){x:dr}(hx:pl[i]? = some x)(N:∀ g,f = .ref g->g≠it)(q:∀h' h,Fo h' it a h (i+1) es.size ep->(∀c o,c≠it->s.heap.get? c=some o->h'.get? c=some o)->sF w h' a es ep t h (i+1) pl->(∀g,h = .ref g->f = .ref g)->Q (some x) {s with heap:=h'}):dG (model P w) A (pyNext (.ref it)) Q E s:=by
 have G:s.TypeIs (.ref it) "set_iterator":=⟨_,k,rfl⟩;unfold pyNext;refine wB1 (wpAny_attempt (wpAny_callSpecial?_slot (name:=Str.ofString "__next__") G iJ (wE1 iJ G oE ?_ (sE _))));refine wB1 (wP1 (wB1 (wpAny_fieldsOf k rfl ?_)));dsimp only;refine wB1 (wpAny_setEntries_of ho rfl hf ?_);rw[if_neg (by simp)];have O:i<es.size:=by have:=(gE1.mp hx).1;rw[y.len]at this;exact this
 have two:∀ (h:dr),(∀ g,h = .ref g->f = .ref g)->(∀ h',(∀ c o,c≠it->s.heap.get? c=some o->h'.get? c=some o)->sF w h' a es ep t h (i+1) pl) ->
   dG (model P w) A.in1 (setField (.ref it) 0 h >>= fun _=>setField (.ref it) 1 (rawInt ((i:Int)+1)) >>= fun _=>ret x) (fun B s'=>∃ v,B=Fin.done (Flow.ret v)/\dG (model P w) A (pure (some v)) Q E s') (fun e s'=>dG (model P w) A (do
     let y<-isInstance e (.type "StopIteration")
     if y=true then pure none else throw e) Q E s') s:=fun h L M=>by
  refine wB1 (wS1 k (by simp) fun h1 K r=>wB1 (wS1 (s:={s with heap:=h1}) K (by simp) fun h2 C l=>wP1 ⟨_,rfl,wP1 ?_⟩));have m:∀c o,c≠it->s.heap.get? c=some o->h2.get? c=some o:=fun c o hc e=>l.extBut c o hc (r.extBut c o hc e);refine q h2 h ?_ m (M h2 m) L;have e:((i+1:Nat):Int)=(i:Int)+1:=by lia
  unfold Fo;rw[e];simpa[rawInt]using C
 cases y with
 |txt b _ sl=>
  refine wB1 (xZ (i:=i) (sl:=sl) (ep:=ep) b ho hf ?_);rw[gP1,aT1]at hx;obtain⟨e,u,rfl⟩:=oM1.mp hx;rw[u];exact two (.int sl 0) (fun g z=>by cases z) fun h' _=>.txt b _ sl
 |plc b d D F _=>
  refine wB1 (x0 (i:=i) b d D F ho hf (by lia) ?_);rw[gP1,aT1]at hx;obtain⟨e,u,rfl⟩:=oM1.mp hx;rw[u];exact two (.int (kE t (i+1)) 0) (fun g z=>by cases z) fun h' _=>.plc b d D F _
 |drw b d _ g ps e I=>
  rw[gP1]at hx;obtain⟨j,J,rfl⟩:=oM1.mp hx;have n:j<es.size:=by have:=I.mem_iff.mp (gM1 J);simpa using this
  refine wB1 (wpAny_seqItems e rfl ?_);have p:((ps.map fun j=>Value.int (j:Nat) 0).toArray)[((i:Int)).toNat]?=some (.int (j:Nat) 0):=by
   rw[Int.toNat_natCast,cg,gP1,J];rfl
  dsimp only;rw[p];dsimp only;refine wB1 ?_;unfold setNextDrawn;refine wB1 (wpAny_setState_of ho rfl hf ?_);dsimp only;rw[if_neg (by simp),Int.toNat_natCast,aG1 n];refine wP1 (wB1 (wS1 k (by simp) fun h2 C l=>wP1 ⟨_,rfl,wP1 ?_⟩));have m:∀c o,c≠it->s.heap.get? c=some o->h2.get? c=some o:=fun c o hc e=>l.extBut c o hc e;have H:=q h2 (.ref g) ?_ m (.drw b d _ g ps (m g _ (N g rfl) e) I) fun _ z=>z
  ·rw[aG1 n]at H;exact H
  ·have e:((i+1:Nat):Int)=(i:Int)+1:=by lia
   unfold Fo;rw[e];simpa[rawInt]using C
theorem tm{Q:Option dr->dw->Prop}{G:Fin->dw->Prop}(d:A.handled=none)(q:∀ h',(∀ c o,s.heap.get? c=some o->h'.get? c=some o)->Q none {s with heap:=h'}):
  dG (model P w) A.in1 (newExc (.type "StopIteration") [] >>= fun e=>raiseNew e) G (fun e s'=>dG (model P w) A (do
     let y<-isInstance e (.type "StopIteration")
     if y=true then pure none else throw e) Q E s') s:=by
 refine wB1 ?_;simp only[newExc,newTuple];refine wB1 (wO1 ?_ (by size_fits));refine wB1 (m:=firstArgMember _ _) (wpAny_of_eq (a:=Value.none) (by first|rfl|(simp only[firstArgMember];rfl)) ?_);refine wO1 ?_ (by size_fits);simp only[raiseNew];refine wB1 (wpAny_handled ?_);rw[show A.in1.handled=none from d];refine wB1 (wP1 (wpAny_throw (?_:_)));refine wB1 (wpAny_isInstance (b:=true) (T:="StopIteration") ⟨_,hS1 _ rfl,rfl⟩ isSubtype_stop (?_:_));exact wP1 (q _ fun b o e=>hP1 _ (hP1 _ e))
theorem C4{Q:Option dr->dw->Prop}(r:A.handled=none)(h:Fo s.heap it a f es.size es.size ep)(ho:s.heap.get? a=some (stO es ep t))(hf:t.fits es.size=true)(y:sF w s.heap a es ep t f es.size pl)(q:∀h',(∀c o,c≠it->s.heap.get? c=some o->h'.get? c=some o)->Q none {s with heap:=h'}):dG (model P w) A (pyNext (.ref it)) Q E s:=by
 have u:s.TypeIs (.ref it) "set_iterator":=⟨_,h,rfl⟩;unfold pyNext;refine wB1 (wpAny_attempt (wpAny_callSpecial?_slot (name:=Str.ofString "__next__") u iJ (wE1 iJ u oE ?_ (sE _))));refine wB1 (wP1 (wB1 (wpAny_fieldsOf h rfl ?_)));dsimp only;refine wB1 (wpAny_setEntries_of ho rfl hf ?_);rw[if_neg (by simp)];have l:=y.len;cases y with
 |txt b _ sl=>
  refine wB1 (xZ (i:=es.size) (sl:=sl) (ep:=ep) b ho hf ?_);rw[cp (by rw[lM1,aJ]at l;lia)];refine wB1 (wS1 h (by simp) fun h1 n g=>?_);exact tm (s:={s with heap:=h1}) r fun h' k=>q h' fun c o hc e=>k c o (g.extBut c o hc e)
 |plc b d v x _=>
  refine wB1 (x0 (i:=es.size) (ep:=ep) b d v x ho hf (nR1 _) ?_);rw[cp (nR1 _)];refine wB1 (wS1 h (by simp) fun h1 n g=>?_);exact tm (s:={s with heap:=h1}) r fun h' k=>q h' fun c o hc e=>k c o (g.extBut c o hc e)
 |drw b d _ z ps e C=>
  refine wB1 (wpAny_seqItems e rfl ?_);have p:((ps.map fun j=>Value.int (j:Nat) 0).toArray)[((es.size:Int)).toNat]?=none:=by
   rw[Int.toNat_natCast,cg,b4 (by rw[lM1]at l ⊢;lia)]
  dsimp only;rw[p];dsimp only;refine wB1 (wS1 h (by simp) fun h1 n g=>?_);refine wB1 (wS1 (s:={s with heap:=h1}) n (by simp) fun h2 B m=>?_);exact tm (s:={s with heap:=h2}) r fun h' k=>q h' fun c o hc e=>k c o (m.extBut c o hc (g.extBut c o hc e))
theorem z4{b:Source}{n:Nat}{Q:Nat->dw->Prop}(hn:n≠0)(q:∀i c,i<n->Q i {s with drawn:=c}):dG (model P w) A (choose b n) Q E s:=fun Γ p a=>by
 unfold choose;rw[Sem.wp_choose];refine⟨hn,?_⟩;exact wP1 (A:=A) (E:=E) (q _ _ (Nat.mod_lt _ (Nat.pos_of_ne_zero hn))) Γ p a
theorem zO{α:Type}:∀(n:Nat) (xs:List α) (s:dw) (Q:List α->dw->Prop),xs.length=n->(∀ys b,ys.Perm xs->Q ys {s with drawn:=b})->dG (model P w) A (drawOrder n xs) Q E s
 |0,xs,s,Q,h,q=>by
  have:=cm.mp h;subst this;exact wP1 (q [] s.drawn (.refl _))
 |n+1,[],s,Q,h,q=>by simp at h
 |n+1,x::xs,s,Q,h,q=>by
  rw[drawOrder];refine wB1 (z4 (by simp) fun i b hi=>?_);rw[gG1 hi];dsimp only;refine wB1 (zO n _ _ _ (by rw[cF hi];lia) fun ys a c=>wP1 (q _ a ?_));refine(c.cons _).trans ?_;have d:x::xs=(x::xs).take i++(x::xs)[i]::(x::xs).drop (i+1):=by rw[List.getElem_cons_drop,cG]
  rw[cH];refine List.Perm.trans ?_ (List.Perm.of_eq d.symm);exact List.perm_middle.symm
  all_goals simp
theorem Ay{l:Bool}{Q:dr->dw->Prop}(ho:s.heap.get? a=some (stO es ep t))(hf:t.fits es.size=true)(F:es.size<scanBound)(B:TS l t)(G:byT w=false->l=true)(q:∀it h' n f pl,(∀c o,s.heap.get? c=some o->h'.get? c=some o)->s.heap.objs.size<=it->Fo h' it a f 0 es.size ep->sF w h' a es ep t f 0 pl->(∀b,f = .ref b->b≠it/\s.heap.objs.size<=b)->Q (.ref it) {s with heap:=h',drawn:=n}):
  dG (model P w) A (pyIter (.ref a)) Q E s:=by
 have D:s.TypeIs (.ref a) "set":=⟨_,ho,rfl⟩;refine wpAny_pyIter_slot D PySem.F.slot_set_iter (wE1 PySem.F.slot_set_iter D si ?_ (PySem.F.args_set_iter_1 _));unfold Builtin.«frozenset.__iter__»;refine wB1 (m:=Builtin.Frozenset.slot0 _ _) (wP1 ?_);unfold Builtin.Frozenset.sizeOf;refine wB1 (wB1 (wpAny_setEntries_of ho rfl hf (wP1 ?_)));unfold setDrawn;refine wB1 (wB1 (wpAny_setState_of ho rfl hf (wB1 (oZ (wP1 ?_)))));show dG _ _ (if (!byT w&&(!t.plain&&decide (es.size>1)))=true then _ else _) _ _ _;have d:∀ (h1:dH) (n:Drawn) (f:dr) (pl:List dr),(∀ c o,s.heap.get? c=some o->h1.get? c=some o)->s.heap.objs.size<=h1.objs.size->(∀ b,f = .ref b->b<h1.objs.size/\s.heap.objs.size<=b)->(∀ h',(∀ c o,h1.get? c=some o->h'.get? c=some o)->sF w h' a es ep t f 0 pl) ->
   dG (model P w) A.in1 (setEpoch a >>= fun e=>newFields "set_iterator" [f,rawInt 0,.ref a,rawInt es.size,rawInt e] >>= fun r=>ret r) (fun d s'=>∃r,d=Fin.done (Flow.ret r) /\ ∃T g,s'.TypeIs r T/\typeLookup (.type T) "__next__"=pure (some g)/\Q r s') E {s with heap:=h1,drawn:=n}:=by
  intro h1 n f pl y x u H;refine wB1 (wpAny_setEpoch_of (y a _ ho) rfl hf (wB1 (wO1 (wP1 ⟨_,rfl,"set_iterator",_,⟨_,hS1 _ rfl,rfl⟩,iJ.lookup,?_⟩) (by size_fits))));refine q h1.objs.size _ n f pl (fun c o e=>hP1 _ (y c o e)) x ?_ (H _ fun c o e=>hP1 _ e) fun b e=>⟨nN1 (u b e).1,(u b e).2⟩;have:=hS1 h1 (o:={cls:=.type "set_iterator",data:=.fields #[f,.int 0 0,.ref a,.int es.size 0,.int ep 0]}) rfl;exact this
 by_cases h:byT w=true
 ·rw[if_neg (by rw[h];simp)];refine wB1 (wP1 ?_);exact d s.heap s.drawn _ _ (fun _ _ e=>e) (nR1 _) (fun b z=>by cases z) fun h' _=>.txt h 0 0
 ·have h:byT w=false:=by simpa using h
  by_cases p:(!t.plain&&decide (es.size>1))=true
  ·rw[if_pos (by rw[h,p];rfl)];refine wB1 (zO es.size (List.range es.size) s _ (by simp) fun ys n C=>?_);refine wB1 (m:=newTuple _) (wO1 (s:={s with drawn:=n}) ?_ ?_)
   ·refine d (s.heap.push {cls:=.type "tuple",data:=.seq (ys.map fun(i:Nat)=>rawInt i).toArray}) n (.ref s.heap.objs.size) (ys.map fun j=>(es[j]?.map (·.2)).getD .none) (fun c o e=>hP1 _ e) (by rw[hZ1];exact aX _) (fun b z=>by cases z;exact⟨by rw[hZ1];exact bC _,nR1 _⟩) fun h' k=>?_;exact .drw h p 0 _ ys (k _ _ (hS1 _ rfl)) C
   ·have:=C.length_eq;have v:=fits_of_scanBound F;simp[sizeOk,this,v]
  ·have p:(!t.plain&&decide (es.size>1))=false:=by simpa using p
   rw[if_neg (by rw[p];simp)];refine wB1 (wP1 ?_);exact d s.heap s.drawn _ _ (fun _ _ e=>e) (nR1 _) (fun b z=>by cases z) fun h' _=>.plc h p (by rw[B.ld];exact G h) B.up 0
end
theorem sF.keep{w:dB}{h h':dH}{a:dy}{es:Array (Int×dr)}{ep:Nat}{t:SetTable}{f:dr}{i:Nat}{pl:List dr}(y:sF w h a es ep t f i pl)(k:∀c o,f = .ref c->h.get? c=some o->h'.get? c=some o):sF w h' a es ep t f i pl:=by
 cases y with
 |txt b _ sl=>exact .txt b _ sl
 |drw b d _ c ps e j=>exact .drw b d _ c ps (k c _ rfl e) j
 |plc b d l g _=>exact .plc b d l g _
section
variable{P:dz}{w:dB}{A:dA}{E:dr->dw->Prop}
theorem Ax{it a S:dy}{ep:Nat}{es:Array (Int×dr)}{t:SetTable}{pl:List dr}{p:dr}{R:Result->dw->Prop}(T:A.handled=none)(hf:t.fits es.size=true)(h1:it≠a)(h2:S≠a)(L:S≠it)(hn:es.size<=dF):
  ∀(k i:Nat) (s:dw) (f:dr) (acc:Array dr) (c:Nat),es.size-i=k->i<=es.size->Fo s.heap it a f i es.size ep->s.heap.get? a=some (stO es ep t)->sF w s.heap a es ep t f i pl->(∀g,f = .ref g->g≠it/\g≠S) ->
  s.heap.get? S=some {cls:=.type "list",dict:=none,data:=.seq acc c,slots:= #[]}->acc.toList=pl.take i ->
  (∀h' d J,(∀b u,b≠it->b≠S->s.heap.get? b=some u->h'.get? b=some u)->h'.get? S=some {cls:=.type "list",dict:=none,data:=.seq d J,slots:= #[]}->d.toList=pl->R (.ok (.ret p)) {s with heap:=h'}) ->
  codeAny (model P w) A (.builtin "list.extend.loop" ⟨[.ref S,.ref it,p],[]⟩) R s:=by
 intro k
 induction k with
 |zero=>
  intro i s f acc c U hi m D y C G E M;have e:i=es.size:=by lia
  subst e;have j:=y.len;refine wD1 PySem.F.entry_extend_loop (?_:_);rw[Around.under_plainId PySem.F.plain_extend_loop _];show dG _ A.in1 (pyNext (.ref it) >>= _) _ _ s;refine wB1 (C4 T m D hf y fun h' keep=>wP1 ?_);exact M h' acc c (fun b u n _ e=>keep b u n e) (keep S _ L G) (by rw[E,<- j,bY])
 |succ k ih=>
  intro i s f acc c U hi m D y C G E M;have K:i<es.size:=by lia
  have j:=y.len;obtain⟨x,O⟩:∃x,pl[i]?=some x:=⟨_,gG1 (by lia)⟩;have B:acc.size=i:=by rw[<- aJ,E,aR];lia
  refine wD1 PySem.F.entry_extend_loop (?_:_);rw[Around.under_plainId PySem.F.plain_extend_loop _];show dG _ A.in1 (pyNext (.ref it) >>= _) _ _ s;refine wB1 (Aw m D hf y O (fun g e=>(C g e).1) fun h' Q v keep V N=>?_);have z:=keep S _ L G;show dG _ A.in1 (updateSeq S (·.push x) >>= _) _ _ _;refine wB1 (wpAny_updateSeq (s:={s with heap:=h'}) z rfl ?_ (by rw[B];lia) (by show(acc.push _).size<=dF+1;rw[Array.size_push,B];lia));have h:∀b u,b≠S->h'.get? b=some u->(h'.update S (Obj.mapSeq (·.push x))).get? b=some u:=fun b u n e=>by rw[hU1 _ _ _ _ n];exact e
  refine wP1 ⟨plainId_quiet PySem.F.plain_extend_loop _,ih (i+1) {s with heap:=h'.update S (Obj.mapSeq (·.push x))} Q (acc.push x) _ (by lia) K (h it _ (Ne.symm L) v) (h a _ (Ne.symm h2) (keep a _ (Ne.symm h1) D)) (V.keep fun g o e q=>h g o (C g (N g e)).2 q) (fun g e=>C g (N g e)) (hW1 _ z rfl) ?_ ?_⟩
  ·rw[cu,E,cD,O];rfl
  ·intro F d J l H I;exact M F d J (fun b u n r e=>l b u n r (h b u r (keep b u n e))) H I
theorem ya:typeLookup (.type "set") "__len__"=pure (some (.builtin "set.__len__")):=by rw[typeLookup_type,builtinLookup_eq_fast];kernel_rfl
theorem Az {s:dw}{v:dy}{Q:Bool->dw->Prop}(c:s.TypeIs (.ref v) "set")(q:Q false s):dG (model P w) A (Builtin.List.listLengthHint (.ref v)) Q E s:=by
 unfold Builtin.List.listLengthHint;refine wB1 (wpAny_specialOf c ya (?_:_));generalize a:("set.__len__":String)=id0
 wp_delta
 rw[show splitId id0=some ("set","__len__")from by subst a;decide+kernel];subst a;refine wB1 (wpAny_isInstance (b:=true) c (by rw[isSubtype_type];kernel_rfl) (?_:_));rw[if_neg (by decide)];dsimp only;rw[if_pos (by decide+kernel)];exact wB1 (wpAny_typeOf c (wP1 q))
theorem sZ{s:dw}{a:dy}{ns:List Int}{Q:List dr->dw->Prop}(W:A.handled=none)(hx:i6 (byT w) a ns s.heap)(q:∀h' p vs N,(∀b u,s.heap.get? b=some u->h'.get? b=some u)->s.heap.objs.size<=h'.objs.size->IntsAre vs N->N.Perm ns->Q vs {s with heap:=h',drawn:=p}):dG (model P w) A (collect (.ref a)) Q E s:=by
 obtain⟨es,ep,t,l,I,S,M,O,Z,X⟩:=hx;have m:a<s.heap.objs.size:=hL1 I;unfold collect;refine wB1 (wpAny_runValue (wD1 PySem.F.entry_proto_collect (?_:_)));rw[Around.under_plainId PySem.F.plain_proto_collect _];show dG _ A.in1 (newList [] >>= fun l=>again (.builtin "list.__iadd__" ⟨[l,.ref a],[]⟩)) _ _ s;refine wB1 (wO1 (?_:_));refine wP1 ⟨plainId_quiet PySem.F.plain_list_iadd _,wD1 PySem.F.entry_list_iadd (?_:_)⟩;rw[Around.under_plainId PySem.F.plain_list_iadd _];have r:(s.heap.push {cls:=.type "list",data:=.seq ([]:List dr).toArray}).get? s.heap.objs.size=some {cls:=.type "list",data:=.seq ([]:List dr).toArray}:=hS1 _ rfl;have g:∀b u,s.heap.get? b=some u->(s.heap.push {cls:=.type "list",data:=.seq ([]:List dr).toArray}).get? b=some u:=fun b u e=>hP1 _ e;have z:(s.heap.push {cls:=.type "list",data:=.seq ([]:List dr).toArray}).objs.size=s.heap.objs.size+1:=by rw[hZ1]
 have L:s.heap.objs.size≠a:=nG1 m;have h1:Builtin.List.listSameRef (.ref s.heap.objs.size) (.ref a)=false:=by simp[Builtin.List.listSameRef,L]
 show dG _ A.in1 (Builtin.List.listExtendWith (.ref s.heap.objs.size) (.ref a) (.ref s.heap.objs.size)) _ _ {s with heap:=s.heap.push {cls:=.type "list",data:=.seq ([]:List dr).toArray}};generalize s.heap.push {cls:=.type "list",data:=.seq ([]:List dr).toArray}=h₁ at *
 unfold Builtin.List.listExtendWith;refine wB1 (wpAny_typeOf (T:="set") ⟨_,g a _ I,rfl⟩ ?_);rw[if_neg (by rw[h1];decide)];refine wB1 (Ay (s:={s with heap:=h₁}) (g a _ I) O M Z X fun it d p f pl h c K y F=>?_);dsimp only at h c F;have j:=h _ _ r;have x:Shared.TypeIs {s with heap:=d,drawn:=p} (.ref a) "set":=⟨_,h _ _ (g a _ I),rfl⟩;refine wB1 (wpAny_holding (Az x ?_));rw[if_pos (by decide+kernel)];refine wB1 (wpAny_rule (wB1 ?_));show dG _ A.in1 (updateSeq s.heap.objs.size (·.push .none) >>= fun _=>updateSeq s.heap.objs.size (·.pop)) _ _ _;refine wB1 (wpAny_updateSeq (s:={s with heap:=d,drawn:=p}) j rfl ?_);have i:=hW1 (Obj.mapSeq (·.push Value.none)) j rfl;refine wpAny_updateSeq (s:={s with heap:=d.update s.heap.objs.size (Obj.mapSeq (·.push Value.none)),drawn:=p}) i rfl ?_;have B:=hW1 (Obj.mapSeq (·.pop)) i rfl;have n:∀b u,b≠s.heap.objs.size->d.get? b=some u->((d.update s.heap.objs.size (Obj.mapSeq (·.push Value.none))).update s.heap.objs.size (Obj.mapSeq (·.pop))).get? b=some u:=fun b u C e=>by
  rw[hU1 _ _ _ _ C,hU1 _ _ _ _ C];exact e
 rw[z]at c F;have R:=y.perm;refine wP1 ⟨plainId_quiet PySem.F.plain_extend_loop _,Ax (it:=it) (pl:=pl) W O (nG1 (bg m c)) (nG1 m) (nN1 c) (fits_of_scanBound M) es.size 0
  {s with heap:=(d.update s.heap.objs.size (Obj.mapSeq (·.push Value.none))).update s.heap.objs.size (Obj.mapSeq (·.pop)),drawn:=p} f _ _ rfl (bh _) (n _ _ (nG1 c) K) (n a _ (nN1 m) (h _ _ (g a _ I))) (y.keep fun D o e q=>n D o (nG1 (F D e).2) q) (fun D e=>⟨(F D e).1,nG1 (F D e).2⟩) B rfl fun h' H c' keep G Y=>?_⟩
 show dG _ A (load s.heap.objs.size >>= _) _ _ {s with heap:=h',drawn:=p};refine wB1 (wpAny_load G ?_);have U:∀v∈pl,∃k t,v=Value.int k t:=fun v J=>by
  obtain⟨e,V,rfl⟩:=cc.mp (R.mem_iff.mp J);obtain⟨k,t,rfl⟩:=S.el e V;exact⟨k,t,rfl⟩
 have all:∀vs:List dr,(∀v∈vs,∃k t,v=Value.int k t)->IntsAre vs (vs.map fun v=>Iz (0,v)):=by
  intro vs
  induction vs with
  |nil=>intro _;exact .nil
  |cons v vs ih=>
   intro J;obtain⟨k,t,rfl⟩:=J v mS1;exact .cons k t (ih fun u hu=>J u (mC1 _ hu))
 refine wP1 (q h' p H.toList (pl.map fun v=>Iz (0,v)) (fun b u e=>?_) (aD (hL1 G)) (by rw[Y];exact all pl U) ?_)
 ·have C:=hL1 e;exact keep b u (nN1 (bg C c)) (nN1 C) (n b u (nN1 C) (h _ _ (g b u e)))
 ·refine(R.map _).trans ?_;rw[bt];exact S.pm
theorem qB {s:dw}{a:dy}{ns:List Int}{Q:dr->dw->Prop}(p:A.handled=none)(hx:i6 (byT w) a ns s.heap)(j:ns.length<64)
  (q:∀h' f L n out,(∀b u,s.heap.get? b=some u->h'.get? b=some u)->s.heap.objs.size<=L->h'.get? L=some (seqObj "list" out n)->IntsAre out.toList (jI ns)->Q (.ref L) {s with heap:=h',drawn:=f}):
  dG (model P w) A (call (.builtin "sorted") [.ref a]) Q E s:=by
 refine Calls.call_function_entry kind_sorted plain_sorted entry_sorted (args_sorted1 _) (?_:_);unfold Builtin.«sorted»;refine wB1 (m:=checkCount "sorted" 1 1 _) (wP1 (wB1 (sZ p hx fun h' f vs t keep o k l=>?_)));have d:vs.length<64:=by rw[k.length,l.length_eq];exact j
 refine wB1 (wpAny_newList (hsz:=by rw[sizeLine_eq];lia) ?_);have c:(h'.push (seqObj "list" vs.toArray 0)).get? h'.objs.size=some (seqObj "list" vs.toArray 0):=hS1 _ rfl;show dG _ _ _ _ _ {s with heap:=h'.push (seqObj "list" vs.toArray 0),drawn:=f};refine wB1 (wpAny_holding (wE1 slot_list_sort ⟨_,c,rfl⟩ entry_list_sort (list_sort_tree (s:={s with heap:=h'.push (seqObj "list" vs.toArray 0),drawn:=f}) c k d fun out i a1 a2 a3=>⟨_,rfl,?_⟩) (args_list_sort _)));have r:i=jI ns:=pE (a2.trans (l.trans (ic ns).symm)) a3 (l6 ns);subst r;obtain⟨n,h⟩:=sortedHeap_at (out:=out) c;refine wP1 ⟨_,rfl,q _ f h'.objs.size n out (fun b u e=>?_) o h a1⟩;have g:=keep b u e;show(sortedHeap (h'.push (seqObj "list" vs.toArray 0)) h'.objs.size vs out).get? b=some u;rw[sortedHeap_old (nN1 (hL1 g)) (by rw[hZ1];exact cE (hL1 g))];exact hP1 _ g
end
noncomputable def iT:G1:=fun d S=>match dY S d with
 |some (true,xs)=>(mO xs).bind fun ns=>if ns.length<64 then some (.ref S.length,S++[.lst ((jI (ddI ns)).map D.int)])else none
 |_=>none
section
variable{X:Cx}
noncomputable def F7(X:Cx)(vs:List V)(H:Hp)(Q:VK):Prop:=∃a xs ns,vs=[.ref a]/\lJ X.K H a xs/\(∀us,ea xs us->IntsAre us ns)/\ns.length+1<scanBound /\ ∀p,H p=none->Q (.ref p) (upd H p (.ext (i6 (byT X.w) p (ddI ns))))
noncomputable def DB(X:Cx)(vs:List V)(H:Hp)(Q:VK):Prop:=∃a ns,vs=[.ref a]/\H a=some (.ext (i6 (byT X.w) a ns))/\ns.length<64 /\ ∀p,H p=none->Q (.ref p) (upd H p (.lst ((jI ns).map V.int)))
theorem wG{pins:List (dy×Obj)}{σ:L2.St}{H:Hp}{s:dw}(I:Inv X pins σ H s)(d:Drawn):Inv X pins σ H {s with drawn:=d}:=⟨I.ok,I.os,I.bare,I.base,I.loc,I.cell,I.free,I.freeC,I.pin,I.hok,I.len⟩
theorem Fb(hc:X.calm=true):e0 X (.type "set") (F7 X):=by
 intro pins s σ H xs n Q I r h;obtain⟨a,vs,ns,rfl,i,hi,f,q⟩:=h;obtain⟨u,rfl,r2⟩:=iG r;cases r2;obtain⟨b,j,p,m⟩:=I.list i;have g:=hi b j;refine xf (I.ok.hd hc) p.isList (by simpa using g) f fun h' tk keep d=>?_;have c:=I.hok.fresh (nR1 s.heap.objs.size);refine⟨.ref s.heap.objs.size,_,I.laid (t':=tk) (o:=.ext (i6 (byT X.w) s.heap.objs.size (ddI ns))) keep (nR1 _) ⟨d,?_,fun h1 h2 x k=>x.old k⟩,rfl,q _ c⟩;obtain⟨es,ep,t,l,e,_⟩:=d;exact⟨_,e⟩
theorem Ch(hc:X.calm=true):e0 X (.builtin "sorted") (DB X):=by
 intro pins s σ H xs k Q I r h;obtain⟨a,ns,rfl,f,g,q⟩:=h;obtain⟨u,rfl,r2⟩:=iG r;cases r2;obtain⟨j,_⟩:=(show ew X.prog X.w H s.heap a (.ext (i6 (byT X.w) a ns))from I.hok a _ f);refine qB (I.ok.hd hc) j g fun h' i L n out keep d b e=>?_;have c:=I.hok.fresh d;refine⟨.ref L,_,wG (I.laid (t':=s.toks) (o:=.lst ((jI ns).map V.int)) keep d ⟨?_,out.toList,n,wI e,by rw[Array.toArray_toList];exact b⟩) i,rfl,q _ c⟩;rw[lM1,(ic ns).length_eq,sizeLine_eq];lia
theorem G8(ns:List Int):(ddI ns).length<=ns.length:=by
 have:=mU ns [];unfold ddI;simpa using this
theorem v6 (hc:X.calm=true){o:Expr}{m:FE}{p p2 pos b:Pos}(hg:Gl X "sorted")(hm:X.mg "sorted"=none)(hg2:Gl X "set")(hm2:X.mg "set"=none)(ho:XE X o m)
  (he:dE [.Call (.Name "set" p2) [o] [] b] X.env=[(false,eval (.Call (.Name "set" p2) [o] [] b) X.env)]:=by rfl) (e:dE [o] X.env=[(false,eval o X.env)]:=by rfl):XE X (.Call (.Name "sorted" p) [.Call (.Name "set" p2) [o] [] b] [] pos) (mN (b1 iT) (dM m dN)):=
 ⟨eU (ms (Ch hc) hg hm (by decide+kernel) (jd (kH (Fb hc) hg2 hm2 (by decide+kernel) (jd ho.h my e) (he:=e)) my he) (he:=he)) <| by
  rintro σ H Q ⟨r,mu,S,d,D,he,l,hm,f⟩;obtain⟨⟨ds,F⟩,g,hm⟩:=oB1.mp hm;obtain⟨⟨w,E⟩,z,g⟩:=oB1.mp g;cases g;dsimp only[b1,iT]at hm;split at hm
  ·rename_i xs x;obtain⟨ns,s,hm⟩:=oB1.mp hm;split at hm
   ·rename_i h;cases hm;refine⟨r,mu,S,w,_,he,l,z,fun v H1 mu1 A B k=>?_⟩;obtain⟨a,vs,rfl,q,t⟩:=d0 B k x;refine⟨a,vs,ns,rfl,q,fun C y=>(wJ t y s).1,bg (Nat.succ_lt_succ h) (by decide),fun p j=>?_⟩;refine⟨p,ddI ns,rfl,d2,bH (G8 ns) h,fun p2 c=>?_⟩;have n:Ext mu1 mu1 H1 (upd H1 p (.ext (i6 (byT X.w) p (ddI ns)))):=Ext.fresh j;have i:=k.fresh (u:=.ext (i6 (byT X.w) p (ddI ns))) j;exact f _ _ (mu1++[p2]) (A.trans (n.trans (Ext.new_ c))) (.ref (gi i.len _)) (i.newL (kG _) c)
   ·cases hm
  ·cases hm⟩
end
section
variable{X:Cx}{pins:List (dy×Obj)}{σ:L2.St}{H:Hp}{s:dw}{a:dy}{kvs:List (Key×V)}{k:Key}{v:V}{u r:dr}{A:dA}{E:dr->dw->Prop}
end
section
variable{X:Cx}
end
open AutoSeq1 (wpAny_loadPart')
section
variable{prog:dz}{w:dB}{A:dA}{E:dr->dw->Prop}{s:dw}
end
section
variable{X:Cx}
end
section
variable{P:dz}{w:dB}{A:dA}{E:dr->dw->Prop}{s:dw}
end
section
variable{X:Cx}
end
section
variable{X:Cx}{a b:Expr}{rest:List Expr}{pos:Pos}{ta tb:TE}{f g:FE}
end
section
variable{X:Cx}
noncomputable def CM:G1:=fun d S=>match d with
 | .ref n=>match S[n]? with
  |some (.dct kvs)=>some (.int kvs.length,S)
  |_=>eS d S
 |_=>eS d S
end
section
variable{P:dz}{w:dB}{A:dA}{E:dr->dw->Prop}{b:Bool}
end
section
variable{X:Cx}
end
theorem tV:∀{a:List dr} {ns:List Int},IntsAre a ns -> ∃xs:Array (Int×Tok),a.toArray=intItems xs/\xs.toList.map (·.1)=ns:=by
 intro a ns h
 induction h with
 |nil=>exact⟨#[],by simp[intItems],rfl⟩
 |cons n t _ ih=>
  obtain⟨xs,c,d⟩:=ih;refine⟨((n,t)::xs.toList).toArray,?_,by rw[mP1,d]⟩;have b:=congrArg Array.toList c;unfold intItems at b ⊢;rw[Array.toList_map]at b;rw[List.map_toArray,mP1]
  congr 1
  rw[<- b]
noncomputable def nB:List Int->Int
 |[]=>0
 |[x]=>x
 |x::y::l=>let m:=nB (y::l);if x<m then m else x
theorem vb:∀{l:List Int},l≠[]->nB l∈l /\ ∀a∈l,a<=nB l
 |[],h=>(h rfl).elim
 |[x],_=>⟨by simp[nB],fun a h=>by simp at h;subst h;simp[nB]⟩
 |x::y::l,_=>by
  obtain⟨h1,h2⟩:=vb (l:=y::l) (by simp);rw[nB];split
  ·refine⟨mC1 _ h1,fun a b=>?_⟩;rcases aF.mp b with rfl|b
   ·lia
   ·exact h2 a b
  ·refine⟨mS1,fun a b=>?_⟩;rcases aF.mp b with rfl|b
   ·exact Int.le_refl _
   ·have:=h2 a b;lia
theorem Bd{xs:Array (Int×Tok)}{ns:List Int}(e:xs.toList.map (·.1)=ns){j:Nat}(a:j<ns.length):numAt xs j∈ns:=by
 rw[numAt_eq,e,bJ,gG1 a];exact bS a
theorem Bt{xs:Array (Int×Tok)}{ns:List Int}(e:xs.toList.map (·.1)=ns){a:Int}(h:a∈ns):∃j,j<ns.length/\numAt xs j=a:=by
 obtain⟨j,b,rfl⟩:=List.getElem_of_mem h;exact⟨j,b,by rw[numAt_eq,e,bJ,gG1 b];rfl⟩
noncomputable def oz:G1:=fun d S=>match dY S d with
 |some (true,xs)=>(ox xs).bind fun ns=>if ns=[]then none else some (.int (nB ns),S)
 |_=>none
section
variable{X:Cx}
theorem z8(e:X.calm=true):e0 X (.builtin "max") (rN X.K (b1 oz)):=by
 intro pins s σ H xs J Q I r h;obtain⟨x,mu,S,d,N,K,rfl,E,g,b,hc⟩:=DA h;unfold oz at b;split at b
 ·rename_i ds p;obtain⟨ns,w,b⟩:=oB1.mp b;split at b
  ·cases b
  ·rename_i c;cases b;obtain⟨a,vs,rfl,q,t⟩:=d0 E g p;obtain⟨u,rfl,r2⟩:=iG r;cases r2;obtain⟨z,m,n,F⟩:=I.list q;have l:=wH t m w;obtain⟨xs,D,f⟩:=tV l;have k:xs.size=ns.length:=by rw[<- aJ,<- f,lM1]
   have M:0<ns.length:=cJ.mpr c;refine max_intList (I.ok.hd e) (by rw[<- D];exact n.isList) (by lia) fun v h' tk y keep=>?_;obtain⟨B,rfl⟩:=intItems_at y;obtain⟨G,A⟩:=argBest_gt (numAt xs) (xs.size-1);have C:numAt xs (argBest (fun i j=>decide (numAt xs i>numAt xs j)) (xs.size-1))=nB ns:=by
    obtain⟨m1,m2⟩:=vb c;obtain⟨j,L,o⟩:=Bt f m1;have h1:=A j (by lia);have h2:=m2 _ (Bd f (j:=argBest (fun i j=>decide (numAt xs i>numAt xs j)) (xs.size-1)) (by lia));rw[o]at h1;exact Int.le_antisymm h2 h1
   rw[C];exact⟨.int (nB ns),H,I.kept keep,⟨_,rfl⟩,hc.now (.int _) g⟩
 ·cases b
end
section
variable{prog:dz}{w:dB}{A:dA}{E:dr->dw->Prop}{s:dw}
theorem EM{a b:dy}{k l:Int}{t u:Tok}{e zs:List dr}{Q:Bool->dw->Prop}(ha:IsTup s.heap a (Value.int k t::e).toArray)(hb:IsTup s.heap b (Value.int l u::zs).toArray)(c:k≠l)(h:Q (decide (k<l)) s):
  dG (model prog w) A (keyLt' (tuples' true) (.ref a) (.ref b)) Q E s:=by
 rw[iw];obtain⟨o,g,m,_,f⟩:=ha;obtain⟨j,i,n,_,d⟩:=hb;refine wB1 (listItems_at g f (wB1 (listItems_at i d ?_)));rw[bT,bK,bE];refine wB1 (wB1 ?_);dsimp only;refine wB1 (wpAny_eqBool_int ?_);rw[beq_false_of_ne c];simp only[ci,if_true];exact wB1 (oneLt_int (wP1 (wP1 (wP1 h))))
theorem EO{vs:List dr}{Q:SortKind->dw->Prop}(f:vs≠[])(h:∀ v∈vs,∃ a k t ps,v = .ref a/\IsTup s.heap a (Value.int k t::ps).toArray)(q:Q (tuples' true) s):
  dG (model prog w) A (keyKind' vs.toArray) Q E s:=by
 rw[keyKind'_eq,cj,<- bind_pure_comp];refine wB1 (wB1 (jZ (P:=fun _ r=>∃k t,r=some (Value.int k t)) (fun v i=>?_) fun rs C d=>wP1 ?_))
 ·obtain⟨a,k,t,ps,rfl,⟨o,l,B,_,D⟩⟩:=h v i;refine⟨some (.int k t),⟨k,t,rfl⟩,fun Q q=>?_⟩;rw[r9];refine wB1 (wpAny_typeOf (T:="tuple") ⟨o,l,B⟩ ?_);rw[if_neg (by decide)];refine wB1 (listItems_at l D (wP1 ?_));simpa using q
 ·have m:rs.toArray.all (·.isSome)=true:=by
   rw[ck,bB];intro r g;obtain⟨v,_,k,t,e⟩:=d r g;rw[e];rfl
  rw[if_pos m];refine wB1 (wpAny_rule ?_);rw[oneTypeOnly'_eq];have p:rs.toArray.filterMap id=(rs.filterMap id).toArray:=by simp
  rw[p,cj,<- bind_pure_comp];refine wB1 (wB1 (wB1 (jZ (P:=fun _ t=>t=Value.type "int") (fun v i=>?_) fun b c u=>wP1 ?_)))
  ·obtain⟨r,g,e⟩:=aL.mp i;obtain⟨G,_,k,t,n⟩:=d r g;rw[n]at e;cases e;exact⟨_,rfl,fun Q q=>wpAny_typeOf (T:="int") (typeIs_int s k t) q⟩
  ·cases b with
   |nil=>
    exfalso;cases rs with
    |nil=>exact f (cm.mp C.symm)
    |cons r rs=>
     obtain⟨_,_,k,t,e⟩:=d r mS1;rw[e]at c;simp at c
   |cons t b=>
    have all:∀x∈t::b,x=Value.type "int":=fun x j=>by obtain⟨_,_,z⟩:=u x j;exact z
    have F:=all t mS1;subst F;have y:((Value.type "int"::b).toArray.all fun x=>x == Value.type "int")=true:=by
     rw[ck,bB];intro x j;rw[all x j];rfl
    show dG _ _ (pure (if((Value.type "int"::b).toArray.all fun x=>x == Value.type "int")=true then some (Value.type "int")else none)) _ _ _;rw[if_pos y];exact wP1 (wP1 q)
end
section
variable{X:Cx}{pins:List (dy×Obj)}{σ:L2.St}{H:Hp}{s:dw}{mu:List dy}
end
section
variable{X:Cx}
end
section
variable{X:Cx}{f:dy}{fd:dI}{ps:List Str}{k n:Nat}{sp:Sp}{dvs:List V}{ds:List dr}{CX:xy}{E:XK}{t:TA}{e:Expr}{es:List Expr}{p pos:Pos}{i:Nat}{v x:Str}
end
section
variable{prog:dz}{w:dB}{K:Type} [DecidableEq K] {knd:HeapKind prog w K}{A:dA}{E:dr->dw->Prop}{s:dw}
end
section
variable{X:Cx}
noncomputable def Jj:G1:=fun d S=>match d with
 | .ref n=>match S[n]? with
  |some (.dcT kvs)=>some (.int kvs.length,S)
  |_=>CM d S
 |_=>CM d S
noncomputable def jh:G2:=fun d e S=>match e with
 | .ref n=>match S[n]? with
  |some (.dct [])=>match keyT d with
   |some _=>some (.bl true,S)
   |none=>fv d e S
  |_=>fv d e S
 |_=>fv d e S
theorem yN(m:X.A.units+64<cLine):gh X (compareOp .NotIn) (r2 X.K (b2 jh)):=by
 intro pins s σ H x y u w Q I l j h;obtain⟨mu,S,d,e,r,o,p,c,f,a,hc⟩:=nv h;have back:fv d e S=some (r,o)->dG (model X.prog X.w) X.A (compareOp .NotIn u w) (EP X pins σ Q) X.xe s:=fun a=>mE m pins s σ H x y u w Q I l j ⟨mu,S,[d,e],r,o,.cons p (.cons c .nil),f,a,hc⟩;unfold jh at a;split at a
 ·rename_i n;split at a
  ·rename_i A;split at a
   ·rename_i k B;cases a;cases c with
    |ref v=>
     cases j;obtain⟨ws,q,C⟩:=f.dct A v;cases C;obtain⟨z,t,vs,g,dd⟩:=vI I.hok q;cases g;obtain⟨b,rfl,rfl,rk,D,hi⟩:=iR I p l B;have i:s.heap.DictOfH (fC X.prog X.w) _ []:=m3 dd;refine wpAny_notIn_heap (ik m) hi t i ?_;exact⟨.bl true,H,I.tok _,rfl,hc.now (.bl _) f⟩
   ·exact back a
  ·exact back a
 ·exact back a
end
theorem Ig.fits{es:Array (Int×dr)}{t:SetTable}(h:Ig es t):t.fits es.size=true:=by
 unfold SetTable.fits SetTable.fill;rw[h.du,h.sz];have:=h.fl;simp;exact this
theorem mem_ins{α:Type}(a:Array α)(p:Nat)(x y:α):y∈(SetTable.insertAt a p x).toList↔y=x\/y∈a.toList:=by
 rw[rV,aG,aF];have:=cG p a.toList;constructor
 ·rintro(h|h|h)
  ·exact .inr (cK h)
  ·exact .inl h
  ·exact .inr (cM h)
 ·rintro(h|h)
  ·exact .inr (.inl h)
  ·rw[<- this,aG]at h;rcases h with h|h
   ·exact .inl h
   ·exact .inr (.inr h)
theorem mX{α β:Type}{f g:α->Option β}:∀l:List α,(∀a∈l,f a=g a)->l.filterMap f=l.filterMap g
 |[],_=>rfl
 |a::l,h=>by rw[aE,aE,h a mS1,mX l fun b c=>h b (mC1 _ c)]
theorem live_len:∀(l:List (Option Nat)) (s:Nat),((List.range' s l.length).filterMap fun j=>(l.getD (j-s) none).map (j,·)).length=l.countP (·.isSome)
 |[],s=>rfl
 |x::l,s=>by
  rw[lC1,List.range'_succ,aE,List.countP_cons];have ih:=live_len l (s+1);have e:(List.filterMap (fun j=>Option.map (fun x=>(j,x)) ((x::l).getD (j-s) none)) (List.range' (s+1) l.length))=List.filterMap (fun j=>(l.getD (j-(s+1)) none).map (j,·)) (List.range' (s+1) l.length):=by
   refine mX _ fun j a=>?_;rw[List.mem_range'_1]at a;rw[show j-s=(j-(s+1))+1 by lia];rfl
  rw[e,cN];cases x with
  |none=>simpa using ih
  |some q=>simpa using ih
section
variable{prog:dz}{w:dB}{A:dA}{E:dr->dw->Prop}{s:dw}
end
theorem gt.grows{h h':dH}(hs:∀ a o,h.get? a=some o->h'.get? a=some o):∀ {k:TK} {v:dr},gt h k v->gt h' k v:=fun d=>d.rec (motive_1:=fun k v _=>gt h' k v) (motive_2:=fun k v _=>gF h' k v) .non .int
  (fun{a} _ _ _ _ e f c _ ih=>.tup (hs a _ e) f c ih) .nil (fun _ _ a b=>.cons a b)
section
variable{P:dz}{w:dB}{A:dA}{E:dr->dw->Prop}{s:dw}{p:dy}{xs:List (TK×dy×dr)}
end
section
variable{P:dz}{w:dB}{A:dA}{E:dr->dw->Prop}
end
section
variable{X:Cx}
end
section
variable{X:Cx}{pos:Pos}
theorem ce{op:CmpOp}{x y:Expr}{f:FN}{a b:FE}(ho:gh X (compareOp op) (r2 X.K f))(hx:XE X x a)(hy:XE X y b)(hm:behindInMarks op y=false:=by exact yQ _):XE X (.Compare x [op] [y] pos) (m2 f a b):=Av ho hx hy hm
theorem ct{op:CmpOp}{x y:Expr}{f:FN}{a b:FE}(ho:gh X (compareOp op) (r2 X.K f))(hx:XE X x a)(hy:XE X y b)(hm:behindInMarks op y=false:=by exact yQ _):XT X (.Compare x [op] [y] pos) (mB (m2 f a b)):=qX ho hx hy hm
theorem kc{a:dL}{i:Nat}{l:List Nat}(x:Str)(r:∀i∈l,∃x,X.N[i]?=some x/\a.names.lookup x=some .free/\(X.env.kindOf x=some .cell\/X.env.kindOf x=some .free)/\(x,NameKind.cell)∉a.names)(h1:X.N[i]?=some x:=by rfl)(h2:a.names.lookup x=some .free:=by rfl)(c:X.env.kindOf x=some .cell\/X.env.kindOf x=some .free:=by first|exact Or.inl rfl|exact Or.inr rfl)(b:(x,NameKind.cell)∉a.names:=by decide+kernel):∀j∈i::l,∃x,X.N[j]?=some x/\a.names.lookup x=some .free/\(X.env.kindOf x=some .cell\/X.env.kindOf x=some .free)/\(x,NameKind.cell)∉a.names:=List.forall_mem_cons.mpr ⟨⟨x,h1,h2,c,b⟩,r⟩
end
structure eG (K:Fg1)(x:Str)(st:dJ)(f:dy):Prop where
 ns:wN1 K dD x=some (some (.ref f))
 fn:∃fd,xu K x x st f fd
theorem GY{K:Fg1}{x:Str}{st:dJ}{f:dy}{g:dr}{h i:Option dy}{e:Array (Option dr)}{kV d j b ct:dr}(a:wN1 K dD x=some (some (.ref f)))(l:K.lookup f=some ⟨g,h,.func (wF1 x x (gP st) (fb st) (d3 st) .none kV d j i b ct),e⟩)(c:wC1 K b x=true)(k:wK1 K (.ref f)=true):eG K x st f:=⟨a,_,zB l c k⟩
theorem xo{P:dz}{w:dB}{K:Fg1}{mg:Str->Option dr}{base h:dH}{x:Str}{st:dJ}{f:dy}{N ps:List Str}{k n:Nat}{b:FS}(X:K.In h)(G:h.Ns dD mg)(F:eG K x st f)(S:fX N ps (d3 st))(hb:∀(kV e l:dr) (j:Option dy) (a ct:dr) (g:List dr),g.length=ps.length->bindArgs (wF1 x x (gP st) (fb st) (d3 st) .none kV e l j a ct) ⟨g,[]⟩=pure (ps.zip g))(c:∀(f:dy) (a:dr) (A:dA) (d:List Env) (s:dw) (H:Hp) (E:XK),fF k (A.deeper (envOfC x (d3 st) s.heap.objs.size f a)) ->
   ui (lH sK P w K mg base N x (d3 st) f a A d s H E).nox (fb st) b)(hn:ps.length=n:=by rfl):fH P w K mg base (k+1) x n (iy N.length b):=by
 obtain⟨fd,i⟩:=F.fn;exact As i (i.binds hb) (wM1 X G F.ns) S hn (c f)
section
variable{X:Cx}{pins:List (dy×Obj)}{σ:L2.St}{H:Hp}{s:dw}{mu:List dy}
end
section
variable{P:dz}{w:dB}{A:dA}{E:dr->dw->Prop}{s:dw}{a x:dy}{xs:List (TK×dy×dr)}{k:TK}
end
section
variable{X:Cx}
end
section
variable{X:Cx}{o e:Expr}{es:List Expr}{to:TE}{t:TA}{name:Str}{apos cpos:Pos}{id:String}{r:V->List V->Hp->VK->Prop}
end
section
variable{X:Cx}
end
section
variable{X:Cx}{x y z u:Expr}{pos:Pos}{f g k:FN}{a b c d:FE}{op op' op'':CmpOp}{ta tb tc td:TE}
end
structure Blt (L:List Str)(mg:Str->Option dr):Prop where
 h:∀x∈L,mg x=none
theorem bz{L:List Str}{mg:Str->Option dr}{x:Str}(B:Blt L mg)(h:x∈L:=by decide):mg x=none:=B.h x h
theorem sk{N P:List Str}{sc:dL}(h1:sc.kind = .function:=by rfl)(h2:sc.isCoroutine=false:=by rfl)(c:sc.isGenerator=false:=by rfl)(d:N.Nodup:=by decide+kernel)(e:N.take P.length=P:=by rfl)(a:∀x∈P,sc.names.lookup x=some .local\/sc.names.lookup x=some .cell:=by decide+kernel)(b:∀y∈sc.names,y.2 ≠ .free:=by decide+kernel):fX N P sc:=⟨h1,h2,c,d,e,a,b⟩
noncomputable def Hq(K:Fg1):List Str->Prop
 |[]=>True
 |x::l=>wN1 K dD x=some none/\Hq K l
theorem Hq.blt{K:Fg1}{mg:Str->Option dr}{h:dH}(X:K.In h)(G:h.Ns dD mg):∀{L:List Str},Hq K L->Blt L mg
 |[],_=>⟨fun _ m=>nomatch m⟩
 |_::_,z=>⟨fun _ m=>match m with
  | .head _=>PySem.W.mg_none_of X G z.1
  | .tail _ m=>(Hq.blt X G z.2).h _ m⟩
noncomputable def HB:List Str->Bool
 |[]=>true
 |x::l=> !l.contains x&&HB l
theorem gL:∀{l:List Str},HB l=true->l.Nodup
 |[],_=>bn
 |x::l,h=>by
  obtain⟨a,b⟩:=(bA1 _ _).mp h;exact aO.mpr ⟨fun m=>(by rw[cO.mpr m]at a;cases a),gL b⟩
section
variable{X:Cx}{pos:Pos}{k:Nat}{x:Str}{i:Nat}{e y:Expr}{es:List Expr}{m b:FE}{a:FA}{p:Pos}
theorem xv (hN:X.N[i]?=some x:=by rfl)(hv:Vis X.env.scope x:=by first|exact Or.inl rfl|exact Or.inr (Or.inl rfl)|exact Or.inr (Or.inr rfl))(hd:(x == ("__debug__":Str))=false:=by decide)(hcd:(x == ("__classdict__":Str))=false:=by decide):XE X (.Name x pos) (mV i):=Jt i hN hv hd hcd
theorem gq(hN:HB X.N=true:=by rfl)(hi:X.N[i]?=some x:=by rfl)(hx:uo X.env.scope x:=by first|exact Or.inl rfl|exact Or.inr rfl)(hf:X.fn x=true\/X.env.scope.names.lookup x=some .local:=by first|exact .inl rfl|exact .inr rfl|assumption):XG X (.Name x pos) (gN i):=qO i (gL hN) hi hx hf
theorem sq(he:XE X e m)(hN:HB X.N=true:=by rfl)(hi:X.N[i]?=some x:=by rfl)(hx:uo X.env.scope x:=by first|exact Or.inl rfl|exact Or.inr rfl)(hs:swapsWith e (some (.Name x p)) pos.line X.env=pure false:=by rfl)(hf:X.fn x=true\/X.env.scope.names.lookup x=some .local:=by first|exact .inl rfl|exact .inr rfl|assumption):XS X (.Assign [.Name x p] e pos) (d6 m (gN i)):=qY i (gL hN) hi hx he hs hf
theorem jq(hx:XE X e m)(hy:XE X y b)(hr:fF k X.A:=by assumption)(hs:lU y:=by intro _ _;rfl):XE X (.Subscript e y pos) (m2 (b2 dQ) m b):=qJ (qP hr.units) hx hy hs
theorem oq{O:Prop}(o:X.A.units+64<cLine->O)(hr:fF k X.A:=by assumption):O:=o hr.units
theorem wn {k' n:Nat}{f:FN}(h:fH X.prog X.w X.K X.mg X.base k x n f)(ha:XA X (e::es) a)(hr:fF k' X.A:=by assumption)(hk:k<=k':=by first|decide|omega)(hg:Gl X x:=by rfl)(hdb:(x == ("__debug__":Str))=false:=by decide)(he:dE (e::es) X.env=(false,eval e X.env)::dE es X.env:=by rfl)(hpl:(backTo pos (dE es X.env)).any (·.1)=false:=by rfl):XE X (.Call (.Name x p) (e::es) [] pos) (mN (dS n f) a):=qH h hr hk hg ha hdb he hpl
theorem cn {id:String}{f:FN}(hc:e0 X (.builtin id) (rN X.K f))(ha:XA X (e::es) a)(hm:X.mg x=none:=by exact bz (by assumption))(hg:Gl X x:=by rfl)(hv:bootBuiltins x=some (.builtin id):=by decide+kernel)(hn:x≠"__name__":=by decide)(hdb:(x == ("__debug__":Str))=false:=by decide)(he:dE (e::es) X.env=(false,eval e X.env)::dE es X.env:=by rfl)(hpl:(backTo pos (dE es X.env)).any (·.1)=false:=by rfl):XE X (.Call (.Name x p) (e::es) [] pos) (mN f a):=qD hc hg hm hv ha hn hdb he hpl
theorem cz {T:String}{f:FN}(hc:e0 X (.type T) (rN X.K f))(ha:XA X (e::es) a)(hm:X.mg x=none:=by exact bz (by assumption))(hg:Gl X x:=by rfl)(hv:bootBuiltins x=some (.type T):=by decide+kernel)(hn:x≠"__name__":=by decide)(hdb:(x == ("__debug__":Str))=false:=by decide)(he:dE (e::es) X.env=(false,eval e X.env)::dE es X.env:=by rfl)(hpl:(backTo pos (dE es X.env)).any (·.1)=false:=by rfl):XE X (.Call (.Name x p) (e::es) [] pos) (mN f a):=qE hc hg hm hv ha hn hdb he hpl
theorem a1(h:XE X e m)(hs:dE [e] X.env=(false,eval e X.env)::dE [] X.env:=by rfl):XA X [e] (dM m dN):=qA h qN hs
theorem a2(h:XE X e m)(g:XE X y b)(hs:dE [e,y] X.env=(false,eval e X.env)::dE [y] X.env:=by rfl)(hs2:dE [y] X.env=(false,eval y X.env)::dE [] X.env:=by rfl):XA X [e,y] (dM m (dM b dN)):=qA h (a1 g hs2) hs
theorem a3{z:Expr}{c:FE}(h:XE X e m)(g:XE X y b)(l:XE X z c)(hs:dE [e,y,z] X.env=(false,eval e X.env)::dE [y,z] X.env:=by rfl)(hs2:dE [y,z] X.env=(false,eval y X.env)::dE [z] X.env:=by rfl)(a:dE [z] X.env=(false,eval z X.env)::dE [] X.env:=by rfl):XA X [e,y,z] (dM m (dM b (dM c dN))):=qA h (a2 g l hs2 a) hs
theorem ir (ha:XA X [e] a)(hm:X.mg "range"=none:=by exact bz (by assumption))(hg:Gl X "range":=by rfl)(hs:dE [e] X.env=[(false,eval e X.env)]:=by rfl):XI X y (.Call (.Name "range" p) [e] [] pos) (tX a):=sT hg hm ha hs
theorem ie {elts:List Expr}{b:Nat}{tpos:Pos}(ha:XA X [e] a)(hm:X.mg "enumerate"=none:=by exact bz (by assumption))(hg:Gl X "enumerate":=by rfl)(hs:dE [e] X.env=[(false,eval e X.env)]:=by rfl):XI X (.Tuple elts b tpos) (.Call (.Name "enumerate" p) [e] [] pos) (Fw a):=xD hg hm ha hs
theorem ii {T:Ty}{p2:Pos}(h:XE X e m)(hm:X.mg "isinstance"=none:=by exact bz (by assumption))(hm2:X.mg x=none:=by exact bz (by assumption))(hg:Gl X "isinstance":=by rfl)(hg2:Gl X x:=by rfl)(hv2:bootBuiltins x=some (.type T.nm):=by decide+kernel)(hn:x≠"__name__":=by decide)(hd:(x == ("__debug__":Str))=false:=by decide)(hs1:dE [e,.Name x p2] X.env=(false,eval e X.env)::dE [.Name x p2] X.env:=by rfl)(hs2:dE [.Name x p2] X.env=(false,eval (.Name x p2) X.env)::dE [] X.env:=by rfl)(hpl:(backTo pos (dE [.Name x p2] X.env)).any (·.1)=false:=by rfl):XE X (.Call (.Name "isinstance" p) [e,.Name x p2] [] pos) (mI T m):=sX T hg hm hg2 hm2 hv2 h hn hd hs1 hs2 hpl
structure Lm (X:Cx)(name:Str)(id:String)(f:FN):Prop where
 s:Slot "list" name id
 t:typeOf (.builtin id)=pure (.type "method_descriptor")
 m:CZ X id (fun x xs H Q=>rN X.K f (x::xs) H Q)
theorem ap:Lm X "append" "list.append" (b2 kg):=⟨PySem.F.slot_list_append,PySem.F.type_list_append,FK⟩
theorem lq{f:FN}{name:Str}{apos:Pos}{id:String}(s:Lm X name id f)(ho:XE X y m)(ha:XA X (e::es) a)(hbase:attributeBase y name X.env (eval y X.env)=eval y X.env:=by rfl)(hfew:((backTo pos (dE (e::es) X.env)).all (fun x=> !x.1)&&(backToKw pos (keywordEach [] X.env)).all (fun x=>x.1.isSome)&&decide ((e::es).length+([]:List Keyword).length+(if([]:List Keyword).isEmpty then 0 else 1)<30))=true:=by rfl)(hline:(apos.endLine == pos.line)=true:=by rfl)(hs:dE (e::es) X.env=(false,eval e X.env)::dE es X.env:=by rfl)(hplain:(backTo pos (dE es X.env)).any (·.1)=false:=by rfl):XS X (.Expr (.Call (.Attribute y name apos) (e::es) [] pos) p) (fx (qp f m a)):=jE (qe s.s s.t s.m ho ha hbase hfew hline hs hplain)
theorem fo{tg iter:Expr}{a:List dJ}{m:FI}{g:FG}{b:FS}(hi:XI X tg iter m)(hg:XG X tg g)(hb:ui X a b)(hp:PassesOwn (model X.prog X.w) X.A X.env X.xe:=by exact PassesOwn.never)(hc:X.calm=true:=by rfl)(hs:∀x,foldedSetIterable iter X.env x=pure x:=by intro _;rfl):XS X (.For tg iter a [] pos) (iE m g b):=qW hp hc hi hg hb hs
theorem tg2{d:Expr}{g h:FG}{a:Nat}(h1:XG X e g)(h2:XG X d h)(hc:X.calm=true:=by rfl)(hs:(assignEach [e,d] X.env).map (·.2)=assign e X.env::(assignEach [d] X.env).map (·.2):=by rfl)(hs2:(assignEach [d] X.env).map (·.2)=assign d X.env::(assignEach [] X.env).map (·.2):=by rfl)(hn:(assignEach [e,d] X.env).length=2:=by rfl)(hst:(assignEach [e,d] X.env).findIdx? (·.1)=none:=by rfl):XG X (.Tuple [e,d] a pos) (gT 2 (gCs g (gCs h gNl))):=hM hc (ec h1 (ec h2 gx hs2) hs) hn hst
noncomputable def HC(x:Str):List (Str×NameKind)->Bool
 |[]=>true
 |(y,.cell)::l=> !(y == x)&&HC x l
 |_::l=>HC x l
omit k i in
theorem yW:∀{l:List (Str×NameKind)},HC x l=true->(x,NameKind.cell)∉l
 |[],_,m=>nomatch m
 |(y,c)::l,h,m=>by
  rcases aF.mp m with e|a
  ·cases e;have h:=((bA1 _ _).mp h).1;rw[beq_self_eq_true]at h;cases h
  ·cases c with
   |cell=>exact yW ((bA1 _ _).mp h).2 a
   |_=>exact yW (l:=l) h a
theorem kz{a:dL}{l:List Nat}(r:∀i∈l,∃x,X.N[i]?=some x/\a.names.lookup x=some .free/\(X.env.kindOf x=some .cell\/X.env.kindOf x=some .free)/\(x,NameKind.cell)∉a.names)(h1:X.N[i]?=some x:=by rfl)(h2:a.names.lookup x=some .free:=by rfl)(c:X.env.kindOf x=some .cell\/X.env.kindOf x=some .free:=by first|exact Or.inl rfl|exact Or.inr rfl)(b:HC x a.names=true:=by rfl):∀j∈i::l,∃x,X.N[j]?=some x/\a.names.lookup x=some .free/\(X.env.kindOf x=some .cell\/X.env.kindOf x=some .free)/\(x,NameKind.cell)∉a.names:=kc x r h1 h2 c (yW b)
noncomputable def Jm(X:Cx)(sc:dL):List (Str×dy):=(iX X.env.cells sc.names []).getD []
theorem fk{elt tg iter:Expr}{ifs:List Expr}{scope:dL}(T:List Str){keep:List Nat}{m:FI}{g:FG}{t:FT}{e:FE}(hi:XI X tg iter m)(hb:∀ {s H f},HL (cxC X scope (Jm X scope) T keep s H f) X.K tg ifs elt g t e)(b:∀i∈keep,∃x,X.N[i]?=some x/\scope.names.lookup x=some .free/\(X.env.kindOf x=some .cell\/X.env.kindOf x=some .free)/\(x,NameKind.cell)∉scope.names:=by first|exact cP _|exact kz (cP _)|exact kz (kz (cP _))|exact kz (kz (kz (cP _)))|exact kz (kz (kz (kz (cP _)))))(hc:X.calm=true:=by rfl)(c:scope.kind = .function:=by rfl)(a:∀x∈scope.names,x.2 = .local->scope.names.lookup x.1=some .local:=by decide+kernel)(d:iX X.env.cells scope.names []=some (Jm X scope):=by rfl)(hs:∀x,foldedSetIterable iter X.env x=pure x:=by intro _;rfl):XE X (.ListComp elt [⟨tg,iter,ifs,0⟩] scope pos) (eK T.length keep m g t (ev e)):=qZ hc ⟨c,a,b⟩ d hi (fun _ _ _=>hb) hs
end
theorem xq{P:dz}{w:dB}{K:Fg1}{mg:Str->Option dr}{base h:dH}{x:Str}{st:dJ}{f:dy}{k n:Nat}{b:FS}(N:List Str)(X:K.In h)(G:h.Ns dD mg)(F:eG K x st f)(c:∀{f:dy} {a:dr} {A:dA} {d:List Env} {s:dw} {H:Hp} {E:XK},fF k (A.deeper (envOfC x (d3 st) s.heap.objs.size f a)) ->
   ui (lH sK P w K mg base N x (d3 st) f a A d s H E).nox (fb st) b)(S:fX N (N.take n) (d3 st):=by exact sk)(hb:∀(kV i m:dr) (l:Option dy) (a ct:dr) (g:List dr),g.length=(N.take n).length->bindArgs (wF1 x x (gP st) (fb st) (d3 st) .none kV i m l a ct) ⟨g,[]⟩=pure ((N.take n).zip g):=by
   intro _ _ _ _ _ _ g e;first|exact Jh e fun _=>rfl|exact Jg e fun _ _=>rfl|exact Jf e fun _ _ _=>rfl|exact Je e fun _ _ _ _=>rfl)(hn:(N.take n).length=n:=by rfl):fH P w K mg base (k+1) x n (iy N.length b):=xo X G F S hb (fun _ _ _ _ _ _ _ j=>c j) hn
open AutoSeq1 (wpAny_loadPart')
section
variable{X:Cx}
end
mutual
noncomputable def pl:D->Bool
 | .non=>true
 | .bl _=>true
 | .int _=>true
 | .str _=>true
 | .tup xs=>lQ xs
 |_=>false
noncomputable def lQ:List D->Bool
 |[]=>true
 |x::xs=>pl x&&lQ xs
end
section
variable{X:Cx}{pins:List (dy×Obj)}{σ:L2.St}{H:Hp}{s:dw}{mu:List dy}{S:Sto}
mutual
theorem uM(I:Inv X pins σ H s):∀{d d':D} {v:V},pl d=true->pl d'=true->eB X.K H mu d v->eB X.K H mu d' v->d=d'
 | .non,d',_,_,h,.non,r=>by cases r;rfl
 | .bl b,d',_,_,h,.bl _,r=>by cases r;rfl
 | .int i,d',_,_,h,.int _,r=>by cases r;rfl
 | .str x,d',_,_,h,.str _,r=>by cases r;rfl
 | .tup xs,d',_,g,h,.tup q t,r=>by
  cases r with
  |tup a c=>
   have e:=I.tuple_inj q a;subst e;rw[pl]at g h;rw[ra I g h t c]
  |rol _ _=>cases h
  |ref _=>cases h
  |fn _=>cases h
 | .rol _,_,_,g,_,_,_=>by cases g
 | .ref _,_,_,g,_,_,_=>by cases g
 | .fn _,_,_,g,_,_,_=>by cases g
theorem ra(I:Inv X pins σ H s):∀{ds a:List D} {vs:List V},lQ ds=true->lQ a=true->dW X.K H mu ds vs->dW X.K H mu a vs->ds=a
 |[],_,_,_,_,.nil,r=>by cases r;rfl
 |d::ds,_,_,g,h,.cons r t,z=>by
  cases z with
  |cons c b=>
   rw[lQ,bA1]at g h;rw[uM I g.1 h.1 r c,ra I g.2 h.2 t b]
end
end
noncomputable def iS:D->Option Bool
 | .tup (.int _::_)=>some true
 | .tup (.tup _::_)=>some false
 |_=>none
noncomputable def Iw(a b:D):Bool:=jB [] 51 a b == some true
noncomputable def wM(a:D):List D->List D
 |[]=>[a]
 |b::l=>if Iw a b=true then a::b::l else b::wM a l
noncomputable def jJ:List D->List D
 |[]=>[]
 |a::l=>wM a (jJ l)
noncomputable def oi(a b:D):Bool:=jB [] 51 a b == some true&&jB [] 51 b a == some false
noncomputable def lc:List D->Bool
 |[]=>true
 |a::l=>l.all (oi a)&&lc l
theorem jR:∀{l:List D} {i j:Nat} {a b:D},lc l=true->l[i]?=some a->l[j]?=some b->i<j->oi a b=true
 |[],i,j,a,b,_,h,_,_=>by simp at h
 |x::l,0,j+1,a,b,h,h1,h2,_=>by
  rw[lc,bA1,bB]at h;simp at h1 h2;subst h1;exact h.1 b (gM1 h2)
 |x::l,i+1,j+1,a,b,h,h1,h2,hij=>by
  rw[lc,bA1]at h;exact jR h.2 (by simpa using h1) (by simpa using h2) (by lia)
 |x::l,i,0,a,b,_,_,_,hij=>by lia
abbrev Tr:=D×V×dr
noncomputable def wK(a:Tr):List Tr->List Tr
 |[]=>[a]
 |b::l=>if Iw a.1 b.1=true then a::b::l else b::wK a l
noncomputable def qC:List Tr->List Tr
 |[]=>[]
 |a::l=>wK a (qC l)
theorem oy(a:Tr):∀l:List Tr,(wK a l).Perm (a::l)
 |[]=>.refl _
 |b::l=>by
  rw[wK];split
  ·exact .refl _
  ·exact((oy a l).cons b).trans (.swap _ _ _)
theorem l5:∀l:List Tr,(qC l).Perm l
 |[]=>.refl _
 |a::l=>(oy a _).trans ((l5 l).cons a)
theorem rW(a:Tr):∀l:List Tr,(wK a l).map (·.1)=wM a.1 (l.map (·.1))
 |[]=>rfl
 |b::l=>by
  rw[wK,mP1,wM];split
  ·rfl
  ·rw[mP1,rW a l]
theorem nP:∀l:List Tr,(qC l).map (·.1)=jJ (l.map (·.1))
 |[]=>rfl
 |a::l=>by rw[qC,mP1,jJ,rW,nP l]
section
variable{prog:dz}{w:dB}{A:dA}{E:dr->dw->Prop}{s:dw}
theorem BE{a b:dy}{k l:Int}{t u:Tok}{g zs:List dr}{c:Bool}{Q:Bool->dw->Prop}(ha:IsTup s.heap a (Value.int k t::g).toArray)(hb:IsTup s.heap b (Value.int l u::zs).toArray)(f:k≠l/\c=decide (k<l)\/k=l/\sJ A s g zs c)(h:Q c s):
  dG (model prog w) A (keyLt' (tuples' true) (.ref a) (.ref b)) Q E s:=by
 rcases f with⟨f,rfl⟩|⟨rfl,L⟩
 ·exact EM ha hb f h
 rw[iw];obtain⟨o,y,D,_,v⟩:=ha;obtain⟨C,B,F,_,r⟩:=hb;refine wB1 (listItems_at y v (wB1 (listItems_at B r ?_)));rw[bT,bK,bE];refine wB1 (wB1 ?_);dsimp only;refine wB1 (wpAny_eqBool_int ?_);simp only[beq_self_eq_true,b5,bF1,if_false];refine wP1 ?_;refine wpAny_mono (wpAny_forIn_list _ (fun rest b s'=>s'=s/\b=(none,()) /\ ∃(i:Nat) (vs ws:List dr),rest=(vs.zip ws).zipIdx (i+1)/\sJ A s vs ws c/\vs.length+zs.length=ws.length+g.length)
  (fun b s'=>s'=s/\(b=(some c,())\/(b=(none,())/\c=decide (g.length<zs.length)))) ?_ ?_ _ _ ⟨rfl,rfl,0,g,zs,rfl,L,by lia⟩) ?_ fun _ _ e=>e
 ·rintro x rest b s' ⟨rfl,rfl,i,vs,ws,d,m,j⟩;cases m with
  |nn=>simp at d
  |nc _ _=>simp at d
  |cn _ _=>simp at d
  | @eq p q ps n _ e t=>
   rw[bT,bK]at d;cases d;refine wB1 (e.of_in1 prog w E _ ?_);simp only[b5,bF1,if_false];exact wP1 ⟨rfl,rfl,i+1,ps,n,rfl,t,by simp at j;lia⟩
  | @lt p q ps n _ e t=>
   rw[bT,bK]at d;cases d;refine wB1 (e.of_in1 prog w E _ ?_);simp only[ci,if_true];rw[show(true&&(i+1 == 0))=false from rfl];exact wB1 (yH t (wP1 ⟨rfl,.inl rfl⟩))
 ·rintro b s' ⟨rfl,rfl,i,vs,ws,d,m,j⟩;refine⟨rfl,.inr ⟨rfl,?_⟩⟩;cases m with
  |nn=>simp at j;rw[decide_eq_false (by lia)]
  |nc _ _=>simp at j;rw[decide_eq_true (by lia)]
  |cn _ _=>simp at j;rw[decide_eq_false (by lia)]
  |eq _ _=>simp at d
  |lt _ _=>simp at d
 ·rintro b s' ⟨rfl,z⟩;rcases z with rfl|⟨rfl,z⟩
  ·exact wP1 h
  ·refine wP1 ?_;rw[sT1,sT1,lC1,lC1,show decide (g.length+1<zs.length+1)=c by rw[z];congr 1;simp];exact h
end
section
variable{X:Cx}{pins:List (dy×Obj)}{σ:L2.St}{H:Hp}{s:dw}{mu:List dy}{S:Sto}
theorem ET(I:Inv X pins σ H s)(hs:Sim X.K H mu S){A:dA}(P:A.units+60<cLine){f:Bool}{d e:D}{v w:V}{u z:dr}{b:Bool}(C:eB X.K H mu d v)(F:eB X.K H mu e w)(B:dX v u)(G:dX w z)(hd:iS d=some f)(he:iS e=some f)(h:jB S 51 d e=some b){E:dr->dw->Prop}{Q:Bool->dw->Prop}(q:Q b s):dG (model X.prog X.w) A (keyLt' (tuples' f) u z) Q E s:=by
 have y:∀{xs ys:List D} {vs ws:List V} {us zs:List dr} {b:Bool},dW X.K H mu xs vs->dW X.K H mu ys ws->ea vs us->ea ws zs->nD (gf S 50) (jB S 50) xs ys=some b->sJ A s us zs b:=
  fun i g j a h=>ze I hs (A:=A) (n:=50) (by lia) (fun N r2 K J h=>tR I hs 50 (A:=A.in1) (by show A.units+1+50<cLine;lia) N r2 K J h) i g j a h
 unfold iS at hd he;split at hd
 ·rename_i k _;cases hd;split at he
  ·rename_i l _;cases C with
   |tup x i=>
   cases F with
   |tup o g=>
   obtain⟨t,j,p,_⟩:=I.tuple x;obtain⟨m,a,r,_⟩:=I.tuple o;cases B;cases G;cases i with
   |cons a1 i=>
   cases g with
   |cons a2 g=>
   cases a1;cases a2;cases j with
   |cons M j=>
   cases a with
   |cons L a=>
   obtain⟨tk,rfl⟩:=M;obtain⟨O,rfl⟩:=L;refine BE p r ?_ q;have h:nD (gf S 50) (jB S 50) (.int k::_) (.int l::_)=some b:=h;rw[nD]at h;by_cases c:k=l
   ·subst c;exact .inr ⟨rfl,y i g j a (by
     have e:gf S 50 (.int k) (.int k)=some true:=by show some (decide (k=k))=_;simp
     rw[e]at h;exact h)⟩
   ·refine .inl ⟨c,?_⟩;have e:gf S 50 (.int k) (.int l)=some false:=by show some (decide (k=l))=_;simp[c]
    rw[e]at h;have h:some (decide (k<l))=some b:=h;exact(Option.some.inj h).symm
  ·cases he
  ·cases he
 ·cases hd;split at he
  ·cases he
  ·cases C with
   |tup x i=>
   cases F with
   |tup o g=>
   obtain⟨t,j,p,_⟩:=I.tuple x;obtain⟨m,a,r,_⟩:=I.tuple o;cases B;cases G;exact EL p r (y i g j a h) q
  ·cases he
 ·cases hd
theorem Dq(I:Inv X pins σ H s)(hs:Sim X.K H mu S){A:dA}(hu:A.units+60<cLine){f:Bool}{ds:List D}{vs:List V}{its:List dr}(r:dW X.K H mu ds vs)(rv:ea vs its)(hp:lQ ds=true)(hk:∀d∈ds,iS d=some f)(hr:lc (jJ ds)=true):
  ∃(G:List V) (ws:List dr),dW X.K H mu (jJ ds) G/\ea G ws/\its.Perm ws/\G.length=vs.length /\
   ∀c:dH,(∀b o,s.heap.get? b=some o->c.get? b=some o)->kY X.prog X.w A {s with heap:=c} (tuples' f) ws (pairsOf its) /\
    (its≠[] -> ∀(E:dr->dw->Prop) (Q:SortKind->dw->Prop),Q (tuples' f) {s with heap:=c}->dG (model X.prog X.w) A (keyKind' its.toArray) Q E {s with heap:=c}):=by
 have p:∀{l:List D},lQ l=true -> ∀d∈l,pl d=true:=by
  intro l
  induction l with
  |nil=>intro _ d h;cases h
  |cons x l ih=>
   intro h d L;rw[lQ,bA1]at h;rcases aF.mp L with rfl|z
   ·exact h.1
   ·exact ih h.2 d z
 have und:∀n,(∀d:D,pl d=true->d.und n=true) /\ ∀l:List D,lQ l=true->D.unds n l=true:=fun n=>by
  refine⟨fun d=>?_,fun l=>?_⟩
  ·exact D.rec (motive_1:=fun d=>pl d=true->d.und n=true) (motive_2:=fun l=>lQ l=true->D.unds n l=true) (fun _=>rfl) (fun _ _=>rfl) (fun _ _=>rfl) (fun _ _=>rfl) (fun xs ih h=>by rw[pl]at h;rw[D.und];exact ih h) (fun _ _ h=>by cases h) (fun _ h=>by cases h) (fun _ h=>by cases h) (fun _=>rfl) (fun x xs h1 h2 h=>by rw[lQ,bA1]at h;rw[D.unds,h1 h.1,h2 h.2];rfl) d
  ·exact D.rec_1 (motive_1:=fun d=>pl d=true->d.und n=true) (motive_2:=fun l=>lQ l=true->D.unds n l=true) (fun _=>rfl) (fun _ _=>rfl) (fun _ _=>rfl) (fun _ _=>rfl) (fun xs ih h=>by rw[pl]at h;rw[D.und];exact ih h) (fun _ _ h=>by cases h) (fun _ h=>by cases h) (fun _ h=>by cases h) (fun _=>rfl) (fun x xs h1 h2 h=>by rw[lQ,bA1]at h;rw[D.unds,h1 h.1,h2 h.2];rfl) l
 have tri:∃Y:List Tr,Y.map (·.1)=ds/\Y.map (·.2.1)=vs/\Y.map (·.2.2)=its /\ ∀y∈Y,eB X.K H mu y.1 y.2.1/\dX y.2.1 y.2.2:=by
  clear hk hr hp
  induction ds generalizing vs its with
  |nil=>cases r;cases rv;exact⟨[],rfl,rfl,rfl,fun y h=>by cases h⟩
  |cons d ds ih=>
   cases r with
   |cons F t=>
   cases rv with
   |cons N tt=>
   obtain⟨Y,J,K,w,ok⟩:=ih t tt;refine⟨(d,_,_)::Y,by rw[mP1,J],by rw[mP1,K],by rw[mP1,w],fun y m=>?_⟩;rcases aF.mp m with rfl|z
   ·exact⟨F,N⟩
   ·exact ok y z
 obtain⟨Y,rfl,rfl,rfl,ok⟩:=tri;have M:=l5 Y;have em:=nP Y;rw[<- em]at hr ⊢;generalize hZ:qC Y=Z at *
 have g:∀y∈Z,y∈Y:=fun y m=>M.mem_iff.mp m;refine⟨Z.map (·.2.1),Z.map (·.2.2),?_,?_,(M.map _).symm,by rw[lM1,lM1,M.length_eq],fun c keep=>⟨⟨?_,?_,?_⟩,fun hne E Q q=>?_⟩⟩
 ·clear hr hZ em M
  induction Z with
  |nil=>exact .nil
  |cons y Z ih=>exact .cons (ok y (g y mS1)).1 (ih fun z hz=>g z (mC1 _ hz))
 ·clear hr hZ em M
  induction Z with
  |nil=>exact .nil
  |cons y Z ih=>exact .cons (ok y (g y mS1)).2 (ih fun z hz=>g z (mC1 _ hz))
 ·refine cq.mpr fun i j hi hj O e=>?_;rw [lM1] at hi hj;rw [List.getElem_map,List.getElem_map] at e;have B:=g _ (bS hi);have C:=g _ (bS hj);have U:=jR hr (i:=i) (j:=j) (a:=Z[i].1) (b:=Z[j].1) (by rw [gP1,gG1 hi];rfl) (by rw [gP1,gG1 hj];rfl) O;obtain ⟨F,N⟩:=ok _ B;obtain ⟨r2,q2⟩:=ok _ C;have h1:=hk Z[i].1 (cc.mpr ⟨_,B,rfl⟩);have h2:=hk Z[j].1 (cc.mpr ⟨_,C,rfl⟩);have isT:∀ {d:D} {v:V} {u:dr},iS d=some f->eB X.K H mu d v->dX v u -> ∃ a,v = .ref a/\u = .ref a:=fun {d v u} L rd ru=>by
   cases rd with
   |tup _ _=>cases ru;exact⟨_,rfl,rfl⟩
   |_=>cases L
  obtain⟨a1,J,K⟩:=isT h1 F N;obtain⟨a2,w,e4⟩:=isT h2 r2 q2;rw[K,e4]at e;cases e;rw[J]at F;rw[w]at r2;have e:=uM I (p hp _ (cc.mpr ⟨_,B,rfl⟩)) (p hp _ (cc.mpr ⟨_,C,rfl⟩)) F r2;unfold oi at U;rw[e,bA1,beq_iff_eq,beq_iff_eq]at U;rw[U.1]at U;cases U.2
 ·rw[pairsOf_toList];have:(Y.map (·.2.2) |>.zip (Y.map (·.2.2))).map (·.1)=Y.map (·.2.2):=List.map_fst_zip (nR1 _);rw[this];exact(M.map _).symm
 ·intro x y i j hx m O E Q q;rw[gP1]at hx m;obtain⟨yi,R,rfl⟩:=oM1.mp hx;obtain⟨yj,W,rfl⟩:=oM1.mp m;have B:=g _ (gM1 R);have C:=g _ (gM1 W);have P:Inv X pins σ H {s with heap:=c}:=I.kept (t':=s.toks) keep;have ki:(Z.map (·.1))[i]?=some yi.1:=by rw[gP1,R];rfl
  have kj:(Z.map (·.1))[j]?=some yj.1:=by rw[gP1,W];rfl
  have pi:=(und 0).1 _ (p hp _ (cc.mpr ⟨_,B,rfl⟩));have pj:=(und 0).1 _ (p hp _ (cc.mpr ⟨_,C,rfl⟩));refine ET P hs hu (ok _ B).1 (ok _ C).1 (ok _ B).2 (ok _ C).2 (hk _ (cc.mpr ⟨_,B,rfl⟩)) (hk _ (cc.mpr ⟨_,C,rfl⟩)) ?_ q;rw[ve pi pj];by_cases z:i<j
  ·have:=jR hr ki kj z;unfold oi at this;simp only[bA1,beq_iff_eq]at this;rw[decide_eq_true z];exact this.1
  ·have:=jR hr kj ki (by lia);unfold oi at this;simp only[bA1,beq_iff_eq]at this;rw[decide_eq_false z];exact this.2
 ·have P:Inv X pins σ H {s with heap:=c}:=I.kept (t':=s.toks) keep;have L:∀ y∈Y,∃ a xs,y.2.2 = .ref a/\IsTup c a xs/\(if f=true then ∃ k t ps,xs=(Value.int k t::ps).toArray else ∃ b ps qs,xs=(Value.ref b::ps).toArray/\IsTup c b qs):=fun y m=>by
   have h1:=hk y.1 (cc.mpr ⟨_,m,rfl⟩);obtain⟨F,N⟩:=ok y m;obtain⟨d,v,u⟩:=y;dsimp only at *
   unfold iS at h1;split at h1
   ·cases h1;cases F with
    |tup q t=>
    obtain⟨is,T,i1,_⟩:=P.tuple q;cases t with
    |cons a1 t=>
    cases a1;cases T with
    |cons w1 T=>
    obtain⟨tk,rfl⟩:=w1;cases N;exact⟨_,_,rfl,i1,by rw[if_pos rfl];exact⟨_,_,_,rfl⟩⟩
   ·cases h1;cases F with
    |tup q t=>
    obtain⟨is,T,i1,_⟩:=P.tuple q;cases t with
    |cons a1 t=>
    cases a1 with
    |tup q2 t2=>
    obtain⟨is2,v2,i2,_⟩:=P.tuple q2;cases T with
    |cons w1 T=>
    cases w1;cases N;exact⟨_,_,rfl,i1,by rw[if_neg aK];exact⟨_,_,_,rfl,i2⟩⟩
   ·cases h1
  cases f with
  |true=>
   refine EO hne (fun v hv=>?_) q;obtain⟨y,m,rfl⟩:=cc.mp hv;obtain⟨a,xs,J,K,w⟩:=L y m;rw[if_pos rfl]at w;obtain⟨k,t,ps,rfl⟩:=w;exact⟨a,k,t,ps,J,K⟩
  |false=>
   refine EN hne (fun v hv=>?_) q;obtain⟨y,m,rfl⟩:=cc.mp hv;obtain⟨a,xs,J,K,w⟩:=L y m;rw[if_neg aK]at w;obtain⟨b,ps,qs,rfl,e4⟩:=w;exact⟨a,_,ps,b,qs,J,K,rfl,e4⟩
end
section
variable{prog:dz}{w:dB}{A:dA}{E:dr->dw->Prop}{s:dw}
end
noncomputable def mP(l:List D):Option Bool:=match l with
 |[]=>some true
 |d::l=>match iS d with
  |some f=>if(l.all fun e=>iS e == some f)=true then some f else none
  |none=>none
theorem tZ:∀{l:List D} {f:Bool},mP l=some f -> ∀d∈l,iS d=some f
 |[],_,_,d,h=>by cases h
 |x :: l,f,h,d,hd=>by
  rw[mP]at h;cases hx:iS x with
  |none=>rw[hx]at h;cases h
  |some g=>
   rw[hx]at h;dsimp only at h;split at h
   ·rename_i a;cases h;rcases aF.mp hd with rfl|z
    ·exact hx
    ·have:=bB.mp a d z
     rwa [beq_iff_eq]at this
   ·cases h
mutual
theorem pl_tk:∀k:TK,pl (tkD k)=true
 | .non=>rfl
 | .int _=>rfl
 | .tup xs=>by rw[tkD,pl];exact yu xs
theorem yu:∀ks:List TK,lQ (iD ks)=true
 |[]=>rfl
 |k::ks=>by rw[iD,lQ,pl_tk k,yu ks];rfl
end
section
variable{X:Cx}
end
noncomputable def Fx:Bool->Keyed->Array Keyed->Nat->Nat->Nat->StateT SortSt Sem (Option Nat):=sortPriv%PySem.Builtin.gallop
abbrev rk(ws:List dr)(p:Keyed):Nat:=rkV ws p.1
section
variable{prog:dz}{w:dB}{A:dA}{E:dr->dw->Prop}{s:dw}{κ:SortKind}{ws:List dr}{a₀:Array Keyed}
theorem kY.lt2(C:kY prog w A s κ ws a₀){st:SortSt}{p q:Keyed}{Q:Option Bool->SortSt->Prop}(hk:kindOf st=κ)(hp:p∈a₀)(b:q∈a₀)(a:rk ws p≠rk ws q)(h:Q (some (decide (rk ws p<rk ws q))) st):wpS (model prog w) A E s (lt' p q) Q st:=by
 have at_:∀{p:Keyed},p∈a₀->ws[rk ws p]?=some p.1:=fun{p} hp=>ye (C.keys.mem_iff.mp (cc.mpr ⟨_,aM.mpr hp,rfl⟩));rw[lt'_eq];refine wpS_bind (wpS_get ?_);rw[hk];exact wpS_bind (wpS_lift (wpAny_attempt (C.lt p.1 q.1 _ _ (at_ hp) (at_ b) a _ _ ⟨rfl,wpS_pure h⟩)))
noncomputable def bey(l:Bool)(key:Keyed)(arr:Array Keyed)(b i:Nat):StateT SortSt Sem (Option Bool):=elem' arr (b+i) >>= fun x=>if l=true then lt' x key else lt' key x >>= fun r=>pure (r.map fun z=> !z)
theorem Hf(C:kY prog w A s κ ws a₀){st:SortSt}{l:Bool}{key p:Keyed}{arr:Array Keyed}{b i:Nat}{Q:Option Bool->SortSt->Prop}(hk:kindOf st=κ)(a:key∈a₀)(hp:arr[b+i]?=some p)(hm:p∈a₀)(c:rk ws p≠rk ws key)(q:Q (some (decide (rk ws p<rk ws key))) st):wpS (model prog w) A E s (bey l key arr b i) Q st:=by
 unfold bey;rw[elem'_eq,hp];refine wpS_bind (wpS_pure ?_);cases l with
 |true=>exact C.lt2 hk hm a c q
 |false=>
  refine wpS_bind (C.lt2 hk a hm (Ne.symm c) (wpS_pure ?_));have e:(!decide (rk ws key<rk ws p))=decide (rk ws p<rk ws key):=by rw[bQ];simp;lia
  show Q (some (!decide (rk ws key<rk ws p))) st;rw[e];exact q
theorem vw(C:kY prog w A s κ ws a₀){st:SortSt}{l:Bool}{key:Keyed}{arr:Array Keyed}{b n h:Nat}{R:Nat->Nat}{Q:Option Nat->SortSt->Prop}(hk:kindOf st=κ)(J:key∈a₀)(O:h<n)(D:∀i,i<n -> ∃p,arr[b+i]?=some p/\p∈a₀/\rk ws p=R i/\R i≠rk ws key)(a:∀i j,i<j->j<n->R i<R j)(q:∀k,k<=n->(∀i,i<k->R i<rk ws key)->(∀i,k<=i->i<n->rk ws key<R i)->Q (some k) st):wpS (model prog w) A E s (Fx l key arr b n h) Q st:=by
 have N:∀i,i<n -> ∀{Q:Option Bool->SortSt->Prop},Q (some (decide (R i<rk ws key))) st->wpS (model prog w) A E s (bey l key arr b i) Q st:=fun i hi Q K=>by
  obtain⟨p,h1,h2,H,y⟩:=D i hi;rw[<- H]at K y;exact Hf C hk J h1 h2 y K
 have ne:∀i,i<n->R i≠rk ws key:=fun i hi=>by obtain⟨p,_,_,_,h⟩:=D i hi;exact h
 have M:∀ lo hi,lo<=hi->hi<=n->(∀ i,i<lo->R i<rk ws key)->(∀ i,hi<=i->i<n->rk ws key<R i) -> ∀ {f:Nat->Option (Option Nat)×Nat×Nat->StateT SortSt Sem (ForInStep (Option (Option Nat)×Nat×Nat))} {S:Option (Option Nat)×Nat×Nat->SortSt->Prop},
   (∀x c,f x c=(if c.2.1>=c.2.2 then pure (ForInStep.done (none,c.2.1,c.2.2))else bey l key arr b (c.2.1+(c.2.2-c.2.1)/2) >>= fun r=>match r with
    |some m=>if m=true then pure (ForInStep.yield (none,c.2.1+(c.2.2-c.2.1)/2+1,c.2.2))else pure (ForInStep.yield (none,c.2.1,c.2.1+(c.2.2-c.2.1)/2))
    |_=>pure (ForInStep.done (some none,c.2.1,c.2.2))))->(∀k c,k<=n->(∀i,i<k->R i<rk ws key)->(∀i,k<=i->i<n->rk ws key<R i)->c.1=none->c.2.2=k->S c st)->wpS (model prog w) A E s (forIn [0:n] (none,lo,hi) f) S st:=fun lo hi h1 h2 H y f S V K=>by
  refine wpS_forRange (fun x c st'=>st'=st /\ ∃lo hi,c=(none,lo,hi)/\lo<=hi/\hi<=n/\hi-lo<=n-x/\(∀i,i<lo->R i<rk ws key) /\ ∀i,hi<=i->i<n->rk ws key<R i) ?_ ?_ ⟨rfl,lo,hi,rfl,h1,h2,by lia,H,y⟩
  ·rintro x c st' _ T ⟨rfl,lo,hi,rfl,I,g,o,d,B⟩;rw[V];dsimp only;by_cases z:lo>=hi
   ·rw[if_pos z];have e:lo=hi:=by lia
    subst e;exact wpS_pure (K lo _ g d B rfl rfl)
   ·rw[if_neg z];have hm:lo+(hi-lo)/2<hi:=by lia
    generalize Y:lo+(hi-lo)/2=m at *
    refine wpS_bind (N m (by lia) ?_);by_cases u:R m<rk ws key
    ·simp only[u,decide_true,if_true];refine wpS_pure ⟨rfl,m+1,hi,rfl,by lia,g,by lia,fun i X=>?_,B⟩;by_cases v:i=m
     ·rw[v];exact u
     ·exact bg (a i m (by lia) (by lia)) u
    ·simp only[u,decide_false,bF1,if_false];have F:rk ws key<R m:=by have:=ne m (by lia);lia
     refine wpS_pure ⟨rfl,lo,m,rfl,by lia,by lia,by lia,d,fun i t G=>?_⟩;by_cases v:i=m
     ·rw[v];exact F
     ·exact bg F (a m i (by lia) G)
  ·rintro c st' ⟨rfl,lo,hi,rfl,I,g,o,d,B⟩;have e:lo=hi:=by lia
   subst e;exact K lo _ g d B rfl rfl
 unfold Fx;refine wpS_bind (N h O ?_);by_cases z:R h<rk ws key
 ·simp only[z,decide_true,if_true];refine wpS_bind (wpS_mono (wpS_forRange (fun x c st'=>st'=st /\ ∃lo of,c=(none,lo,of)/\x+1<=of/\lo<of/\h+lo<n/\R (h+lo)<rk ws key) (Q:=fun c st'=>st'=st /\ ∃lo of,c=(none,lo,of)/\lo<of/\h+lo<n/\R (h+lo)<rk ws key /\ ∀i,h+min of (n-h)<=i->i<n->rk ws key<R i) ?_ ?_ ⟨rfl,0,1,rfl,by lia,by lia,O,z⟩) ?_)
  ·rintro x c st' _ T ⟨rfl,lo,of,rfl,I,g,o,d⟩;dsimp only;by_cases L:of>=n-h
   ·rw[if_pos L];exact wpS_pure ⟨rfl,lo,of,rfl,g,o,d,fun i t G=>by lia⟩
   ·rw[if_neg L];refine wpS_bind (N (h+of) (by lia) ?_);by_cases u:R (h+of)<rk ws key
    ·simp only[u,decide_true,b5,bF1,if_false];exact wpS_pure ⟨rfl,of,2*of+1,rfl,by lia,by lia,by lia,u⟩
    ·simp only[u,decide_false,ci,if_true];have F:rk ws key<R (h+of):=by have:=ne (h+of) (by lia);lia
     refine wpS_pure ⟨rfl,lo,of,rfl,g,o,d,fun i t G=>?_⟩;by_cases v:i=h+of
     ·rw[v];exact F
     ·exact bg F (a (h+of) i (by lia) G)
  ·rintro c st' ⟨rfl,lo,of,rfl,I,g,o,d⟩;exact⟨rfl,lo,of,rfl,g,o,d,fun i t G=>by lia⟩
  ·rintro c st' ⟨rfl,lo,of,rfl,g,o,d,B⟩;dsimp only;refine wpS_bind (M (h+lo+1) (h+min of (n-h)) (by lia) (by lia) (fun i hi=>?_) B (fun x c=>rfl) fun k c h1 h2 H y t=>?_)
   ·by_cases v:i=h+lo
    ·rw[v];exact d
    ·exact bg (a i (h+lo) (by lia) o) d
   ·obtain⟨U,Z,P⟩:=c;dsimp only at y t;subst y;subst t;exact wpS_pure (q P h1 h2 H)
 ·simp only[z,decide_false,bF1,if_false];have W:rk ws key<R h:=by have:=ne h O;lia
  refine wpS_bind (wpS_mono (wpS_forRange (fun x c st'=>st'=st /\ ∃lo of,c=(none,lo,of)/\x+1<=of/\lo<of/\lo<=h/\rk ws key<R (h-lo)) (Q:=fun c st'=>st'=st /\ ∃lo of,c=(none,lo,of)/\lo<of/\lo<=h/\rk ws key<R (h-lo) /\ ∀i,i<h+1-min of (h+1)->R i<rk ws key) ?_ ?_ ⟨rfl,0,1,rfl,by lia,by lia,by lia,W⟩) ?_)
  ·rintro x c st' _ T ⟨rfl,lo,of,rfl,I,g,o,d⟩;dsimp only;by_cases L:of>=h+1
   ·rw[if_pos L];exact wpS_pure ⟨rfl,lo,of,rfl,g,o,d,fun i t=>by lia⟩
   ·rw[if_neg L];refine wpS_bind (N (h-of) (by lia) ?_);by_cases u:R (h-of)<rk ws key
    ·simp only[u,decide_true,if_true];refine wpS_pure ⟨rfl,lo,of,rfl,g,o,d,fun i t=>?_⟩;by_cases v:i=h-of
     ·rw[v];exact u
     ·exact bg (a i (h-of) (by lia) (by lia)) u
    ·simp only[u,decide_false,bF1,if_false];have F:rk ws key<R (h-of):=by have:=ne (h-of) (by lia);lia
     exact wpS_pure ⟨rfl,of,2*of+1,rfl,by lia,by lia,by lia,F⟩
  ·rintro c st' ⟨rfl,lo,of,rfl,I,g,o,d⟩;exact⟨rfl,lo,of,rfl,g,o,d,fun i t=>by lia⟩
  ·rintro c st' ⟨rfl,lo,of,rfl,g,o,d,B⟩;dsimp only;refine wpS_bind (M (h+1-min of (h+1)) (h-lo) (by lia) (by lia) B (fun i t G=>?_) (fun x c=>rfl) fun k c h1 h2 H y t=>?_)
   ·by_cases v:i=h-lo
    ·rw[v];exact d
    ·exact bg d (a (h-lo) i (by lia) G)
   ·obtain⟨U,Z,P⟩:=c;dsimp only at y t;subst y;subst t;exact wpS_pure (q P h1 h2 H)
end
noncomputable def Ic:Nat->StateT SortSt Sem Unit:=sortPriv%PySem.Builtin.setMinGallop
noncomputable def Jb:Array Keyed->Array Keyed->StateT SortSt Sem (Array Keyed):=sortPriv%PySem.Builtin.mergeLo
noncomputable def Jc:Array Keyed->Array Keyed->StateT SortSt Sem (Array Keyed):=sortPriv%PySem.Builtin.mergeHi
structure Sm (st st':SortSt):Prop where
 k:kindOf st'=kindOf st
 a:arrOf st'=arrOf st
 p:pendingOf st'=pendingOf st
 f:failedOf st'=failedOf st
theorem Sm.rfl{st:SortSt}:Sm st st:=⟨_root_.rfl,_root_.rfl,_root_.rfl,_root_.rfl⟩
theorem Sm.g{st st':SortSt}(h:Sm st st')(g:Nat):Sm st (SortSt.mk' (kindOf st') (arrOf st') (pendingOf st') g (failedOf st')):=⟨h.k,h.a,h.p,h.f⟩
noncomputable def Srt(ws:List dr)(xs:List Keyed):Prop:=xs.Pairwise fun p q=>rk ws p<rk ws q
noncomputable def lD(ws:List dr)(xs ys:List Keyed):Prop:=∀x∈xs,∀y∈ys,rk ws x<rk ws y
section
variable{ws:List dr}{a b out xs ys zs:List Keyed}{i j k:Nat}
theorem Srt.app(h1:Srt ws xs)(h2:Srt ws ys)(h:lD ws xs ys):Srt ws (xs++ys):=cw.mpr ⟨h1,h2,h⟩
theorem lD.app(h1:lD ws xs zs)(h2:lD ws ys zs):lD ws (xs++ys) zs:=fun x b y a=>(aG.mp b).elim (fun h=>h1 x h y a) fun h=>h2 x h y a
theorem lD.of(h:lD ws xs ys){a ys':List Keyed}(h1:∀x∈a,x∈xs)(h2:∀y∈ys',y∈ys):lD ws a ys':=fun x b y c=>h x (h1 x b) y (h2 y c)
theorem Srt.split(h:Srt ws a)(i:Nat):lD ws (a.take i) (a.drop i):=by
 have:=h;unfold Srt at this;rw[<- cG i a]at this;exact(cw.mp this).2.2
structure J0 (ws:List dr)(a b out:List Keyed)(i j:Nat):Prop where
 la:i<=a.length
 lb:j<=b.length
 len:out.length=i+j
 pm:(out++(a.drop i++b.drop j)).Perm (a++b)
 so:Srt ws out
 ba:lD ws out (a.drop i)
 bb:lD ws out (b.drop j)
theorem J0.mvA(h:J0 ws a b out i j)(d:Srt ws a)(hk:i+k<=a.length)(hb:lD ws ((a.drop i).take k) (b.drop j)):J0 ws a b (out++(a.drop i).take k) (i+k) j:=by
 have e:a.drop i=(a.drop i).take k++a.drop (i+k):=by rw[<- bD,cG]
 have c:Srt ws (a.drop i):=d.sublist (cA _ _);refine⟨hk,h.lb,?_,?_,h.so.app (c.sublist (aU _ _)) (h.ba.of (fun _ h=>h) fun _ h=>cK h),?_,h.bb.app hb⟩
 ·rw[lA1,h.len,aR,aV];lia
 ·have:=h.pm;rw[e,bG]at this;rw[bG];exact this
 ·refine lD.app (h.ba.of (fun _ h=>h) fun y f=>?_) ?_
  ·rw[e];exact mA1 _ f
  ·have:=c.split k
   rwa [bD]at this
theorem J0.swap(h:J0 ws a b out i j):J0 ws b a out j i:=⟨h.lb,h.la,by rw[h.len,Nat.add_comm],(List.Perm.append_left _ cQ).trans (h.pm.trans cQ),h.so,h.bb,h.ba⟩
theorem J0.mvB(h:J0 ws a b out i j)(c:Srt ws b)(hk:j+k<=b.length)(hb:lD ws ((b.drop j).take k) (a.drop i)):J0 ws a b (out++(b.drop j).take k) i (j+k):=(h.swap.mvA c hk hb).swap
theorem uD{x:Keyed}(h:a[i]?=some x):(a.drop i).take 1=[x]:=by
 have b:=(gE1.mp h).1;rw[bU b,cR,cS,(gE1.mp h).2]
noncomputable def Mgd(ws:List dr)(a b r:List Keyed):Prop:=r.Perm (a++b)/\Srt ws r
theorem J0.dn(h:J0 ws a b out i j)(c:Srt ws a)(d:j=b.length):Mgd ws a b (out++a.drop i++b.drop j):=by
 have e:b.drop j=[]:=by rw[d,List.drop_length]
 refine⟨by rw[bG];exact h.pm,?_⟩;rw[e,aN];exact h.so.app (c.sublist (cA _ _)) h.ba
theorem J0.ls(h:J0 ws a b out i j)(c:Srt ws a)(d:Srt ws b)(hb:lD ws (b.drop j) (a.drop i)):Mgd ws a b (out++b.drop j++a.drop i):=by
 refine⟨by rw[bG];exact(List.Perm.append_left _ cQ).trans h.pm,?_⟩;exact(h.so.app (d.sublist (cA _ _)) h.bb).app (c.sublist (cA _ _)) (h.ba.app hb)
theorem Srt.drop_gt(h:Srt ws a){x:Keyed}(hx:a[i]?=some x):∀y∈a.drop i,rk ws x<=rk ws y:=fun y b=>by
 have d:=(gE1.mp hx).1;rw[bU d,(gE1.mp hx).2]at b;have c:Srt ws (a.drop i):=h.sublist (cA _ _);rw[bU d,(gE1.mp hx).2]at c;rcases aF.mp b with rfl|b
 ·exact nR1 _
 ·exact aD ((ca.mp c).1 y b)
end
section
variable{prog:dz}{w:dB}{A:dA}{E:dr->dw->Prop}{s:dw}{κ:SortKind}{ws:List dr}{a₀:Array Keyed}
theorem py{st:SortSt}{g:Nat}{Q:Unit->SortSt->Prop}(h:Q () (SortSt.mk' (kindOf st) (arrOf st) (pendingOf st) g (failedOf st))):wpS (model prog w) A E s (Ic g) Q st:=wpS_modify h
theorem eX{st:SortSt}{arr:Array Keyed}{i:Nat}{p:Keyed}{Q:Keyed->SortSt->Prop}(h:arr[i]?=some p)(q:Q p st):wpS (model prog w) A E s (elem' arr i) Q st:=by
 rw[elem'_eq,h];exact wpS_pure q
structure MC (ws:List dr)(a₀ a b:Array Keyed):Prop where
 ma:∀p∈a,p∈a₀
 mb:∀p∈b,p∈a₀
 sa:Srt ws a.toList
 sb:Srt ws b.toList
 ne:∀p∈a,∀q∈b,rk ws p≠rk ws q
 pa:0<a.size
 pb:0<b.size
 last:∀x,a[a.size-1]?=some x -> ∀q∈b,rk ws q<rk ws x
 head:∀x,b[0]?=some x -> ∀q∈a,rk ws x<rk ws q
theorem MC.galA(C:kY prog w A s κ ws a₀){a b:Array Keyed}(M:MC ws a₀ a b){st:SortSt}{l:Bool}{ia ib:Nat}{y:Keyed}{Q:Option Nat->SortSt->Prop}(hk:kindOf st=κ)(hy:b[ib]? = some y)(h:ia<a.size)(q:∀k,ia+k<=a.size->(∀x∈(a.toList.drop ia).take k,rk ws x<rk ws y)->(∀x∈a.toList.drop (ia+k),rk ws y<rk ws x)->Q (some k) st):wpS (model prog w) A E s (Fx l y a ia (a.size-ia) 0) Q st:=by
 have e:y∈b:=cf hy;refine vw (R:=fun i=>(a[ia+i]?.map (rk ws)).getD 0) C hk (M.mb y e) (by lia) (fun i hi=>?_) (fun i j n o=>?_) fun k h1 h2 m=>q k (by lia) (fun x g=>?_) fun x g=>?_
 ·have c:ia+i<a.size:=by lia
  refine⟨a[ia+i],aG1 c,M.ma _ (cT c),by rw[aG1 c];rfl,?_⟩;rw[aG1 c];exact M.ne _ (cT c) _ e
 ·have c:ia+i<a.size:=by lia
  have f:ia+j<a.size:=by lia
  rw[aG1 c,aG1 f];have:=cq.mp M.sa (ia+i) (ia+j) (by simpa using c) (by simpa using f) (by lia);simpa using this
 ·obtain⟨i,hi⟩:=bo g;have d:i<k:=by have:=(gE1.mp hi).1;rw[aR]at this;lia
  rw[aT d,cy,aT1]at hi;have:=h2 i d;rw[hi]at this;exact this
 ·obtain⟨i,hi⟩:=bo g;rw[cy,aT1]at hi;have c:=(Array.getElem?_eq_some_iff.mp hi).1;have:=m (k+i) (by lia) (by lia);rw[<- bj,hi]at this;exact this
theorem MC.galB(C:kY prog w A s κ ws a₀){a b:Array Keyed}(M:MC ws a₀ a b){st:SortSt}{l:Bool}{ia ib:Nat}{y:Keyed}{Q:Option Nat->SortSt->Prop}(hk:kindOf st=κ)(hy:a[ia]? = some y)(m:ib<b.size)(q:∀k,ib+k<=b.size->(∀x∈(b.toList.drop ib).take k,rk ws x<rk ws y)->(∀x∈b.toList.drop (ib+k),rk ws y<rk ws x)->Q (some k) st):wpS (model prog w) A E s (Fx l y b ib (b.size-ib) 0) Q st:=by
 have e:y∈a:=cf hy;refine vw (R:=fun i=>(b[ib+i]?.map (rk ws)).getD 0) C hk (M.ma y e) (by lia) (fun i hi=>?_) (fun i j n o=>?_) fun k h1 h2 h=>q k (by lia) (fun x g=>?_) fun x g=>?_
 ·have c:ib+i<b.size:=by lia
  refine⟨b[ib+i],aG1 c,M.mb _ (cT c),by rw[aG1 c];rfl,?_⟩;rw[aG1 c];exact(M.ne _ e _ (cT c)).symm
 ·have c:ib+i<b.size:=by lia
  have f:ib+j<b.size:=by lia
  rw[aG1 c,aG1 f];have:=cq.mp M.sb (ib+i) (ib+j) (by simpa using c) (by simpa using f) (by lia);simpa using this
 ·obtain⟨i,hi⟩:=bo g;have d:i<k:=by have:=(gE1.mp hi).1;rw[aR]at this;lia
  rw[aT d,cy,aT1]at hi;have:=h2 i d;rw[hi]at this;exact this
 ·obtain⟨i,hi⟩:=bo g;rw[cy,aT1]at hi;have c:=(Array.getElem?_eq_some_iff.mp hi).1;have:=h (k+i) (by lia) (by lia);rw[<- bj,hi]at this;exact this
end
theorem kk(a:Array Keyed)(i:Nat):(a.extract i a.size).toList=a.toList.drop i:=by
 rw[cv,cU,b8 (by simp)]
theorem sd(a:Array Keyed)(i k:Nat):(a.extract i (i+k)).toList=(a.toList.drop i).take k:=by
 rw[cv,cU,br]
section
variable{prog:dz}{w:dB}{A:dA}{E:dr->dw->Prop}{s:dw}{κ:SortKind}{ws:List dr}{a₀:Array Keyed}
theorem GB(C:kY prog w A s κ ws a₀){a b:Array Keyed}(M:MC ws a₀ a b){st:SortSt}{Q:Array Keyed->SortSt->Prop}(hk:kindOf st=κ)(q:∀r st',Sm st st'->Mgd ws a.toList b.toList r.toList->Q r st'):wpS (model prog w) A E s (Jb a b) Q st:=by
 have dn:∀{out:Array Keyed} {ia ib:Nat},J0 ws a.toList b.toList out.toList ia ib->ib=b.size->Mgd ws a.toList b.toList (out++a.extract ia a.size++b.extract ib b.size).toList:=fun{out ia ib} h e=>by
  rw[cr,cr,kk,kk];exact h.dn M.sa (by rw[e];simp)
 have lastX:∀{ia:Nat},ia+1=a.size -> ∀y∈a.toList.drop ia,∀q∈b,rk ws q<rk ws y:=fun{ia} e y H q hq=>by
  have hl:ia<a.toList.length:=by rw[aJ];lia
  rw[bU hl,List.drop_of_length_le (by rw[aJ];lia)]at H;have:y=a.toList[ia]:=by simpa using H
  exact M.last y (by rw[this,show a.size-1=ia by lia];simp) q hq
 have ls:∀{out:Array Keyed} {ia ib:Nat},J0 ws a.toList b.toList out.toList ia ib->ia+1=a.size->Mgd ws a.toList b.toList (out++b.extract ib b.size++a.extract ia a.size).toList:=fun{out ia ib} h e=>by
  rw[cr,cr,kk,kk];exact h.ls M.sa M.sb fun x p y H=>lastX e y H x (aM.mp (cM p))
 have O:∀{i:Nat},i<a.size -> ∃x,a[i]?=some x/\x∈a/\a.toList[i]?=some x:=fun{i} h=>⟨a[i],aG1 h,cT h,by rw[aT1,aG1 h]⟩;have N:∀{i:Nat},i<b.size -> ∃x,b[i]?=some x/\x∈b/\b.toList[i]?=some x:=fun{i} h=>⟨b[i],aG1 h,cT h,by rw[aT1,aG1 h]⟩;have D:∀{out:Array Keyed} {ia ib:Nat} {y:Keyed},J0 ws a.toList b.toList out.toList ia ib->b.toList[ib]?=some y->(∀x∈a.toList.drop ia,rk ws y<rk ws x)->J0 ws a.toList b.toList (out.push y).toList ia (ib+1):=fun{out ia ib y} h H hb=>by
  have:=h.mvB (k:=1) M.sb (by have:=(gE1.mp H).1;lia) (by rw[uD H];intro x p z Z;rw[cV.mp p];exact hb z Z)
  rwa [uD H,<- cu]at this
 have S:∀{out:Array Keyed} {ia ib:Nat} {y:Keyed},J0 ws a.toList b.toList out.toList ia ib->a.toList[ia]?=some y->(∀x∈b.toList.drop ib,rk ws y<rk ws x)->J0 ws a.toList b.toList (out.push y).toList (ia+1) ib:=fun{out ia ib y} h H hb=>by
  have:=h.mvA (k:=1) M.sa (by have:=(gE1.mp H).1;lia) (by rw[uD H];intro x p z Z;rw[cV.mp p];exact hb z Z)
  rwa [uD H,<- cu]at this
 obtain⟨b0,hb0,mb0,lb0⟩:=N M.pb;unfold Jb;refine wpS_bind (wpS_lift (wpAny_rule ⟨rfl,?_⟩));refine wpS_bind (eX hb0 ?_);have j0:J0 ws a.toList b.toList (#[]:Array Keyed).toList 0 0:=⟨bh _,bh _,rfl,.refl _,.nil,fun x p=>(by cases p),fun x p=>(by cases p)⟩;have j1:J0 ws a.toList b.toList (#[b0]:Array Keyed).toList 0 (0+1):=D j0 lb0 fun x p=>M.head b0 hb0 x (aM.mp (cM p));clear j0;by_cases z:1=b.size
 ·rw[if_pos (by simpa using z)];exact wpS_pure (q _ _ .rfl (dn j1 z))
 rw[if_neg (by simpa using z)];by_cases z2:0+1=a.size
 ·rw[if_pos (by simpa using z2)];exact wpS_pure (q _ _ .rfl (ls j1 z2))
 rw[if_neg (by simpa using z2)];have hpa:=M.pa;have hpb:=M.pb;refine wpS_bind (wpS_get ?_);refine wpS_bind (wpS_mono (wpS_forRange (fun x c st'=>Sm st st' /\ ∃out ia ib g,c=(none,out,ia,ib,g)/\J0 ws a.toList b.toList out.toList ia ib/\ia+1<a.size/\ib<b.size/\x+1<=out.toList.length)
  (Q:=fun c st'=>Sm st st' /\ ∃r,c.1=some r/\Mgd ws a.toList b.toList r.toList) ?_ ?_ ⟨.rfl,_,_,_,_,rfl,j1,by lia,by lia,nR1 _⟩) ?_)
 ·rintro x c st' _ p ⟨hs,out,ia,ib,g,rfl,t,l,j,hn⟩;dsimp only;refine wpS_bind (wpS_mono (wpS_forRange (fun y c n=>Sm st n /\ ∃ d ia ib I J,c=(none,d,ia,ib,I,J)/\J0 ws a.toList b.toList d.toList ia ib/\ia+1<a.size/\ib<b.size/\out.toList.length+y<=d.toList.length)
   (Q:=fun c n=>Sm st n/\((∃r,c.1=some r/\Mgd ws a.toList b.toList r.toList) \/ ∃d ia ib I J,c=(none,d,ia,ib,I,J)/\J0 ws a.toList b.toList d.toList ia ib/\ia+1<a.size/\ib<b.size/\out.toList.length+1<=d.toList.length)) ?_ ?_ ⟨hs,_,_,_,_,_,rfl,t,l,j,nR1 _⟩) ?_)
  ·rintro y c n _ H ⟨m,d,ia,ib,I,J,rfl,t,l,j,hn2⟩;dsimp only;obtain⟨u,hu,mu,lu⟩:=N j;obtain⟨v,Y,mv,lv⟩:=O (show ia<a.size by lia);refine wpS_bind (eX hu (wpS_bind (eX Y (wpS_bind (C.lt2 (m.k.trans hk) (M.mb u mu) (M.ma v mv) (M.ne v mv u mu).symm ?_)))));by_cases z3:rk ws u<rk ws v
   ·simp only[z3,decide_true,if_true];refine wpS_bind (eX hu ?_);have B:=D t lu fun x p=>nL1 z3 (M.sa.drop_gt lv x p);have hl:(d.push u).toList.length=d.toList.length+1:=by simp
    by_cases G:ib+1=b.size
    ·rw[if_pos (by simpa using G)];exact wpS_pure ⟨m,.inl ⟨_,rfl,dn B G⟩⟩
    ·rw[if_neg (by simpa using G)];split
     ·exact wpS_pure ⟨m,.inr ⟨_,_,_,_,_,rfl,B,l,by lia,by lia⟩⟩
     ·exact wpS_pure ⟨m,_,_,_,_,_,rfl,B,l,by lia,by lia⟩
   ·simp only[z3,decide_false,bF1,if_false];have z5:rk ws v<rk ws u:=by have:=M.ne v mv u mu;lia
    refine wpS_bind (eX Y ?_);have B:=S t lv fun x p=>nL1 z5 (M.sb.drop_gt lu x p);have hl:(d.push v).toList.length=d.toList.length+1:=by simp
    by_cases G:ia+1+1=a.size
    ·rw[if_pos (by simpa using G)];exact wpS_pure ⟨m,.inl ⟨_,rfl,ls B G⟩⟩
    ·rw[if_neg (by simpa using G)];split
     ·exact wpS_pure ⟨m,.inr ⟨_,_,_,_,_,rfl,B,by lia,j,by lia⟩⟩
     ·exact wpS_pure ⟨m,_,_,_,_,_,rfl,B,by lia,j,by lia⟩
  ·rintro c n ⟨m,d,ia,ib,I,J,rfl,t,l,j,hn2⟩;exfalso;have:=t.len;lia
  ·rintro c n ⟨m,⟨r,V,hm⟩|⟨d,ia,ib,I,J,rfl,t,l,j,hn2⟩⟩
   ·obtain⟨c1,c2⟩:=c;dsimp only at V;subst V;exact wpS_pure ⟨m,r,rfl,hm⟩
   dsimp only;refine wpS_bind (wpS_lift (wpAny_rule ⟨rfl,?_⟩));refine wpS_bind (wpS_mono (wpS_forRange (fun y c n=>Sm st n /\ ∃f ia ib g I J,c=(none,f,ia,ib,g,I,J)/\J0 ws a.toList b.toList f.toList ia ib/\ia+1<a.size/\ib<b.size/\d.toList.length+y<=f.toList.length)
    (Q:=fun c n=>Sm st n/\((∃r,c.1=some r/\Mgd ws a.toList b.toList r.toList) \/ ∃f ia ib g I J,c=(none,f,ia,ib,g,I,J)/\J0 ws a.toList b.toList f.toList ia ib/\ia+1<a.size/\ib<b.size/\d.toList.length<=f.toList.length)) ?_ ?_ ⟨m,_,_,_,_,_,_,rfl,t,l,j,nR1 _⟩) ?_)
   ·rintro y c L _ H ⟨K,f,ia,ib,g,I,J,rfl,t,l,j,hn3⟩;dsimp only;obtain⟨u,hu,mu,lu⟩:=N j;refine(fun(W:∀g':Nat,(?T:Nat->Prop) g')=>?go) ?mn
    case go=>
     by_cases hg:g>1
     ·rw[if_pos hg];generalize g-1=g';exact W g'
     ·rw[if_neg hg];exact W g
    intro g';refine wpS_bind (py (wpS_bind (eX hu (wpS_bind (M.galA (ia:=ia) C (K.k.trans hk) hu (by lia) fun k h1 h2 h3=>?_)))));have F:=K.g g';generalize SortSt.mk' (kindOf L) (arrOf L) (pendingOf L) g' (failedOf L)=st4 at *
    dsimp only;refine(fun(T:∀(o:Array Keyed) (i:Nat),J0 ws a.toList b.toList o.toList i ib->i+1<a.size->(∀x∈a.toList.drop i,rk ws u<rk ws x)->d.toList.length+y<=o.toList.length->(?T2:Array Keyed->Nat->Prop) o i)=>?go2) ?mn2
    case go2=>
     by_cases R:k>0
     ·rw [if_pos R];have B:=t.mvA (k:=k) M.sa (by rw [aJ];exact h1) fun x p z Z=>nL1 (h2 x p) (M.sb.drop_gt lu z Z);rw [<- sd,<- cr] at B;have hlt:ia+k≠a.size:=fun e=>by
       obtain⟨v,Y,mv,lv⟩:=O (show a.size-1<a.size by lia);have h4:=M.last v Y u mu;have h5:=h2 v (gM1 (i:=a.size-1-ia) (by rw[aT (by lia),cy,show ia+(a.size-1-ia)=a.size-1 by lia];exact lv));lia
      have hl2:d.toList.length+y<=(f++a.extract ia (ia+k)).toList.length:=by rw[cr,lA1];lia
      by_cases G:ia+k+1=a.size
      ·rw[if_pos (by simpa using G)];exact wpS_pure ⟨F,.inl ⟨_,rfl,ls B G⟩⟩
      ·rw[if_neg (by simpa using G),if_neg (by simpa using hlt)];have h6:ia+k+1<a.size:=by lia
       generalize f++a.extract ia (ia+k)=o at B hl2 ⊢;have h8:=h3;generalize ia+k=i at B h6 h8 ⊢;exact T o i B h6 h8 hl2
     ·rw[if_neg R];have e:k=0:=by lia
      subst e;exact T f ia t l h3 hn3
    intro o i B hi hgt hlo;refine wpS_bind (eX hu ?_);have j2:=D B lu hgt;have hl2:(o.push u).toList.length=o.toList.length+1:=by simp
    by_cases G:ib+1=b.size
    ·rw[if_pos (by simpa using G)];exact wpS_pure ⟨F,.inl ⟨_,rfl,dn j2 G⟩⟩
    rw[if_neg (by simpa using G)];obtain⟨v,Y,mv,lv⟩:=O (show i<a.size by lia);refine wpS_bind (eX Y (wpS_bind (M.galB (ib:=ib+1) C (F.k.trans hk) Y (by lia) fun U e1 e2 e3=>?_)));dsimp only;generalize o.push u=o1 at *
    generalize ib+1=j1' at *
    refine(fun(P:∀(X:Array Keyed) (jb:Nat),J0 ws a.toList b.toList X.toList i jb->jb<b.size->(∀x∈b.toList.drop jb,rk ws v<rk ws x)->o1.toList.length<=X.toList.length->(?T3:Array Keyed->Nat->Prop) X jb)=>?go3) ?mn3
    case go3=>
     by_cases R:U>0
     ·rw[if_pos R];have j3:=j2.mvB (k:=U) M.sb (by rw[aJ];exact e1) fun x p z Z=>nL1 (e2 x p) (M.sa.drop_gt lv z Z);rw[<- sd,<- cr]at j3;have hl3:o1.toList.length<=(o1++b.extract j1' (j1'+U)).toList.length:=by rw[cr,lA1];lia
      by_cases z5:j1'+U=b.size
      ·rw[if_pos (by simpa using z5)];exact wpS_pure ⟨F,.inl ⟨_,rfl,dn j3 z5⟩⟩
      ·rw[if_neg (by simpa using z5)];have h7:j1'+U<b.size:=by lia
       generalize o1++b.extract j1' (j1'+U)=X at j3 hl3 ⊢;have h8:=e3;generalize j1'+U=jb at j3 h7 h8 ⊢;exact P X jb j3 h7 h8 hl3
     ·rw[if_neg R];have e:U=0:=by lia
      subst e;exact P o1 j1' j2 (by have:=j2.lb;rw[aJ]at this;lia) e3 (nR1 _)
    intro X jb j3 hjb hgt3 hl3;refine wpS_bind (eX Y ?_);have j4:=S j3 lv hgt3;have hl4:(X.push v).toList.length=X.toList.length+1:=by simp
    by_cases z6:i+1+1=a.size
    ·rw[if_pos (by simpa using z6)];exact wpS_pure ⟨F,.inl ⟨_,rfl,ls j4 z6⟩⟩
    rw[if_neg (by simpa using z6)];split
    ·exact wpS_pure ⟨F,.inr ⟨_,_,_,_,_,_,rfl,j4,by lia,hjb,by lia⟩⟩
    ·exact wpS_pure ⟨F,_,_,_,_,_,_,rfl,j4,by lia,hjb,by lia⟩
   ·rintro c L ⟨K,f,ia,ib,g,I,J,rfl,t,l,j,hn3⟩;exfalso;have:=t.len;lia
   ·rintro c L ⟨K,⟨r,V,hm⟩|⟨f,ia,ib,g,I,J,rfl,t,l,j,hn3⟩⟩
    ·obtain⟨c1,c2⟩:=c;dsimp only at V;subst V;exact wpS_pure ⟨K,r,rfl,hm⟩
    dsimp only;refine wpS_bind (py (wpS_pure ⟨K.g _,_,_,_,_,rfl,t,l,j,by lia⟩))
 ·rintro c st' ⟨hs,out,ia,ib,g,rfl,t,l,j,hn⟩;exfalso;have:=t.len;lia
 ·rintro c st' ⟨hs,r,V,hm⟩;obtain⟨c1,c2⟩:=c;dsimp only at V;subst V;exact wpS_pure (q r _ hs hm)
end
section
variable{ws:List dr}{a b out xs ys zs:List Keyed}{i j k t:Nat}
theorem lD.to(h1:lD ws xs ys)(h2:lD ws xs zs):lD ws xs (ys++zs):=fun x a y b=>(aG.mp b).elim (fun h=>h1 x a y h) fun h=>h2 x a y h
structure K0 (ws:List dr)(a b out:List Keyed)(i j:Nat):Prop where
 la:i<=a.length
 lb:j<=b.length
 len:out.length+(i+j)=a.length+b.length
 pm:(a.take i++b.take j++out.reverse).Perm (a++b)
 so:Srt ws out.reverse
 ba:lD ws (a.take i) out
 bb:lD ws (b.take j) out
theorem K0.swap(h:K0 ws a b out i j):K0 ws b a out j i:=⟨h.lb,h.la,by have:=h.len;lia,((cQ).append_right _).trans (h.pm.trans cQ),h.so,h.bb,h.ba⟩
theorem K0.mvA(h:K0 ws a b out i j)(k:Srt ws a)(hk:t<=i)(hb:lD ws (b.take j) ((a.take i).drop t)):K0 ws a b (out++((a.take i).drop t).reverse) t j:=by
 have e:a.take i=a.take t++(a.take i).drop t:=by
  have:=(cG t (a.take i)).symm
  rwa [List.take_take,bA hk]at this
 have g:Srt ws (a.take i):=k.sublist (aU _ _);have l:=h.la;have len:=h.len;have sp:=g.split t;rw[List.take_take,bA hk]at sp;refine⟨by lia,h.lb,?_,?_,?_,?_,?_⟩
 ·rw[lA1,List.length_reverse,aV,aR];lia
 ·rw[List.reverse_append,List.reverse_reverse];refine List.Perm.trans ?_ h.pm;generalize (a.take i).drop t=c at e;rw[e,bG,bG,bG];refine List.Perm.append_left _ ?_;rw[<- bG,<- bG];exact List.perm_append_comm.append_right _
 ·rw[List.reverse_append,List.reverse_reverse];exact Srt.app (g.sublist (cA _ _)) h.so fun x d y f=>h.ba x (cM d) y (cW.mp f)
 ·exact(h.ba.of (fun x d=>by rw[e];exact aH _ d) fun _ h=>h).to fun x d y f=>sp x d y (cW.mp f)
 ·exact h.bb.to fun x d y f=>hb x d y (cW.mp f)
theorem K0.mvB(h:K0 ws a b out i j)(c:Srt ws b)(hk:t<=j)(hb:lD ws (a.take i) ((b.take j).drop t)):K0 ws a b (out++((b.take j).drop t).reverse) i t:=(h.swap.mvA c hk hb).swap
theorem CP{x:Keyed}(h:a[i]?=some x):(a.take (i+1)).drop i=[x]:=by
 have b:=(gE1.mp h).1;rw[cD,h,List.drop_append_of_le_length (by rw[aR];lia),List.drop_of_length_le (by rw[aR];lia)];rfl
theorem K0.dn(h:K0 ws a b out i j)(c:Srt ws b)(hi:i=0):Mgd ws a b (a.take i++b.take j++out.reverse):=by
 refine⟨h.pm,?_⟩;rw[hi,cS,cX];exact Srt.app (c.sublist (aU _ _)) h.so fun x e y d=>h.bb x e y (cW.mp d)
theorem K0.fs(h:K0 ws a b out i j)(e:Srt ws a)(f:Srt ws b)(hb:lD ws (b.take j) (a.take i)):Mgd ws a b (b.take j++a.take i++out.reverse):=by
 refine⟨(List.perm_append_comm.append_right _).trans h.pm,?_⟩;exact(Srt.app (f.sublist (aU _ _)) (e.sublist (aU _ _)) hb).app h.so (lD.app (fun x d y c=>h.bb x d y (cW.mp c)) fun x d y c=>h.ba x d y (cW.mp c))
theorem Srt.take_lt(h:Srt ws a){x:Keyed}(hx:a[i]?=some x):∀y∈a.take (i+1),rk ws y<=rk ws x:=fun y b=>by
 rw[cD,hx]at b;rcases aG.mp b with b|b
 ·have c:=(gE1.mp hx).1;exact aD (h.split i y b x (by rw[bU c,(gE1.mp hx).2];exact mS1))
 ·have:y=x:=by simpa using b
  rw[this];exact nR1 _
end
theorem vA(a:Array Keyed)(i:Nat):(a.extract 0 i).toList=a.toList.take i:=by
 rw[cv,cU,bX,Nat.sub_zero]
theorem CN{a:Array Keyed}{i t:Nat}(h:t<=i):(a.extract t i).reverse.toList=((a.toList.take i).drop t).reverse:=by
 rw[cY,cv,cU,List.drop_take]
section
variable{prog:dz}{w:dB}{A:dA}{E:dr->dw->Prop}{s:dw}{κ:SortKind}{ws:List dr}{a₀:Array Keyed}
theorem GS(C:kY prog w A s κ ws a₀){a:Array Keyed}{st:SortSt}{l:Bool}{n:Nat}{y:Keyed}{Q:Option Nat->SortSt->Prop}(hk:kindOf st=κ)(m:∀ p∈a,p∈a₀)(r:Srt ws a.toList)(hy:y∈a₀)(e:∀ p∈a,rk ws p≠rk ws y)(hn:0<n)(g:n<=a.size)(q:∀k,k<=n->(∀x∈a.toList.take k,rk ws x<rk ws y)->(∀x∈(a.toList.take n).drop k,rk ws y<rk ws x)->Q (some k) st):wpS (model prog w) A E s (Fx l y a 0 n (n-1)) Q st:=by
 refine vw (R:=fun i=>(a[0+i]?.map (rk ws)).getD 0) C hk hy (by lia) (fun i hi=>?_) (fun i j o t=>?_) fun k h1 h2 h=>q k h1 (fun x f=>?_) fun x f=>?_
 ·have b:0+i<a.size:=by lia
  refine⟨a[0+i],aG1 b,m _ (cT b),by rw[aG1 b];rfl,?_⟩;rw[aG1 b];exact e _ (cT b)
 ·have b:0+i<a.size:=by lia
  have d:0+j<a.size:=by lia
  rw[aG1 b,aG1 d];have:=cq.mp r (0+i) (0+j) (by simpa using b) (by simpa using d) (by lia);simpa using this
 ·obtain⟨i,hi⟩:=bo f;have c:i<k:=by have:=(gE1.mp hi).1;rw[aR]at this;lia
  rw[aT c,aT1]at hi;have:=h2 i c;rw[bN,hi]at this;exact this
 ·obtain⟨i,hi⟩:=bo f;have b:=(gE1.mp hi).1;rw[aV,aR,aJ]at b;rw[cy,aT (by lia),aT1]at hi;have:=h (k+i) (by lia) (by lia);rw[bN,hi]at this;exact this
theorem GC(C:kY prog w A s κ ws a₀){a b:Array Keyed}(M:MC ws a₀ a b){st:SortSt}{Q:Array Keyed->SortSt->Prop}(hk:kindOf st=κ)(q:∀r st',Sm st st'->Mgd ws a.toList b.toList r.toList->Q r st'):wpS (model prog w) A E s (Jc a b) Q st:=by
 have dn:∀{out:Array Keyed} {na nb:Nat},K0 ws a.toList b.toList out.toList na nb->na=0->Mgd ws a.toList b.toList (a.extract 0 na++b.extract 0 nb++out.reverse).toList:=fun{out na nb} h e=>by
  rw[cr,cr,vA,vA,cY];exact h.dn M.sb e
 have firstX:∀{nb:Nat},nb=1 -> ∀y∈b.toList.take nb,∀q∈a,rk ws y<rk ws q:=fun{nb} e y K q hq=>by
  subst e;have hl:0<b.toList.length:=by rw[aJ];exact M.pb
  have:b.toList.take 1=[b.toList[0]]:=by
   conv=>lhs;rw[cD,cS,gG1 hl]
   rfl
  rw[this]at K;rw[cV.mp K];exact M.head _ (by simp) q hq
 have fs:∀{out:Array Keyed} {na nb:Nat},K0 ws a.toList b.toList out.toList na nb->nb=1->Mgd ws a.toList b.toList (b.extract 0 nb++a.extract 0 na++out.reverse).toList:=fun{out na nb} h e=>by
  rw[cr,cr,vA,vA,cY];exact h.fs M.sa M.sb fun x B y K=>firstX e x B y (aM.mp (cK K))
 have S:∀{i:Nat},i<a.size -> ∃x,a[i]?=some x/\x∈a/\a.toList[i]?=some x:=fun{i} h=>⟨a[i],aG1 h,cT h,by rw[aT1,aG1 h]⟩;have R:∀{i:Nat},i<b.size -> ∃x,b[i]?=some x/\x∈b/\b.toList[i]?=some x:=fun{i} h=>⟨b[i],aG1 h,cT h,by rw[aT1,aG1 h]⟩;have X:∀{out:Array Keyed} {na nb:Nat} {y:Keyed},K0 ws a.toList b.toList out.toList na nb->0<nb->b.toList[nb-1]?=some y->(∀x∈a.toList.take na,rk ws x<rk ws y)->K0 ws a.toList b.toList (out.push y).toList na (nb-1):=fun{out na nb y} h h0 K hb=>by
  have e:=CP K;rw[show nb-1+1=nb by lia]at e;have:=h.mvB (t:=nb-1) M.sb (by lia) (by rw[e];intro x B z hz;rw[cV.mp hz];exact hb x B);rw[e,List.reverse_singleton,<- cu]at this;exact this
 have H:∀{out:Array Keyed} {na nb:Nat} {y:Keyed},K0 ws a.toList b.toList out.toList na nb->0<na->a.toList[na-1]?=some y->(∀x∈b.toList.take nb,rk ws x<rk ws y)->K0 ws a.toList b.toList (out.push y).toList (na-1) nb:=fun{out na nb y} h h0 K hb=>by
  have e:=CP K;rw[show na-1+1=na by lia]at e;have:=h.mvA (t:=na-1) M.sa (by lia) (by rw[e];intro x B z hz;rw[cV.mp hz];exact hb x B);rw[e,List.reverse_singleton,<- cu]at this;exact this
 have U:∀{out:Array Keyed} {na nb:Nat},K0 ws a.toList b.toList out.toList na nb->out.toList.length+(na+nb)=a.size+b.size:=fun{out na nb} h=>by have:=h.len;rwa [aJ (xs:=a),aJ (xs:=b)]at this
 have hpa:=M.pa;have hpb:=M.pb;obtain⟨a1,ha1,ma1,la1⟩:=S (show a.size-1<a.size by lia);have upA:∀{n:Nat} {v:Keyed},0<n->a.toList[n-1]?=some v -> ∀x∈a.toList.take n,rk ws x<=rk ws v:=fun{n v} h hv x B=>M.sa.take_lt hv x (by rw[show n-1+1=n by lia];exact B);have upB:∀{n:Nat} {v:Keyed},0<n->b.toList[n-1]?=some v -> ∀x∈b.toList.take n,rk ws x<=rk ws v:=fun{n v} h hv x B=>M.sb.take_lt hv x (by rw[show n-1+1=n by lia];exact B);unfold Jc;refine wpS_bind (wpS_lift (wpAny_rule ⟨rfl,?_⟩));refine wpS_bind (eX ha1 ?_);have j0:K0 ws a.toList b.toList (#[]:Array Keyed).toList a.size b.size:=⟨by simp,by simp,by simp,by rw[<- aJ,<- aJ,bY,bY];simp,.nil,fun x B y K=>(by cases K),fun x B y K=>(by cases K)⟩;have j1:K0 ws a.toList b.toList (#[a1]:Array Keyed).toList (a.size-1) b.size:=H j0 M.pa la1 fun x B=>M.last a1 ha1 x (aM.mp (cK B));clear j0;by_cases z:a.size-1=0
 ·rw[if_pos (by simpa using z)];exact wpS_pure (q _ _ .rfl (dn j1 z))
 rw[if_neg (by simpa using z)];by_cases z2:b.size=1
 ·rw[if_pos (by simpa using z2)];exact wpS_pure (q _ _ .rfl (fs j1 z2))
 rw[if_neg (by simpa using z2)];refine wpS_bind (wpS_get ?_);refine wpS_bind (wpS_mono (wpS_forRange (fun x c st'=>Sm st st' /\ ∃na nb out g,c=(none,na,nb,out,g)/\K0 ws a.toList b.toList out.toList na nb/\0<na/\1<nb/\x+1<=out.toList.length)
  (Q:=fun c st'=>Sm st st' /\ ∃r,c.1=some r/\Mgd ws a.toList b.toList r.toList) ?_ ?_ ⟨.rfl,_,_,_,_,rfl,j1,by lia,by lia,nR1 _⟩) ?_)
 ·rintro x c st' _ B ⟨hs,na,nb,out,g,rfl,F,j,l,hn⟩;dsimp only;refine wpS_bind (wpS_mono (wpS_forRange (fun y c D=>Sm st D /\ ∃ na nb d L N,c=(none,na,nb,d,L,N)/\K0 ws a.toList b.toList d.toList na nb/\0<na/\1<nb/\out.toList.length+y<=d.toList.length)
   (Q:=fun c D=>Sm st D/\((∃r,c.1=some r/\Mgd ws a.toList b.toList r.toList) \/ ∃na nb d L N,c=(none,na,nb,d,L,N)/\K0 ws a.toList b.toList d.toList na nb/\0<na/\1<nb/\out.toList.length+1<=d.toList.length)) ?_ ?_ ⟨hs,_,_,_,_,_,rfl,F,j,l,nR1 _⟩) ?_)
  ·rintro y c D _ K ⟨m,na,nb,d,L,N,rfl,F,j,l,hn2⟩;dsimp only;have Z:=F.la;have lnb:=F.lb;rw[aJ]at Z lnb;obtain⟨u,hu,mu,lu⟩:=R (show nb-1<b.size by lia);obtain⟨v,hv,mv,lv⟩:=S (show na-1<a.size by lia);refine wpS_bind (eX hu (wpS_bind (eX hv (wpS_bind (C.lt2 (m.k.trans hk) (M.mb u mu) (M.ma v mv) (M.ne v mv u mu).symm ?_)))));by_cases z3:rk ws u<rk ws v
   ·simp only[z3,decide_true,if_true];refine wpS_bind (eX hv ?_);have G:=H F j lv fun x B=>bH (upB (by lia) lu x B) z3;have hl:(d.push v).toList.length=d.toList.length+1:=by simp
    by_cases J:na-1=0
    ·rw[if_pos (by simpa using J)];exact wpS_pure ⟨m,.inl ⟨_,rfl,dn G J⟩⟩
    ·rw[if_neg (by simpa using J)];split
     ·exact wpS_pure ⟨m,.inr ⟨_,_,_,_,_,rfl,G,by lia,l,by lia⟩⟩
     ·exact wpS_pure ⟨m,_,_,_,_,_,rfl,G,by lia,l,by lia⟩
   ·simp only[z3,decide_false,bF1,if_false];have z5:rk ws v<rk ws u:=by have:=M.ne v mv u mu;lia
    refine wpS_bind (eX hu ?_);have G:=X F (by lia) lu fun x B=>bH (upA j lv x B) z5;have hl:(d.push u).toList.length=d.toList.length+1:=by simp
    by_cases J:nb-1=1
    ·rw[if_pos (by simpa using J)];exact wpS_pure ⟨m,.inl ⟨_,rfl,fs G J⟩⟩
    ·rw[if_neg (by simpa using J)];split
     ·exact wpS_pure ⟨m,.inr ⟨_,_,_,_,_,rfl,G,j,by lia,by lia⟩⟩
     ·exact wpS_pure ⟨m,_,_,_,_,_,rfl,G,j,by lia,by lia⟩
  ·rintro c D ⟨m,na,nb,d,L,N,rfl,F,j,l,hn2⟩;exfalso;have:=U F;lia
  ·rintro c D ⟨m,⟨r,hr,hm⟩|⟨na,nb,d,L,N,rfl,F,j,l,hn2⟩⟩
   ·obtain⟨c1,c2⟩:=c;dsimp only at hr;subst hr;exact wpS_pure ⟨m,r,rfl,hm⟩
   dsimp only;refine wpS_bind (wpS_lift (wpAny_rule ⟨rfl,?_⟩));refine wpS_bind (wpS_mono (wpS_forRange (fun y c D=>Sm st D /\ ∃na nb f g L N,c=(none,na,nb,f,g,L,N)/\K0 ws a.toList b.toList f.toList na nb/\0<na/\1<nb/\d.toList.length+y<=f.toList.length)
    (Q:=fun c D=>Sm st D/\((∃r,c.1=some r/\Mgd ws a.toList b.toList r.toList) \/ ∃na nb f g L N,c=(none,na,nb,f,g,L,N)/\K0 ws a.toList b.toList f.toList na nb/\0<na/\1<nb/\d.toList.length<=f.toList.length)) ?_ ?_ ⟨m,_,_,_,_,_,_,rfl,F,j,l,nR1 _⟩) ?_)
   ·rintro y c P _ K ⟨O,na,nb,f,g,L,N,rfl,F,j,l,hn3⟩;dsimp only;have Z:=F.la;have lnb:=F.lb;rw[aJ]at Z lnb;obtain⟨u,hu,mu,lu⟩:=R (show nb-1<b.size by lia);refine(fun(main:∀g':Nat,(?T:Nat->Prop) g')=>?go) ?mn
    case go=>
     by_cases hg:g>1
     ·rw[if_pos hg];generalize g-1=g';exact main g'
     ·rw[if_neg hg];exact main g
    intro g';refine wpS_bind (py (wpS_bind (eX hu (wpS_bind (GS (n:=na) C (O.k.trans hk) M.ma M.sa (M.mb u mu) (fun p hp=>M.ne p hp u mu) j Z fun k h1 h2 h3=>?_)))));have I:=O.g g';generalize SortSt.mk' (kindOf P) (arrOf P) (pendingOf P) g' (failedOf P)=st4 at *
    dsimp only;generalize hac:na-k=acc;refine(fun(W:∀(o:Array Keyed) (i:Nat),K0 ws a.toList b.toList o.toList i nb->0<i->(∀x∈a.toList.take i,rk ws x<rk ws u)->d.toList.length+y<=o.toList.length->(?T2:Array Keyed->Nat->Prop) o i)=>?go2) ?mn2
    case go2=>
     by_cases V:acc>0
     ·rw[if_pos V];have G:=F.mvA (t:=k) M.sa h1 fun x B z hz=>bH (upB (by lia) lu x B) (h3 z hz);rw[<- CN h1,<- cr]at G;have hl2:d.toList.length+y<=(f++(a.extract k na).reverse).toList.length:=by rw[cr,lA1];lia
      by_cases J:k=0
      ·rw[if_pos (by simpa using J)];exact wpS_pure ⟨I,.inl ⟨_,rfl,dn G J⟩⟩
      ·rw[if_neg (by simpa using J)];generalize f++(a.extract k na).reverse=o at G hl2 ⊢;have Y:=h2;have h9:0<k:=by lia
       generalize k=i at G Y h9 ⊢;exact W o i G h9 Y hl2
     ·rw[if_neg V];have e:k=na:=by lia
      have Y:=h2;rw[e]at Y;exact W f na F j Y hn3
    intro o i G hi hgt hlo;refine wpS_bind (eX hu ?_);have j2:=X G (by lia) lu hgt;have hl2:(o.push u).toList.length=o.toList.length+1:=by simp
    by_cases J:nb-1=1
    ·rw[if_pos (by simpa using J)];exact wpS_pure ⟨I,.inl ⟨_,rfl,fs j2 J⟩⟩
    rw[if_neg (by simpa using J)];have li:=G.la;rw[aJ]at li;obtain⟨v,hv,mv,lv⟩:=S (show i-1<a.size by lia);refine wpS_bind (eX hv (wpS_bind (GS (n:=nb-1) C (I.k.trans hk) M.mb M.sb (M.ma v mv) (fun p hp=>(M.ne v mv p hp).symm) (by lia) (by lia) fun k2 e1 e2 e3=>?_)));dsimp only;generalize o.push u=o1 at *
    have hnb:0<nb-1:=by lia
    generalize nb-1=j1' at *
    generalize hac2:j1'-k2=acc2;refine(fun(T:∀(o3:Array Keyed) (jb:Nat),K0 ws a.toList b.toList o3.toList i jb->1<jb->(∀x∈b.toList.take jb,rk ws x<rk ws v)->o1.toList.length<=o3.toList.length->(?T3:Array Keyed->Nat->Prop) o3 jb)=>?go3) ?mn3
    case go3=>
     by_cases V:acc2>0
     ·rw[if_pos V];have j3:=j2.mvB (t:=k2) M.sb e1 fun x B z hz=>bH (upA hi lv x B) (e3 z hz);rw[<- CN e1,<- cr]at j3;have hl3:o1.toList.length<=(o1++(b.extract k2 j1').reverse).toList.length:=by rw[cr,lA1];lia
      by_cases z5:k2=1
      ·rw[if_pos (by simpa using z5)];exact wpS_pure ⟨I,.inl ⟨_,rfl,fs j3 z5⟩⟩
      ·have h0:k2≠0:=fun e=>by
        subst e;obtain⟨b0,hb0,mb0,lb0⟩:=R M.pb;have:=e3 b0 (gM1 (i:=0) (by rw[cy,aT (by lia)];exact lb0));have:=M.head b0 hb0 v mv;lia
       rw[if_neg (by simpa using z5),if_neg (by simpa using h0)];generalize o1++(b.extract k2 j1').reverse=o3 at j3 hl3 ⊢;have Y:=e2;have h9:1<k2:=by lia
       generalize k2=jb at j3 Y h9 ⊢;exact T o3 jb j3 h9 Y hl3
     ·rw[if_neg V];have e:k2=j1':=by lia
      have Y:=e2;rw[e]at Y;exact T o1 j1' j2 (by lia) Y (nR1 _)
    intro o3 jb j3 hjb hgt3 hl3;refine wpS_bind (eX hv ?_);have j4:=H j3 hi lv hgt3;have hl4:(o3.push v).toList.length=o3.toList.length+1:=by simp
    by_cases z6:i-1=0
    ·rw[if_pos (by simpa using z6)];exact wpS_pure ⟨I,.inl ⟨_,rfl,dn j4 z6⟩⟩
    rw[if_neg (by simpa using z6)];split
    ·exact wpS_pure ⟨I,.inr ⟨_,_,_,_,_,_,rfl,j4,by lia,hjb,by lia⟩⟩
    ·exact wpS_pure ⟨I,_,_,_,_,_,_,rfl,j4,by lia,hjb,by lia⟩
   ·rintro c P ⟨O,na,nb,f,g,L,N,rfl,F,j,l,hn3⟩;exfalso;have:=U F;lia
   ·rintro c P ⟨O,⟨r,hr,hm⟩|⟨na,nb,f,g,L,N,rfl,F,j,l,hn3⟩⟩
    ·obtain⟨c1,c2⟩:=c;dsimp only at hr;subst hr;exact wpS_pure ⟨O,r,rfl,hm⟩
    dsimp only;refine wpS_bind (py (wpS_pure ⟨O.g _,_,_,_,_,rfl,F,j,l,by lia⟩))
 ·rintro c st' ⟨hs,na,nb,out,g,rfl,F,j,l,hn⟩;exfalso;have:=U F;lia
 ·rintro c st' ⟨hs,r,hr,hm⟩;obtain⟨c1,c2⟩:=c;dsimp only at hr;subst hr;exact wpS_pure (q r _ hs hm)
end
theorem qt(c:Nat):∀ (m:List Keyed) (k:Nat) (arr:Array Keyed) (pre old b:List Keyed),arr.toList=pre++(old++b)->pre.length=c+k->old.length=m.length ->
  ((m.zipIdx k).foldl (fun a (x:Keyed×Nat)=>a.setIfInBounds (c+x.2) x.1) arr).toList=pre++(m++b)
 |[],k,arr,pre,old,b,h1,h2,h3=>by
  have:old=[]:=cm.mp h3;subst this;exact h1
 |x::m,k,arr,pre,[],b,h1,h2,h3=>by simp at h3
 |x::m,k,arr,pre,o::old,b,h1,h2,h3=>by
  rw[bK,b9];have:=qt c m (k+1) (arr.setIfInBounds (c+k) x) (pre++[x]) old b (by
   rw[Array.toList_setIfInBounds,h1,<- h2,cZ _ _ (nR1 _),cN];simp) (by rw[lA1,h2];rfl) (by simpa using h3)
  rw[this];simp
noncomputable def fy:Nat->List (List Keyed)->List (Nat×Nat×Nat)->Prop
 |_,[],[]=>True
 |s,r::rs,(t,n,_)::p=>t=s/\n=r.length/\fy (s+r.length) rs p
 |_,_,_=>False
theorem uT:∀ {s:Nat} {rs:List (List Keyed)} {p:List (Nat×Nat×Nat)},fy s rs p -> ∀ {i:Nat} {r1 r2:List Keyed},rs[i]? = some r1->rs[i+1]? = some r2 ->
  ∃d c,p[i]?=some (s+(rs.take i).flatten.length,r1.length,d)/\p[i+1]?=some (s+(rs.take i).flatten.length+r1.length,r2.length,c) /\
   fy s (rs.take i++(r1++r2)::rs.drop (i+2)) ((p.set i (s+(rs.take i).flatten.length,r1.length+r2.length,d)).eraseIdx (i+1))
 |s,[],p,h,i,r1,r2,h1,_=>by simp at h1
 |s,r::rs,[],h,i,r1,r2,_,_=>by cases h
 |s,r::rs,(t,n,d)::p,⟨e1,e2,h⟩,0,r1,r2,h1,h2=>by
  have k:r=r1:=by simpa using h1
  subst k
  match rs,p,h,h2 with
  |r2'::rs,(t2,n2,c)::p,⟨e,f,h⟩,h2=>
   have l:r2'=r2:=by simpa using h2
   subst l;subst e1;subst e2;subst e;subst f;refine⟨d,c,by simp,by simp,?_⟩;simp only[cS,List.flatten_nil,bd,Nat.add_zero,cX,List.drop_succ_cons,bX,c4,List.eraseIdx_cons_succ,List.eraseIdx_cons_zero];exact⟨rfl,by rw[lA1],by rw[lA1,<- bj];exact h⟩
 |s,r::rs,(t,n,d)::p,⟨e1,e2,h⟩,i+1,r1,r2,h1,h2=>by
  obtain⟨a,b,e,f,j⟩:=uT h (i:=i) (by simpa using h1) (by simpa using h2);have g:s+((r::rs).take (i+1)).flatten.length=s+r.length+(rs.take i).flatten.length:=by rw[cR,c5,lA1,bj]
  refine⟨a,b,by rw[g,gC1];exact e,by rw[g,gC1];exact f,?_⟩;rw[g,cR,bi,c6,List.eraseIdx_cons_succ,List.drop_succ_cons];exact⟨e1,e2,j⟩
structure SR (ws:List dr)(κ:SortKind)(a₀:Array Keyed)(rs:List (List Keyed))(rest:List Keyed)(st:SortSt):Prop where
 k:kindOf st=κ
 f:failedOf st=none
 pm:(arrOf st).Perm a₀
 ar:(arrOf st).toList=rs.flatten++rest
 so:∀r∈rs,Srt ws r/\r≠[]
 pe:fy 0 rs (pendingOf st).toList
section
variable{prog:dz}{w:dB}{A:dA}{E:dr->dw->Prop}{s:dw}{κ:SortKind}{ws:List dr}{a₀:Array Keyed}
theorem kY.unlike(C:kY prog w A s κ ws a₀){xs:Array Keyed}(p:xs.Perm a₀):xs.toList.Pairwise fun u v=>rk ws u≠rk ws v:=by
 refine cq.mpr fun i j hi a b e=>?_;rw[aJ]at hi a;have:=C.inj p (i:=i) (j:=j) (by rw[<- p.size_eq];exact hi) (by rw[<- p.size_eq];exact a) (by unfold kR;rw[aG1 hi,aG1 a];simpa using e);lia
theorem Du{σ:Type}{M:Model}{st a:σ}{Q:Unit->σ->Prop}(h:Q () a):wpS M A E s (set a:StateT σ Sem PUnit) Q st:=wpS_modify (f:=fun _=>a) h
theorem zI(xs:Array (Nat×Nat×Nat))(i:Nat):(xs.eraseIdxIfInBounds i).toList=xs.toList.eraseIdx i:=by
 unfold Array.eraseIdxIfInBounds;split
 ·rw[Array.toList_eraseIdx]
 ·rename_i h;rw[List.eraseIdx_of_length_le (by rw[aJ];lia)]
theorem nY:∀{A B:List (List Keyed)} {r b:List Keyed} {s:Nat} {p:List (Nat×Nat×Nat)},fy s (A++r::B) p->r.length=b.length->fy s (A++b::B) p
 |[],B,r,b,s,[],h,_=>by cases h
 |[],B,r,b,s,(t,n,pw)::p,h,e=>by
  obtain⟨h1,h2,c⟩:=(show t=s/\n=r.length/\fy (s+r.length) B p from h);exact⟨h1,by rw[<- e];exact h2,by rw[<- e];exact c⟩
 |a::A,B,r,b,s,[],h,_=>by cases h
 |a::A,B,r,b,s,(t,n,pw)::p,h,e=>by
  obtain⟨h1,h2,c⟩:=(show t=s/\n=a.length/\fy (s+a.length) (A++r::B) p from h);exact⟨h1,h2,nY c e⟩
theorem Dp{rs:List (List Keyed)}{i:Nat}{a r2:List Keyed}(h1:rs[i]?=some a)(h2:rs[i+1]?=some r2):rs=rs.take i++a::r2::rs.drop (i+2):=by
 have c:=(gE1.mp h1);have b:=(gE1.mp h2);have:=(cG i rs).symm;rw[bU c.1,bU b.1,c.2,b.2]at this;exact this
theorem GR(C:kY prog w A s κ ws a₀){st:SortSt}{l:Bool}{key:Keyed}{X:Array Keyed}{pre r b:List Keyed}{h:Nat}{Q:Option Nat->SortSt->Prop}(hk:kindOf st=κ)(p:X.toList=pre++(r++b))(hm:∀ x∈X,x∈a₀)(c:key∈a₀)(t:Srt ws r)(d:∀ x∈r,rk ws x≠rk ws key)(o:h<r.length)(q:∀k,k<=r.length->(∀x∈r.take k,rk ws x<rk ws key)->(∀x∈r.drop k,rk ws key<rk ws x)->Q (some k) st):wpS (model prog w) A E s (Fx l key X pre.length r.length h) Q st:=by
 have at_:∀i,i<r.length->X[pre.length+i]?=r[i]?:=fun i hi=>by
  rw[<- aT1,p,gR1 (bq _ _),br,gL1 hi]
 refine vw (R:=fun i=>(r[i]?.map (rk ws)).getD 0) C hk c o (fun i hi=>?_) (fun i j f m=>?_) fun k h1 h2 n=>q k h1 (fun x g=>?_) fun x g=>?_
 ·have e:=at_ i hi;rw[gG1 hi]at e;refine⟨r[i],e,hm _ (cf e),by rw[gG1 hi];rfl,?_⟩;rw[gG1 hi];exact d _ (bS hi)
 ·rw[gG1 (show i<r.length by lia),gG1 m];exact cq.mp t i j (by lia) m f
 ·obtain⟨i,hi⟩:=bo g;have a:i<k:=by have:=(gE1.mp hi).1;rw[aR]at this;lia
  rw[aT a]at hi;have:=h2 i a;rw[hi]at this;exact this
 ·obtain⟨i,hi⟩:=bo g;rw[cy]at hi;have:=n (k+i) (by lia) (gE1.mp hi).1;rw[hi]at this;exact this
theorem SR.merge(C:kY prog w A s κ ws a₀){rs:List (List Keyed)}{rest:List Keyed}{st:SortSt}{i:Nat}{a r2:List Keyed}{Q:Bool->SortSt->Prop}(h:SR ws κ a₀ rs rest st)(h1:rs[i]? = some a)(h2:rs[i+1]? = some r2)(q:∀r st',SR ws κ a₀ (rs.take i++r::rs.drop (i+2)) rest st'->Q true st'):wpS (model prog w) A E s (mergeAt' i) Q st:=by
 obtain⟨T,pw2,p1,p2,p3⟩:=uT h.pe h1 h2;rw[aT1,bN]at p1 p2;rw[bN]at p3;have Y:=Dp h1 h2;obtain⟨K,n1⟩:=h.so a (gM1 h1);obtain⟨J,n2⟩:=h.so r2 (gM1 h2);have others:∀r∈rs.take i,Srt ws r/\r≠[]:=fun r g=>h.so r (cK g);have others2:∀r∈rs.drop (i+2),Srt ws r/\r≠[]:=fun r g=>h.so r (cM g);have l1:0<a.length:=cJ.mpr n1;have l2:0<r2.length:=cJ.mpr n2;have n:(arrOf st).toList=(rs.take i).flatten++(a++(r2++((rs.drop (i+2)).flatten++rest))):=by
  rw[h.ar]
  conv=>lhs;rw[Y]
  simp
 generalize P:(rs.take i).flatten=pre at *
 generalize F:(rs.drop (i+2)).flatten++rest=post at *
 have f:∀x∈arrOf st,x∈a₀:=fun x c=>h.pm.mem_iff.mp c;have un:=C.unlike h.pm;have N:∀x∈a,x∈arrOf st:=fun x c=>by rw[<- aM,n];simp[c]
 have R:∀x∈r2,x∈arrOf st:=fun x c=>by rw[<- aM,n];simp[c]
 have l:∀x∈a,∀y∈r2,rk ws x≠rk ws y:=fun x c y D=>by
  rw[n]at un;exact(cw.mp (cw.mp un).2.1).2.2 x c y (aH _ D)
 have hs:∀{st':SortSt} {r:List Keyed},kindOf st'=kindOf st->failedOf st'=failedOf st->(pendingOf st').toList=((pendingOf st).toList.set i (pre.length,a.length+r2.length,T)).eraseIdx (i+1)->(arrOf st').toList=pre++(r++post)->r.Perm (a++r2)->Srt ws r->Q true st':=fun{st' r} j t g3 g4 V g6=>by
  refine q r st' ⟨j.trans h.k,t.trans h.f,?_,?_,?_,?_⟩
  ·refine Array.Perm.trans ?_ h.pm;rw[cb,g4,n,<- bG a];exact List.Perm.append_left _ (V.append_right _)
  ·rw[g4,c7,c5,P,bG,bG,F]
  ·intro x c;rcases aG.mp c with c|c
   ·exact others x c
   ·rcases aF.mp c with rfl|c
    ·exact⟨g6,fun e=>by rw[e]at V;have:=V.length_eq;rw[lA1,bd]at this;lia⟩
    ·exact others2 x c
  ·rw[g3];exact nY p3 (by rw[lA1,V.length_eq,lA1])
 obtain⟨u,W⟩:∃u,r2[0]?=some u:=⟨_,gG1 l2⟩;have mu:=gM1 W;obtain⟨v,O⟩:∃v,a[a.length-1]?=some v:=⟨_,gG1 (by lia)⟩;have mv:=gM1 O;have hXu:(arrOf st)[pre.length+a.length]?=some u:=by
  rw[<- aT1,n,gR1 (bq _ _),br,gR1 (nR1 _),cN,gL1 l2];exact W
 have hXv:(arrOf st)[pre.length+a.length-1]?=some v:=by
  rw[<- aT1,n,gR1 (by lia),show pre.length+a.length-1-pre.length=a.length-1 by lia,gL1 (by lia)];exact O
 have S:(arrOf st).toList=(pre++a)++(r2++post):=by rw[n,bG]
 unfold mergeAt';refine wpS_bind (wpS_get ?_);dsimp only;rw[show(pendingOf st)[i]?=_ from p1,show(pendingOf st)[i+1]?=_ from p2];dsimp only;refine wpS_bind (Du ?_);refine wpS_bind (eX hXu ?_);refine wpS_bind (GR (pre:=pre) (r:=a) C h.k n f (f u (R u mu)) K (fun x c=>l x c u mu) l1 fun k e1 U e3=>?_);dsimp only;have o:(((pendingOf st).setIfInBounds i (pre.length,a.length+r2.length,T)).eraseIdxIfInBounds (i+1)).toList=((pendingOf st).toList.set i (pre.length,a.length+r2.length,T)).eraseIdx (i+1):=by rw[zI,Array.toList_setIfInBounds]
 generalize ((pendingOf st).setIfInBounds i (pre.length,a.length+r2.length,T)).eraseIdxIfInBounds (i+1)=L at *
 have H:∀x∈r2,rk ws u<=rk ws x:=fun x c=>J.drop_gt (i:=0) W x (by rw[bX];exact c);by_cases z:a.length-k=0
 ·rw[if_pos (by simpa using z)];have ek:k=a.length:=by lia
  subst ek;rw[bY]at U;exact wpS_pure (hs (r:=a++r2) rfl rfl o (by rw[bG];exact n) (.refl _) (K.app J fun x c y D=>nL1 (U x c) (H y D)))
 rw[if_neg (by simpa using z),show pre.length+k+(a.length-k)-1=pre.length+a.length-1 by lia];refine wpS_bind (eX hXv ?_);rw[show pre.length+a.length=(pre++a).length by rw[lA1]];refine wpS_bind (GR (pre:=pre++a) (r:=r2) C h.k S f (f v (N v mv)) J (fun x c=>(l v mv x c).symm) (show r2.length-1<r2.length by lia) fun k2 f1 f2 f3=>?_);dsimp only;have huv:rk ws u<rk ws v:=e3 v (gM1 (i:=a.length-1-k) (by rw[cy,show k+(a.length-1-k)=a.length-1 by lia];exact O));have Z:k2≠0:=fun e=>by
  subst e;have:=f3 u (by rw[bX];exact mu);lia
 rw[if_neg (by simpa using Z)];have ex:((arrOf st).extract (pre.length+k) (pre++a).length).toList=a.drop k:=by
  rw[cv,cU,n,<- bD,List.drop_left,List.drop_append_of_le_length e1,lA1,show pre.length+a.length-(pre.length+k)=(a.drop k).length by rw[aV];lia,c8]
 have G:((arrOf st).extract (pre++a).length ((pre++a).length+k2)).toList=r2.take k2:=by
  rw[cv,cU,S,List.drop_left,br,List.take_append_of_le_length f1]
 generalize c:(arrOf st).extract (pre.length+k) (pre++a).length=x at *
 generalize D:(arrOf st).extract (pre++a).length ((pre++a).length+k2)=y at *
 have lx:x.size=a.length-k:=by rw[<- aJ,ex,aV]
 have ly:y.size=k2:=by rw[<- aJ,G,aR];lia
 have M:MC ws a₀ x y:=by
  refine⟨fun p d=>?_,fun p d=>?_,?_,?_,fun p d r g=>?_,by lia,by lia,fun p d r g=>?_,fun p d r g=>?_⟩
  ·rw[<- aM,ex]at d;exact f p (N p (cM d))
  ·rw[<- aM,G]at d;exact f p (R p (cK d))
  ·rw[ex];exact K.sublist (cA _ _)
  ·rw[G];exact J.sublist (aU _ _)
  ·rw[<- aM,ex]at d;rw[<- aM,G]at g;exact l p (cM d) r (cK g)
  ·rw[<- aM,G]at g;rw[<- aT1,ex,cy,lx,show k+(a.length-k-1)=a.length-1 by lia,O]at d;cases d;exact f2 r g
  ·rw[<- aM,ex]at g;rw[<- aT1,G,aT (by lia),W]at d;cases d;exact e3 r g
 refine(fun(B:∀(m:Array Keyed) (b:SortSt),Sm (SortSt.mk' (kindOf st) (arrOf st) L (gallopOf st) (failedOf st)) b->Mgd ws x.toList y.toList m.toList->(?T:Array Keyed->SortSt->Prop) m b)=>?go) ?mn
 case go=>
  by_cases z2:a.length-k<=k2
  ·rw[if_pos z2];refine wpS_bind (GB C M h.k fun m b j t=>?_);exact B m b j t
  ·rw[if_neg z2];refine wpS_bind (GC C M h.k fun m b j t=>?_);exact B m b j t
 intro m b j t;refine wpS_bind (wpS_modify (wpS_bind (wpS_get ?_)));dsimp only;have hf:failedOf b=none:=j.f.trans h.f;rw[show(failedOf b).isNone=true by rw[hf];rfl];rw[ex,G]at t;have ml:m.toList.length=(a.drop k++r2.take k2).length:=t.1.length_eq;have wr:=qt (pre.length+k) m.toList 0 (arrOf b) (pre++a.take k) (a.drop k++r2.take k2) (r2.drop k2++post) (by
  rw[j.a];show(arrOf st).toList=_;rw[n]
  conv=>lhs;rw[<- cG k a,<- cG k2 r2]
  simp only[bG]) (by rw[lA1,aR,Nat.add_zero];lia) ml.symm
 have bx:∀y∈m.toList,y∈a.drop k\/y∈r2.take k2:=fun y D=>aG.mp (t.1.mem_iff.mp D);have sp1:=K.split k;have X:=J.split k2;have upv:∀y∈a,rk ws y<=rk ws v:=fun y D=>K.take_lt O y (by rw[show a.length-1+1=a.length by lia,bY];exact D);refine wpS_pure (hs (r:=a.take k++(m.toList++r2.drop k2)) j.k j.f (by rw[show pendingOf (SortSt.mk' (kindOf b) _ (pendingOf b) (gallopOf b) (failedOf b))=pendingOf b from rfl,j.p];exact o) ?_ ?_ ?_)
 ·refine wr.trans ?_;simp only[bG]
 ·conv=>rhs;rw[<- cG k a,<- cG k2 r2]
  rw[bG];refine List.Perm.append_left _ ?_;rw[<- bG];exact t.1.append_right _
 ·refine Srt.app (K.sublist (aU _ _)) (Srt.app t.2 (J.sublist (cA _ _)) fun p d r g=>?_) (lD.to (fun p d r g=>?_) fun p d r g=>?_)
  ·rcases bx p d with I|I
   ·exact bH (upv p (cM I)) (f3 r g)
   ·exact X p I r g
  ·rcases bx r g with I|I
   ·exact sp1 p d r I
   ·exact nL1 (U p d) (H r (cK I))
  ·exact nL1 (U p d) (H r (cM g))
end
noncomputable def kO(ws:List dr)(lo:Nat)(xs:Array Keyed)(i:Nat):Nat:=kR ws xs (lo+i)
noncomputable def vY(ws:List dr)(lo:Nat)(xs:Array Keyed)(k:Nat):Prop:=∀i j,i<j->j<k->kO ws lo xs i<kO ws lo xs j
noncomputable def Ht(ws:List dr)(lo:Nat)(xs:Array Keyed)(k:Nat):Prop:=∀i j,i<j->j<k->kO ws lo xs j<kO ws lo xs i
structure SoL (κ:SortKind)(a₀:Array Keyed)(lo:Nat)(st0 st:SortSt):Prop where
 perm:(arrOf st).Perm a₀
 kind:kindOf st=κ
 failed:failedOf st=failedOf st0
 pend:pendingOf st=pendingOf st0
 pre:∀i,i<lo->(arrOf st)[i]?=(arrOf st0)[i]?
theorem SoL.arr{κ:SortKind}{a₀:Array Keyed}{lo:Nat}{st0 st:SortSt}(b:SoL κ a₀ lo st0 st){xs:Array Keyed}(p:xs.Perm (arrOf st))(hp:∀i,i<lo->xs[i]?=(arrOf st)[i]?):SoL κ a₀ lo st0 (setArr st xs):=⟨p.trans b.perm,b.kind,b.failed,b.pend,fun i hi=>(hp i hi).trans (b.pre i hi)⟩
section
variable{prog:dz}{w:dB}{A:dA}{E:dr->dw->Prop}{s:dw}{κ:SortKind}{ws:List dr}{a₀:Array Keyed}{lo:Nat}{st0:SortSt}
theorem kY.cmpL(C:kY prog w A s κ ws a₀){st:SortSt}{i j:Nat}{Q:Option Bool->SortSt->Prop}(b:SoL κ a₀ lo st0 st)(hi:i<a₀.size)(d:j<a₀.size)(c:i≠j)(h:Q (some (decide (kR ws (arrOf st) i<kR ws (arrOf st) j))) st):wpS (model prog w) A E s (ltAt' i j) Q st:=by
 obtain⟨x,q,e,f⟩:=C.at_ b.perm hi;obtain⟨y,r,k,g⟩:=C.at_ b.perm d;have a:kR ws (arrOf st) i≠kR ws (arrOf st) j:=fun z=>c (C.inj b.perm hi d z);rw[ltAt'_eq];refine wpS_bind (wpS_get ?_);show wpS _ _ _ _ (do let x<-elem' (arrOf st) i;let y<-elem' (arrOf st) j;lt' x y) Q st;rw[elem'_eq,elem'_eq,e,k];refine wpS_bind (wpS_pure (wpS_bind (wpS_pure ?_)));rw[lt'_eq];refine wpS_bind (wpS_get ?_);rw[b.kind];exact wpS_bind (wpS_lift (wpAny_attempt (C.lt x y _ _ f g a _ _ ⟨rfl,wpS_pure h⟩)))
theorem vY.one{xs:Array Keyed}:vY ws lo xs 1:=fun i j h1 h2=>by lia
theorem vY.snoc{xs:Array Keyed}{n:Nat}(u:vY ws lo xs n)(h:kO ws lo xs (n-1)<kO ws lo xs n):vY ws lo xs (n+1):=fun i j h1 h2=>by
 by_cases z:j<n
 ·exact u i j h1 z
 ·have b:j=n:=by lia
  subst b;by_cases a:i=j-1
  ·rw[a];exact h
  ·exact bg (u i (j-1) (by lia) (by lia)) h
theorem Ht.snoc{xs:Array Keyed}{n:Nat}(u:Ht ws lo xs n)(h:kO ws lo xs n<kO ws lo xs (n-1)):Ht ws lo xs (n+1):=fun i j h1 h2=>by
 by_cases z:j<n
 ·exact u i j h1 z
 ·have b:j=n:=by lia
  subst b;by_cases a:i=j-1
  ·rw[a];exact h
  ·exact bg h (u i (j-1) (by lia) (by lia))
theorem zl(C:kY prog w A s κ ws a₀){xs:Array Keyed}(p:xs.Perm a₀){i j:Nat}(hi:lo+i<a₀.size)(a:lo+j<a₀.size)(b:i≠j):kO ws lo xs i≠kO ws lo xs j:=fun e=>by
 have:=C.inj p hi a e;lia
theorem F4(C:kY prog w A s κ ws a₀){st:SortSt}{l:Nat}{Q:Option Nat->SortSt->Prop}(hn:lo+l<=a₀.size)(h1:1<=l)(b:SoL κ a₀ lo st0 st)(h:∀m st',SoL κ a₀ lo st0 st'->1<=m->m<=l->vY ws lo (arrOf st') m->Q (some m) st'):wpS (model prog w) A E s (countRun' lo l) Q st:=by
 have q:∀ {st:SortSt} {a:Nat} {f:Nat->Option (Option Nat)×Nat->StateT SortSt Sem (ForInStep (Option (Option Nat)×Nat))} {Q:Option (Option Nat)×Nat->SortSt->Prop},SoL κ a₀ lo st0 st->1<=a->a<=l->vY ws lo (arrOf st) a ->
   (∀x c,f x c=(ltAt' (lo+c.2) (lo+c.2-1) >>= fun r=>match r with
    |some z=>if z=true then pure (ForInStep.done (none,c.2))else pure (ForInStep.yield (none,c.2+1))
    |_=>pure (ForInStep.done (some none,c.2)))) ->
   (∀n,a<=n->n<=l->vY ws lo (arrOf st) n->(n=l\/kO ws lo (arrOf st) n<kO ws lo (arrOf st) (n-1))->Q (none,n) st)->wpS (model prog w) A E s (forIn [a:l] (none,a) f) Q st:=fun{st a f Q} b R p u L G=>by
  refine wpS_forRange (fun x c st'=>st'=st/\c=(none,x)/\vY ws lo (arrOf st) x) ?_ ?_ ⟨rfl,rfl,u⟩
  ·rintro x c st' v y ⟨rfl,rfl,o⟩;rw[L];dsimp only;refine wpS_bind (C.cmpL b (by lia) (by lia) (by lia) ?_);have e:kR ws (arrOf st') (lo+x-1)=kO ws lo (arrOf st') (x-1):=by unfold kO;congr 1;lia
   rw[e];by_cases z:kO ws lo (arrOf st') x<kO ws lo (arrOf st') (x-1)
   ·rw[show decide (kR ws (arrOf st') (lo+x)<kO ws lo (arrOf st') (x-1))=true from decide_eq_true z];exact wpS_pure (G x v (by lia) o (.inr z))
   ·rw[show decide (kR ws (arrOf st') (lo+x)<kO ws lo (arrOf st') (x-1))=false from decide_eq_false z];have:=zl C b.perm (lo:=lo) (i:=x) (j:=x-1) (by lia) (by lia) (by lia);exact wpS_pure ⟨rfl,rfl,o.snoc (by lia)⟩
  ·rintro c st' ⟨rfl,rfl,o⟩;rw[Nat.max_eq_right p]at o ⊢;exact G l p (nR1 _) o (.inl rfl)
 rw[countRun'_eq];refine wpS_bind (q b (nR1 1) h1 .one (fun x c=>rfl) fun n h2 B u or=>?_);dsimp only;by_cases z:n=l
 ·rw[if_pos (by simpa using z)];exact wpS_pure (h n st b h2 B u)
 rw[if_neg (by simpa using z)];have N:=or.resolve_left z;by_cases H:n>1
 ·rw[if_pos H];have M:=u 0 (n-1) (by lia) (by lia);refine wpS_bind (C.cmpL b (by lia) (by lia) (by lia) ?_);have e:kR ws (arrOf st) (lo+n-1)=kO ws lo (arrOf st) (n-1):=by unfold kO;congr 1;lia
  rw[e,show decide (kR ws (arrOf st) lo<kO ws lo (arrOf st) (n-1))=true from decide_eq_true M];exact wpS_pure (h n st b h2 B u)
 rw[if_neg H];have e:n=1:=by lia
 subst e;refine wpS_bind (wpS_lift (wpAny_rule ⟨rfl,?_⟩));refine wpS_bind (wpS_mono (wpS_forRange (fun x c st'=>st'=st/\c=(none,x,0)/\Ht ws lo (arrOf st) x) (Q:=fun c st'=>st'=st /\ ∃m,c=(none,m,0)/\2<=m/\m<=l/\Ht ws lo (arrOf st) m) ?_ ?_ ⟨rfl,rfl,fun i j v y=>?_⟩) ?_)
 ·rintro x c st' v y ⟨rfl,rfl,t⟩;dsimp only;have e:kR ws (arrOf st') (lo+x-1)=kO ws lo (arrOf st') (x-1):=by unfold kO;congr 1;lia
  have ne:=zl C b.perm (lo:=lo) (i:=x) (j:=x-1) (by lia) (by lia) (by lia);refine wpS_bind (C.cmpL b (by lia) (by lia) (by lia) ?_);rw[e];by_cases z:kO ws lo (arrOf st') x<kO ws lo (arrOf st') (x-1)
  ·rw[show decide (kR ws (arrOf st') (lo+x)<kO ws lo (arrOf st') (x-1))=true from decide_eq_true z];exact wpS_pure ⟨rfl,rfl,t.snoc z⟩
  ·rw[show decide (kR ws (arrOf st') (lo+x)<kO ws lo (arrOf st') (x-1))=false from decide_eq_false z];refine wpS_bind (C.cmpL b (by lia) (by lia) (by lia) ?_);rw[e,show decide (kO ws lo (arrOf st') (x-1)<kR ws (arrOf st') (lo+x))=true from decide_eq_true (by show kO ws lo (arrOf st') (x-1)<kO ws lo (arrOf st') x;lia)];exact wpS_pure ⟨rfl,x,rfl,by lia,by lia,t⟩
 ·rintro c st' ⟨rfl,rfl,t⟩;rw[Nat.max_eq_right (by lia)]at t ⊢;exact⟨rfl,l,rfl,by lia,nR1 _,t⟩
 ·have J:i=0:=by lia
  have K:j=1:=by lia
  subst J;subst K;exact N
 ·rintro c st' ⟨rfl,m,rfl,m1,m2,d⟩;dsimp only;rw[if_neg (by lia)];have D:lo+m<=(arrOf st').size:=by rw[b.perm.size_eq];lia
  have F:∀k,(mirror (arrOf st') lo (lo+m) ((lo+m-lo)/2))[k]?=if lo<=k/\k<lo+m then(arrOf st')[lo+(lo+m)-1-k]? else(arrOf st')[k]?:=fun k=>getElem?_mirror_all D k
  have I:SoL κ a₀ lo st0 (setArr st' (mirror (arrOf st') lo (lo+m) ((lo+m-lo)/2))):=b.arr (mirror_perm _ _ _ _) fun k P=>by rw[F,if_neg (by lia)]
  have g:∀k,k<m->kO ws lo (mirror (arrOf st') lo (lo+m) ((lo+m-lo)/2)) k=kO ws lo (arrOf st') (m-1-k):=fun k P=>kb (by
   rw[F,if_pos (by lia)]
   congr 1;lia)
  refine wpS_bind (wpS_reverse (wpS_bind (q I (by lia) m2 (fun i j B O=>?_) (fun x c=>rfl) fun n v y u _=>wpS_pure (h n _ I (by lia) y u))));show kO ws lo (mirror (arrOf st') lo (lo+m) ((lo+m-lo)/2)) i<kO ws lo (mirror (arrOf st') lo (lo+m) ((lo+m-lo)/2)) j;rw[g i (by lia),g j O];exact d _ _ (by lia) (by lia)
theorem GJ(C:kY prog w A s κ ws a₀){st:SortSt}{n ok:Nat}{Q:Bool->SortSt->Prop}(hn:lo+n<=a₀.size)(H:ok<=n)(b:SoL κ a₀ lo st0 st)(u:vY ws lo (arrOf st) ok)(h:∀st',SoL κ a₀ lo st0 st'->vY ws lo (arrOf st') n->Q true st'):wpS (model prog w) A E s (binarySort' lo n ok) Q st:=by
 rw[binarySort'_eq];refine wpS_bind (wpS_mono (wpS_forRange (fun k c st'=>c=(none,())/\SoL κ a₀ lo st0 st'/\vY ws lo (arrOf st') (min k n)) (Q:=fun c st'=>c=(none,())/\SoL κ a₀ lo st0 st'/\vY ws lo (arrOf st') n) ?_ ?_ ⟨rfl,b,fun i j h1 h2=>?_⟩) ?_)
 ·rintro k c st' J I ⟨rfl,f,d⟩;rw[bA (by lia)]at d;have t:lo+k<(arrOf st').size:=by rw[f.perm.size_eq];lia
  refine wpS_bind (wpS_mono (wpS_forRange (fun x c a=>a=st' /\ ∃l r,c=(none,l,r)/\l<=r/\r<=k/\r-l<=k-x/\(∀i,i<l->kO ws lo (arrOf st') i<kO ws lo (arrOf st') k) /\ ∀i,r<=i->i<k->kO ws lo (arrOf st') k<kO ws lo (arrOf st') i)
   (Q:=fun c a=>a=st' /\ ∃l r,c=(none,l,r)/\l<=k/\(∀i,i<l->kO ws lo (arrOf st') i<kO ws lo (arrOf st') k) /\ ∀i,l<=i->i<k->kO ws lo (arrOf st') k<kO ws lo (arrOf st') i) ?_ ?_ ⟨rfl,0,k,rfl,by lia,by lia,by lia,fun i h1=>by lia,fun i h1 h2=>by lia⟩) ?_)
  ·rintro x c a _ L ⟨rfl,l,r,rfl,h1,h2,v,p,o⟩;dsimp only;by_cases z:l>=r
   ·rw[if_pos z];have e:l=r:=by lia
    subst e;exact wpS_pure ⟨rfl,l,l,rfl,h2,p,o⟩
   ·rw[if_neg z];have K:(l+r)/2<k:=by lia
    refine wpS_bind (C.cmpL f (by lia) (by lia) (by lia) ?_);by_cases m:kO ws lo (arrOf a) k<kO ws lo (arrOf a) ((l+r)/2)
    ·rw[show decide (kR ws (arrOf a) (lo+k)<kR ws (arrOf a) (lo+(l+r)/2))=true from decide_eq_true m];refine wpS_pure ⟨rfl,l,(l+r)/2,rfl,by lia,by lia,by lia,p,fun i F G=>?_⟩;by_cases q:(l+r)/2=i
     ·rw[<- q];exact m
     ·exact bg m (d _ i (by lia) G)
    ·rw [show decide (kR ws (arrOf a) (lo+k)<kR ws (arrOf a) (lo+(l+r)/2))=false from decide_eq_false m];refine wpS_pure ⟨rfl,(l+r)/2+1,r,rfl,by lia,by lia,by lia,fun i F=>?_,o⟩;have B:kO ws lo (arrOf a) ((l+r)/2)<kO ws lo (arrOf a) k:=by
      have:=zl C f.perm (lo:=lo) (i:=k) (j:=(l+r)/2) (by lia) (by lia) (by lia);lia
     by_cases q:i=(l+r)/2
     ·rw[q];exact B
     ·exact bg (d i _ (by lia) (by lia)) B
  ·rintro c a ⟨rfl,l,r,rfl,h1,h2,v,p,o⟩;have e:l=r:=by lia
   subst e;exact⟨rfl,l,l,rfl,h2,p,o⟩
  ·rintro c a ⟨rfl,l,r,rfl,h1,h2,v⟩;show wpS _ _ _ _ (do moveDown' (lo+k) (lo+l);pure (ForInStep.yield (none,()))) _ _;rw [moveDown'_eq];have y:∀ i,(bubble (arrOf a) (lo+k) (lo+k-(lo+l)))[i]? = if i=lo+l then (arrOf a)[lo+k]? else if lo+l<i/\i<=lo+k then (arrOf a)[i-1]? else (arrOf a)[i]?:=fun i=>by
    have e:=getElem?_bubble t (lo+k-(lo+l)) (by lia) i;rw[show lo+k-(lo+k-(lo+l))=lo+l by lia]at e;exact e
   refine wpS_bind (wpS_modify (wpS_pure ⟨rfl,f.arr (bubble_perm _ _ _) fun i hi=>by rw[y,if_neg (by lia),if_neg (by lia)],?_⟩));rw[bA (by lia)];have g:∀i,kO ws lo (bubble (arrOf a) (lo+k) (lo+k-(lo+l))) i=if i=l then kO ws lo (arrOf a) k else if l<i/\i<=k then kO ws lo (arrOf a) (i-1)else kO ws lo (arrOf a) i:=fun i=>by
    have e:=y (lo+i);by_cases D:i=l
    ·rw[if_pos (by lia)]at e;rw[if_pos D];exact kb e
    ·rw[if_neg (by lia)]at e;rw[if_neg D];by_cases m:l<i/\i<=k
     ·rw[if_pos (by lia)]at e;rw[if_pos m];refine kb (e.trans ?_)
      congr 1;lia
     ·rw[if_neg (by lia)]at e;rw[if_neg m];exact kb e
   intro i j p o;show kO ws lo (bubble (arrOf a) (lo+k) (lo+k-(lo+l))) i<kO ws lo (bubble (arrOf a) (lo+k) (lo+k-(lo+l))) j;rw[g,g]
   repeat' split
   all_goals first
    |(exfalso;lia)
    |exact h2 _ (by lia)
    |exact v _ (by lia) (by lia)
    |exact d _ _ (by lia) (by lia)
 ·rintro c st' ⟨hc,f,d⟩;refine⟨hc,f,?_⟩
  rwa [show min (max (max ok 1) n) n=n by lia]at d
 ·by_cases z:ok=0
  ·lia
  ·exact u i j h1 (by lia)
 ·rintro c st' ⟨rfl,f,d⟩;exact wpS_pure (h st' f d)
end
theorem mq:∀{s:Nat} {rs:List (List Keyed)} {p:List (Nat×Nat×Nat)},fy s rs p->p.length=rs.length
 |_,[],[],_=>rfl
 |_,[],_::_,h=>by cases h
 |_,_::_,[],h=>by cases h
 |s,r::rs,(t,n,pw)::p,⟨_,_,h⟩=>by rw[lC1,lC1,mq h]
theorem nX:∀{s:Nat} {rs:List (List Keyed)} {p:List (Nat×Nat×Nat)} {r:List Keyed} {pw:Nat},fy s rs p->fy s (rs++[r]) (p++[(s+rs.flatten.length,r.length,pw)])
 |_,[],[],_,_,_=>⟨by simp,rfl,trivial⟩
 |_,[],_::_,_,_,h=>by cases h
 |_,_::_,[],_,_,h=>by cases h
 |s,r::rs,(t,n,pw)::p,r',pw',⟨e1,e2,h⟩=>by
  refine⟨e1,e2,?_⟩;have:=nX (r:=r') (pw:=pw') h
  rwa [bj,<- lA1,<- c5]at this
theorem rg{g:Nat×Nat×Nat->Nat×Nat×Nat}(hg:∀x,(g x).1=x.1/\(g x).2.1=x.2.1):∀{s:Nat} {rs:List (List Keyed)} {p:List (Nat×Nat×Nat)} {k:Nat},fy s rs p->fy s rs (p.modify k g)
 |_,[],[],k,_=>by cases k<;>exact trivial
 |_,[],_::_,_,h=>by cases h
 |_,_::_,[],_,h=>by cases h
 |s,r::rs,(t,n,pw)::p,0,⟨e1,e2,h⟩=>by
  obtain⟨a,b⟩:=hg (t,n,pw);show fy s (r::rs) (g (t,n,pw)::p);exact⟨a.trans e1,b.trans e2,h⟩
 |s,r::rs,(t,n,pw)::p,k+1,⟨e1,e2,h⟩=>⟨e1,e2,rg hg h⟩
section
variable{prog:dz}{w:dB}{A:dA}{E:dr->dw->Prop}{s:dw}{κ:SortKind}{ws:List dr}{a₀:Array Keyed}{rs:List (List Keyed)}{rest:List Keyed}{st st':SortSt}
theorem SR.size(h:SR ws κ a₀ rs rest st):rs.flatten.length+rest.length=a₀.size:=by
 have:=congrArg List.length h.ar;rw[aJ,h.pm.size_eq,lA1]at this;exact this.symm
theorem SR.many(h:SR ws κ a₀ rs rest st):rs.length<=rs.flatten.length:=by
 have:∀{l:List (List Keyed)},(∀r∈l,r≠[])->l.length<=l.flatten.length:=by
  intro l
  induction l with
  |nil=>intro _;exact nR1 _
  |cons r l ih=>
   intro a;have h1:=ih fun x b=>a x (mC1 _ b);have h2:0<r.length:=cJ.mpr (a r mS1);rw[lC1,c5,lA1];lia
 exact this fun r a=>(h.so r a).2
theorem SoL.sr(h:SR ws κ a₀ rs rest st)(b:SoL κ a₀ rs.flatten.length st st'):SR ws κ a₀ rs ((arrOf st').toList.drop rs.flatten.length) st':=by
 refine⟨b.kind,b.failed.trans h.f,b.perm,?_,h.so,by rw[b.pend];exact h.pe⟩;have:(arrOf st').toList.take rs.flatten.length=rs.flatten:=by
  have e:(arrOf st).toList.take rs.flatten.length=rs.flatten:=by rw[h.ar,c8]
  rw[<- e];refine bZ fun i=>?_;by_cases hi:i<rs.flatten.length
  ·rw[e,aT hi,<- e,aT hi,aT1,aT1];exact b.pre i hi
  ·rw[e,b4 (by rw[aR];lia),b4 (by lia)]
 conv=>lhs;rw[<- cG rs.flatten.length (arrOf st').toList,this]
theorem uy{lo n:Nat}(hp:(arrOf st').Perm a₀)(hn:lo+n<=a₀.size)(u:vY ws lo (arrOf st') n):Srt ws (((arrOf st').toList.drop lo).take n):=by
 refine cq.mpr fun i j hi b a=>?_;rw[aR,aV]at hi b;have:=u i j a (by lia);have c:=hp.size_eq;rw[aJ]at hi b;unfold kO kR at this;rw[aG1 (show lo+i<(arrOf st').size by lia),aG1 (show lo+j<(arrOf st').size by lia)]at this;simpa using this
theorem Hh(C:kY prog w A s κ ws a₀){Q:Unit->SortSt->Prop}(h0:SR ws κ a₀ [] a₀.toList st)(h2:2<=a₀.size)(q:∀st',(arrOf st').Perm a₀->failedOf st'=none->Srt ws (arrOf st').toList->Q () st'):wpS (model prog w) A E s sortRuns' Q st:=by
 rw[sortRuns'_eq];refine wpS_bind (wpS_get ?_);dsimp only;generalize minRun' (arrOf st).size (arrOf st).size 0=mr;rw[h0.pm.size_eq];refine wpS_bind (wpS_mono (wpS_forRange (fun x c st'=>∃rs rest,SR ws κ a₀ rs rest st'/\c=(none,rs.flatten.length)/\x<=rs.flatten.length)
  (Q:=fun c st'=>∃rs lo,SR ws κ a₀ rs [] st'/\c=(none,lo)) ?_ ?_ ⟨[],a₀.toList,h0,rfl,nR1 _⟩) ?_)
 ·rintro x c st' _ hx ⟨rs,rest,h,rfl,M⟩;have B:=h.size;dsimp only;by_cases z:rs.flatten.length>=a₀.size
  ·rw[if_pos z];have e:rest=[]:=cm.mp (by lia);subst e;exact wpS_pure ⟨rs,_,h,rfl⟩
  rw[if_neg z];refine wpS_bind (F4 (lo:=rs.flatten.length) (st0:=st') C (by lia) (by lia) ⟨h.pm,h.k,rfl,rfl,fun _ _=>rfl⟩ fun m st2 b m1 m2 u=>?_);dsimp only;have y:=b.sr h;have U:=y.size;refine(fun(t:∀(n:Nat) (j:SortSt) (a:List Keyed),SR ws κ a₀ rs a j->Srt ws (a.take n)->1<=n->n<=a.length->(?T:Nat->SortSt->Prop) n j)=>?go) ?mn
  case go=>
   by_cases X:m<mr
   ·rw[if_pos X];refine wpS_bind (wpS_lift (wpAny_rule ⟨rfl,?_⟩));refine wpS_bind (GJ (lo:=rs.flatten.length) (st0:=st') C (n:=min (a₀.size-rs.flatten.length) mr) (by lia) (by lia) b u fun j b3 u3=>?_);simp only[b5,bF1,if_false];have H:=b3.sr h;have W:=H.size;have o:=uy b3.perm (by lia) u3;have T:1<=min (a₀.size-rs.flatten.length) mr:=by lia
    have F:min (a₀.size-rs.flatten.length) mr<=((arrOf j).toList.drop rs.flatten.length).length:=by lia
    generalize min (a₀.size-rs.flatten.length) mr=n at o T F ⊢;exact t n j _ H o T F
   ·rw[if_neg X];have o:=uy b.perm (by lia) u;have F:m<=((arrOf st2).toList.drop rs.flatten.length).length:=by lia
    generalize hst:st2=j at y o F ⊢;generalize hmn:m=n at o m1 F ⊢;exact t n j _ y o m1 F
  intro n j a N hs n1 K;refine wpS_bind (wpS_get ?_);have S:=N.size;refine(fun(p:∀(f:List (List Keyed)) (d:SortSt),SR ws κ a₀ f a d->(?T2:SortSt->Prop) d)=>?go2) ?mn2
  case go2=>
   cases hb:(pendingOf j).back? with
   |none=>
    dsimp only;exact p rs j N
   |some q1=>
    obtain⟨Z,D,pw1⟩:=q1;dsimp only;generalize power' a₀.size (2*Z+D) (2*Z+D+D+n) a₀.size=pv;refine wpS_bind (wpS_mono (wpS_forRange (fun x c d=>c=(none,()) /\ ∃f,SR ws κ a₀ f a d) (Q:=fun c d=>c=(none,()) /\ ∃f,SR ws κ a₀ f a d) ?_ (fun _ _ h=>h) ⟨rfl,rs,N⟩) ?_)
    ·rintro x c d _ hx ⟨rfl,f,k⟩;have v:=mq k.pe;rw[aJ]at v;refine wpS_bind (wpS_get ?_);by_cases R:(pendingOf d).size>1
     ·rw[if_pos R,aG1 (show(pendingOf d).size-2<(pendingOf d).size by lia)];generalize (pendingOf d)[(pendingOf d).size-2]'(by lia)=pq;obtain⟨pa,pb,pc⟩:=pq;dsimp only;by_cases V:pc<=pv
      ·rw[if_pos V];exact wpS_pure ⟨rfl,f,k⟩
      ·rw[if_neg V];refine wpS_bind (k.merge C (i:=(pendingOf d).size-2) (gG1 (by lia)) (gG1 (by lia)) fun r l I=>?_);simp only[b5,bF1,if_false];exact wpS_pure ⟨rfl,_,I⟩
     ·rw[if_neg R];exact wpS_pure ⟨rfl,f,k⟩
    ·rintro c d ⟨rfl,f,k⟩;dsimp only;refine wpS_bind (wpS_modify ?_);refine p f _ ⟨k.k,k.f,k.pm,k.ar,k.so,?_⟩;show fy 0 f ((pendingOf d).modify ((pendingOf d).size-1) _).toList;rw[Array.toList_modify];exact rg (g:=fun x=>(x.1,x.2.1,pv)) (fun x=>⟨rfl,rfl⟩) k.pe
  intro f d k;have Y:=k.size;have G:rs.flatten.length=f.flatten.length:=by lia
  refine wpS_bind (wpS_modify (wpS_pure ⟨f++[a.take n],a.drop n,⟨k.k,k.f,k.pm,?_,?_,?_⟩,?_,?_⟩))
  ·refine k.ar.trans ?_;rw[c7,bG];simp
  ·intro r J;rcases aG.mp J with P|P
   ·exact k.so r P
   ·rw[cV.mp P];exact⟨hs,fun e=>by have:=congrArg List.length e;rw[aR,bd]at this;lia⟩
  ·show fy 0 _ ((pendingOf d).push (rs.flatten.length,n,0)).toList;rw[cu,G];have:=nX (r:=a.take n) (pw:=0) k.pe
   rwa [bN,aR,bA K]at this
  ·rw[c7,lA1,G,List.flatten_singleton,aR,bA K]
  ·rw[c7,lA1,List.flatten_singleton,aR,bA K];lia
 ·rintro c st' ⟨rs,rest,h,rfl,M⟩;have B:=h.size;have e:rest=[]:=cm.mp (by lia);subst e;exact⟨rs,_,h,rfl⟩
 ·rintro c st' ⟨rs,lo,h,rfl⟩;dsimp only;have B:=h.size;rw[bd,Nat.add_zero]at B;have L:=h.many;refine wpS_bind (wpS_mono (wpS_forRange (fun x c st2=>c=(none,()) /\ ∃rs,SR ws κ a₀ rs [] st2/\rs.length+x<=a₀.size) (Q:=fun c st2=>c=(none,()) /\ ∃rs,SR ws κ a₀ rs [] st2/\rs.length<=1) ?_ ?_ ⟨rfl,rs,h,by lia⟩) ?_)
  ·rintro x c st2 _ hx ⟨rfl,rs,h,O⟩;have v:=mq h.pe;rw[aJ]at v;refine wpS_bind (wpS_get ?_);by_cases z:(pendingOf st2).size<=1
   ·rw[if_pos z];exact wpS_pure ⟨rfl,rs,h,by lia⟩
   rw[if_neg z];have mg:∀i,i+1<rs.length -> ∀{Q:Bool->SortSt->Prop},(∀r l,SR ws κ a₀ r [] l->r.length+1=rs.length->Q true l)->wpS (model prog w) A E s (mergeAt' i) Q st2:=fun i hi Q hq=>
    h.merge C (i:=i) (gG1 (by lia)) (gG1 hi) fun r l I=>hq _ l I (by rw[lA1,lC1,aR,aV];lia)
   refine wpS_bind (mg _ ?_ fun r l I hl5=>?_)
   ·split<;>lia
   ·simp only[b5,bF1,if_false];exact wpS_pure ⟨rfl,r,I,by lia⟩
  ·rintro c st2 ⟨rfl,rs,h,O⟩;exact⟨rfl,rs,h,by lia⟩
  ·rintro c st2 ⟨rfl,rs,h,O⟩;refine wpS_pure (q st2 h.pm h.f ?_);rw[h.ar,aN]
   match rs,O,h.so with
   |[],_,_=>exact .nil
   |[r],_,so=>simpa using(so r (by simp)).1
end
theorem Do{ws:List dr}{xs a₀:Array Keyed}(p:xs.Perm a₀)(h:Srt ws xs.toList):Up ws xs a₀.size:=fun i j a c=>by
 have b:=p.size_eq;have:=cq.mp h i j (by rw[aJ];lia) (by rw[aJ];lia) a;unfold kR;rw[aG1 (show i<xs.size by lia),aG1 (show j<xs.size by lia)];simpa using this
section
variable{prog:dz}{w:dB}{A:dA}{E:dr->dw->Prop}{s:dw}
theorem xY {a:dy}{vs ws:List dr}{n:Nat}{κ:SortKind}{P:Fin->dw->Prop}(ho:s.heap.get? a=some (seqObj "list" vs.toArray n))(u:vs.length<=dF)(hp:vs.Perm ws)
  (p:∀h',(∀b o,b≠a->s.heap.get? b=some o->h'.get? b=some o)->2<=vs.length->kY prog w A {s with heap:=h'} κ ws (pairsOf vs) /\ ∀Q:SortKind->dw->Prop,Q κ {s with heap:=h'}->dG (model prog w) A (keyKind' vs.toArray) Q E {s with heap:=h'})
  (h:P (.done (.ret .none)) {s with heap:=sortedHeap s.heap a vs ws.toArray}):dG (model prog w) A (Builtin.«list.sort» ⟨[.ref a],[]⟩) P E s:=by
 rw[list_sort_plain];have v:a<s.heap.objs.size:=hL1 ho;refine wB1 (listItems_at ho rfl ?_);refine wB1 (listUpdate_at ho rfl ?_);obtain⟨i,f⟩:∃i,(s.heap.update a (Obj.mapSeq fun _=> #[])).get? a=some (seqObj "list" #[] i):=⟨_,get?_update_seq ho (fun _=> #[])⟩;refine wB1 (seqEpoch_at f rfl (wB1 (wpAny_newTuple (wB1 (wpAny_newList (wpAny_holding ?_))))));have keep:∀b o,b≠a->s.heap.get? b=some o->(((s.heap.update a (Obj.mapSeq fun _=> #[])).push (seqObj "tuple" vs.toArray 0)).push (seqObj "list" #[] 0)).get? b=some o:=fun b o l e=>
  hP1 _ (hP1 _ (by rw[hU1 _ _ _ _ l];exact e))
 have c:(((s.heap.update a (Obj.mapSeq fun _=> #[])).push (seqObj "tuple" vs.toArray 0)).push (seqObj "list" #[] 0)).get? a=some (seqObj "list" #[] i):=hP1 _ (hP1 _ f);show dG (model prog w) A _ P E {s with heap:=((s.heap.update a (Obj.mapSeq fun _=> #[])).push (seqObj "tuple" vs.toArray 0)).push (seqObj "list" #[] 0)};dsimp only;have q:vs.toArray.size=vs.length:=by simp
 have d:=hp.length_eq;have g:∀xs:Array Keyed,xs.map (·.2)=ws.toArray->P (.done (.ret .none)) {s with heap:=sortedHeap s.heap a vs (xs.map (·.2))}:=fun xs e=>by rw[e];exact h
 by_cases h2:vs.toArray.size<2
 ·rw [if_pos h2,if_pos h2];refine wB1 (wP1 ?_);rw [StateT.run_pure];refine wB1 (wP1 (wB1 (seqEpoch_at c rfl ?_)));have e:((vs.toArray.zip vs.toArray).map (·.2):Array dr)=ws.toArray:=by
   have:vs=ws:=by
    match vs,ws,hp,h2 with
    |[],ws,hp,_=>exact(List.nil_perm.mp hp).symm
    |[x],ws,hp,_=>exact(List.singleton_perm.mp hp).symm ▸ rfl
    |_::_::_,_,_,h2=>simp at h2;lia
   subst this;apply Array.ext';simp;exact List.map_snd_zip (nR1 _)
  refine wB1 (listUpdate_at c rfl ?_ (hsz2:=by
   show(Array.map (·.2) (vs.toArray.zip vs.toArray)).size<=_;rw[e,sT1,<- d];lia))
  simp only[bne_self_eq_false,bF1,if_false];exact wP1 (g _ e)
 ·rw [if_neg h2,if_neg h2];obtain ⟨C,K⟩:=p _ keep (by lia);refine wB1 (K _ ?_);refine wB1 (wpAny_mono (Hh C (st:=SortSt.mk' κ (vs.toArray.zip vs.toArray) #[] 7 none)
   (Q:=fun _ st'=>(arrOf st').Perm (pairsOf vs)/\failedOf st'=none/\Srt ws (arrOf st').toList) ⟨rfl,rfl,Array.Perm.refl _,rfl,(fun r k=>by cases k),trivial⟩ (by rw[pairsOf_size];lia) fun st' a1 a2 a3=>⟨a1,a2,a3⟩) ?_ fun _ _ e=>e)
  rintro⟨⟨⟩,st'⟩ s' ⟨rfl,j,m,t⟩;have e:=Dr C j (Do j t);refine wB1 (seqEpoch_at c rfl ?_);refine wB1 (listUpdate_at c rfl ?_ (hsz2:=by
   show(Array.map (·.2) (arrOf st')).size<=_;rw[e,sT1,<- d];lia))
  rw[m];simp only[bne_self_eq_false,bF1,if_false];exact wP1 (g _ e)
theorem tu {v:dr}{vs ws:List dr}{κ:SortKind}{Q:dr->dw->Prop}(j:vs.length<=dF)(i:vs.Perm ws)
  (d:∀(E:dr->dw->Prop) (Q:List dr->dw->Prop),(∀h',(∀b u,s.heap.get? b=some u->h'.get? b=some u)->s.heap.objs.size<=h'.objs.size->Q vs {s with heap:=h'})->dG (model prog w) A.in1 (collect v) Q E s)
  (l:∀a:dH,(∀b u,s.heap.get? b=some u->a.get? b=some u)->kY prog w A.in1.in1 {s with heap:=a} κ ws (pairsOf vs) /\
   (vs≠[] -> ∀(E:dr->dw->Prop) (Q:SortKind->dw->Prop),Q κ {s with heap:=a}->dG (model prog w) A.in1.in1 (keyKind' vs.toArray) Q E {s with heap:=a}))
  (h:∀(a:dH) (L:dy) (n:Nat),(∀b u,s.heap.get? b=some u->a.get? b=some u)->s.heap.objs.size<=L->a.get? L=some (seqObj "list" ws.toArray n)->Q (.ref L) {s with heap:=a}):
  dG (model prog w) A (call (.builtin "sorted") [v]) Q E s:=by
 refine Calls.call_function_entry kind_sorted plain_sorted entry_sorted (args_sorted1 _) ?_;unfold Builtin.«sorted»;refine wB1 (m:=checkCount "sorted" 1 1 _) (wP1 ?_);refine wB1 (d _ _ fun h' keep f=>?_);refine wB1 (wpAny_newList (hsz:=j) ?_);have c:(h'.push (seqObj "list" vs.toArray 0)).get? h'.objs.size=some (seqObj "list" vs.toArray 0):=hS1 _ rfl;show dG _ _ _ _ _ {s with heap:=h'.push (seqObj "list" vs.toArray 0)};refine wB1 (wpAny_holding (wE1 slot_list_sort ⟨_,c,rfl⟩ entry_list_sort (xY (s:={s with heap:=h'.push (seqObj "list" vs.toArray 0)}) (κ:=κ) (ws:=ws) c j i (fun a o h2=>?_) ⟨_,rfl,?_⟩) (args_list_sort _)))
 ·have:=l a fun b u e=>o b u (nN1 (hL1 (keep b u e))) (hP1 _ (keep b u e));exact⟨this.1,this.2 (fun z=>by rw[z]at h2;simp at h2) _⟩
 ·obtain⟨n,g⟩:=sortedHeap_at (out:=ws.toArray) c;refine wP1 ⟨_,rfl,h _ h'.objs.size n (fun b u e=>?_) f g⟩;have k:b<h'.objs.size:=hL1 (keep b u e);show(sortedHeap (h'.push (seqObj "list" vs.toArray 0)) h'.objs.size vs ws.toArray).get? b=some u;rw[sortedHeap_old (nN1 k) (by rw[hZ1];exact cE k)];exact hP1 _ (keep b u e)
end
noncomputable def mS:G1:=fun d S=>match dY S d with
 |some (true,xs)=>(mP xs).bind fun _=>if(lQ xs&&(lc (jJ xs)&&decide (xs.length<=100000)))=true then some (.ref S.length,S++[.lst (jJ xs)])else none
 |_=>none
section
variable{X:Cx}
theorem Ci(U:X.A.units+64<cLine):e0 X (.builtin "sorted") (rN X.K (b1 mS)):=by
 intro pins s σ H xs R Q I r h;obtain⟨x,mu,S,d,V,T,rfl,N,m,g,hc⟩:=DA h;unfold mS at g;split at g
 ·rename_i ds K;obtain⟨f,J,g⟩:=oB1.mp g;split at g
  ·rename_i c;cases g;rw[bA1,bA1,decide_eq_true_eq]at c;obtain⟨a,vs,rfl,q,t⟩:=d0 N m K;obtain⟨u,rfl,r2⟩:=iG r;cases r2;obtain⟨j,p,B,P⟩:=I.list q;have k:j.length=ds.length:=by rw[<- p.length,<- t.length]
   have i:j.length<=dF:=by rw[k,sizeLine_eq];lia
   obtain⟨w,zs,O,z,C,D,G⟩:=Dq I m (A:=X.A.in1.in1) (by show X.A.units+1+1+60<cLine;lia) (f:=f) t p c.1 (tZ J) c.2.1;refine tu i C (fun E Q q=>?_) G (fun F L n keep y v=>?_)
   ·refine collect_list B.isList (q _ (fun b u e=>?_) ?_) i
    ·have M:b<s.heap.objs.size:=hL1 e;rw[hU1 _ _ _ _ (nN1 M)];exact hP1 _ e
    ·rw[Heap.size_update,hZ1];exact aX _
   ·have l:H L=none:=I.hok.fresh y;refine⟨.ref L,_,I.laid (t':=s.toks) (o:=.lst w) keep y ⟨?_,zs,n,z,v⟩,rfl,hc _ _ (mu++[L]) (Ext.new_ l) (.ref (gi m.len _)) (m.newL O l)⟩;rw[D,p.length];exact i
  ·cases g
 ·cases g
end
theorem oF:entryFor table "dict.update.loop"=some Builtin.«dict.update.loop» :=entryFor_of_tree (by kernel_rfl)
theorem jc:plainId "dict.update.loop"=true:=by decide+kernel
theorem wv:typeLookup (.type "list") (Str.ofString "keys")=pure none:=by rw[typeLookup_type,builtinLookup_eq_fast];kernel_rfl
section
variable{P:dz}{w:dB}{A:dA}{E:dr->dw->Prop}{s:dw}
theorem xi {a:dy}{xs:Array dr}{k:Nat}{sl:Array (Option dr)}{Q:Option dr->dw->Prop}(hx:s.heap.get? a=some {cls:=.type "list",dict:=none,data:=.seq xs k,slots:=sl})(m:A.handled=none)
  (h:∀h' tk,(∀b o,s.heap.get? b=some o->h'.get? b=some o)->Q none {s with heap:=h',toks:=tk}):dG (model P w) A (getAttr? (.ref a) (Str.ofString "keys")) Q E s:=by
 obtain⟨j,g,d,tk,l⟩:=s;have i:∀f,(⟨j,g,d,f,l⟩:dw).TypeIs (.ref a) "list":=fun _=>⟨_,hx,rfl⟩;have t:=sub_AttributeError;have v:=PySem.F.slot_list_getattribute.lookup;have r:=PySem.F.slot_list_getattribute.bind (.ref a);have n:=am_list_getattr_none;unfold getAttr? getAttrBy? getAttrBy
 repeat(any_goals (first|assumption|exact i _|((with_reducible show dG _ _ (call (Value.builtin "list.__getattribute__") _ _) _ _ _);refine call_meets PySem.F.slot_list_getattribute (i _) am_entry_list_getattribute (PySem.F.args_list_getattribute_2 _ _) (meets_getattribute_miss_list a xs k sl _ _ wv (by decide) (by decide)) ⟨hx,m,fun h' f e c=>?_⟩)|wp_step))
 obtain⟨q,p,u⟩:=c.there;show dG _ _ (getattributeRaised _ _ _ _ _ _ _) _ _ _;unfold getattributeRaised
 repeat(any_goals (first|assumption|wp_step))
 exact h _ _ c.keeps
variable{K:Type} [DecidableEq K] {knd:HeapKind P w K}
abbrev sN(K:Type):=K×dy×dr
noncomputable def gk(ps:List (sN K)):List (sN K):=ps.foldl (fun a q=>storedH a q.1 q.2.1 q.2.2) []
theorem qz(xs:List (sN K))(k:K)(a:dy)(v:dr):(storedH xs k a v).length<=xs.length+1:=by
 unfold storedH;split
 ·rw[lM1];exact aX _
 ·rw[lA1];exact nR1 _
theorem oA:∀(ps acc:List (sN K)),(ps.foldl (fun a q=>storedH a q.1 q.2.1 q.2.2) acc).length<=acc.length+ps.length
 |[],acc=>nR1 _
 |p::ps,acc=>by
  rw[b9,lC1];have h1:=oA ps (storedH acc p.1 p.2.1 p.2.2);have h2:=qz acc p.1 p.2.1 p.2.2;lia
theorem t8{ps:List (sN K)}{i:Nat}{q:sN K}(h:ps[i]?=some q):gk (ps.take (i+1))=storedH (gk (ps.take i)) q.1 q.2.1 q.2.2:=by
 unfold gk;rw[cD,h,List.foldl_append];rfl
theorem r4{F:sN K->Prop}(c:∀(k:K) (a:dy) (v e:dr),F (k,a,v)->F (k,a,e)):∀(ps acc:List (sN K)),(∀x∈ps,F x)->(∀x∈acc,F x) -> ∀x∈ps.foldl (fun a q=>storedH a q.1 q.2.1 q.2.2) acc,F x
 |[],acc,_,h=>h
 |p::ps,acc,hp,h=>by
  rw[b9];refine r4 c ps _ (fun x b=>hp x (mC1 _ b)) fun x b=>?_;unfold storedH at b;split at b
  ·obtain⟨y,d,rfl⟩:=cc.mp b;unfold putAt;split
   ·exact c _ _ y.2.2 _ (h y d)
   ·exact h y d
  ·rcases aG.mp b with z|z
   ·exact h x z
   ·simp at z;subst z;exact hp p mS1
theorem zC{h:dH}{ps:List (sN K)}(hp:∀x∈ps,knd.is h x.1 x.2.1):∀x∈gk ps,knd.is h x.1 x.2.1:=
 r4 (F:=fun x=>knd.is h x.1 x.2.1) (fun _ _ _ _ z=>z) ps [] hp fun x a=>by cases a
theorem wY{d l it:dy}{h0:dH}{its:Array dr}{ps:List (sN K)}{R:Result->dw->Prop}(hh:A.handled=none)(hu:knd.room A.in1)(v:its.size=ps.length)(Y:ps.length<=dF)(V:h0.IsList l its)(nd:h0.get? d=none)(ni:h0.get? it=none)(m:d≠it)(f:∀(h:dH) (k:K) (a:dy),(∀c o,h0.get? c=some o->h.get? c=some o)->knd.is h0 k a->knd.is h k a)(U:∀(i:Nat) (q:sN K),ps[i]?=some q -> ∃C:dy,its[i]?=some (Value.ref C)/\h0.IsTuple C #[Value.ref q.2.1,q.2.2]/\knd.is h0 q.1 q.2.1):
  ∀(n i:Nat) (s:dw),its.size-i=n->i<=its.size->(∀c o,h0.get? c=some o->s.heap.get? c=some o)->s.heap.IsListIter it l i->s.heap.DictOfH knd d (gk (ps.take i)) ->
  (∀h' tk,(∀c o,h0.get? c=some o->h'.get? c=some o)->h'.DictOfH knd d (gk ps)->R (.ok (.ret .none)) {s with heap:=h',toks:=tk})->codeAny (model P w) A (.builtin "dict.update.loop" ⟨[.ref d,.ref it,.int i 0,.none],[]⟩) R s:=by
 have D:∀{c:dy} {o:Obj},h0.get? c=some o->c≠d/\c≠it:=fun{c o} e=>⟨fun z=>(by rw[z,nd]at e;cases e),fun z=>(by rw[z,ni]at e;cases e)⟩;have y:∀i,∀x∈gk (ps.take i),knd.is h0 x.1 x.2.1:=fun i=>zC fun x p=>by
  obtain⟨j,hj⟩:=bo (cK p);obtain⟨_,_,_,h⟩:=U j x hj;exact h
 intro n
 induction n with
 |zero=>
  intro i s hk hi keep st J q;have e:i=its.size:=by lia
  subst e;have g:s.heap.IsList l its:=by obtain⟨o,e,r⟩:=V;exact⟨o,keep _ _ e,r⟩
  refine wD1 oF (?_:_);rw[Around.under_plainId jc _];show dG _ A.in1 (pyNext (.ref it) >>= _) _ _ s;refine wB1 (wpAny_pyNext_list_end (by simpa using hh) st g (by simp) fun h' N=>?_);refine wB1 (wP1 (wP1 ?_));refine q h' s.toks (fun c o e=>N c o (D e).2 (keep c o e)) ?_;have t:h'.DictOfH knd d (gk (ps.take its.size)):=by
   obtain⟨o,es,ep,E,O,F,I,g5,G⟩:=J;have Z:∀x∈gk (ps.take its.size),knd.is h' x.1 x.2.1:=fun x p=>f _ _ _ (fun c o e=>N c o (D e).2 (keep c o e)) (y _ x p);exact⟨o,es,ep,N d o m E,O,F,I,Z,G⟩
  rw[v,bY]at t;exact t
 |succ n ih=>
  intro i s hk hi keep st J q;have Q:i<its.size:=by lia
  have g:s.heap.IsList l its:=by obtain⟨o,e,r⟩:=V;exact⟨o,keep _ _ e,r⟩
  obtain⟨pr,B⟩:∃pr,ps[i]?=some pr:=⟨_,gG1 (by lia)⟩;obtain⟨C,p,⟨op,S,hc,np,hd⟩,L⟩:=U i pr B;refine wD1 oF (?_:_);rw[Around.under_plainId jc _];show dG _ A.in1 (pyNext (.ref it) >>= _) _ _ s;refine wB1 (wpAny_pyNext_list_item st g p fun h' st' W=>?_);have b:∀c o,h0.get? c=some o->h'.get? c=some o:=fun c o e=>by rw[W.2 c (D e).2];exact keep c o e
  have M:h'.DictOfH knd d (gk (ps.take i)):=by
   obtain⟨o,es,ep,E,O,F,I,g5,G⟩:=J;exact⟨o,es,ep,by rw[W.2 d m];exact E,O,F,I,fun x p=>f _ _ _ b (y _ x p),G⟩
  show dG _ A.in1 (holding [Value.ref C] _ >>= _) _ _ _;refine wB1 (wpAny_holding (wB1 (wpAny_tryCatch ?_)));unfold Builtin.Dict.pairItems;refine wB1 (wpAny_typeOf (T:="tuple") ⟨op,b _ _ S,hc⟩ ?_);rw[if_pos (by decide)];refine wB1 (wpAny_seqItems (b _ _ S) hd (wP1 ?_));dsimp only[b7];refine wpAny_holding (wpAny_dictSet_heap (s:={s with heap:=h'}) hu (f _ _ _ b L) M (fun h2 H u=>?_) ?_)
  ·refine wP1 ⟨plainId_quiet jc _,?_⟩;have hq:=ih (i+1) {s with heap:=h2,toks:=s.toks+knd.draws pr.1} (by lia) Q (fun c o e=>by rw [u.2 c (D e).1];exact b c o e) (by
    obtain⟨o,e1,e2⟩:=st';exact⟨o,by rw[u.2 it (Ne.symm m)];exact e1,e2⟩) (by rw[t8 B];exact H) fun h3 tk X x3=>q h3 tk X x3
   exact hq
  ·have:=oA (ps.take i) [];unfold gk;rw[aR]at this;simp at this;lia
theorem ug {l:dy}{xs:Array dr}{m:Nat}{sl:Array (Option dr)}{Q:dr->dw->Prop}(n:A.handled=none)(hx:s.heap.get? l=some {cls:=.type "list",dict:=none,data:=.seq xs m,slots:=sl})
  (i:∀(k:dA) (h1:dH) (tk:Nat) (it:dy),k.handled=none->k.units<=A.units+2->(∀b o,s.heap.get? b=some o->h1.get? b=some o)->s.heap.get? it=none->s.heap.objs.size≠it->h1.IsListIter it l 0->h1.DictOfH knd s.heap.objs.size [] ->
   ∀R:Result->dw->Prop,(∀s',Q (.ref s.heap.objs.size) s'->R (.ok (.ret .none)) s')->codeAny (model P w) k (.builtin "dict.update.loop" ⟨[.ref s.heap.objs.size,.ref it,.int 0 0,.none],[]⟩) R {s with heap:=h1,toks:=tk}):
  dG (model P w) A (call (.type "dict") [.ref l]) Q E s:=by
 refine callType_codes (Q₁:=fun g f=>g = .ref s.heap.objs.size/\f={s with heap:=s.heap.push {cls:=.type "dict",data:=.dict #[]}}) PySem.F.kt_called_dict (PySem.F.kt_typeCall_dict_1 _) PySem.F.entry_dict_init (kt_code_dict_new _ ⟨rfl,rfl⟩) ?_;rintro g f ⟨rfl,rfl⟩;have d:(s.heap.push {cls:=.type "dict",data:=.dict #[]}).DictOfH knd s.heap.objs.size []:=Heap.DictOfH.new s.heap;have p:Shared.TypeIs {s with heap:=s.heap.push {cls:=.type "dict",data:=.dict #[]}} (.ref s.heap.objs.size) "dict":=d.typeIs;have h:(s.heap.push {cls:=.type "dict",data:=.dict #[]}).get? l=some {cls:=.type "list",dict:=none,data:=.seq xs m,slots:=sl}:=hP1 _ hx;refine⟨p,PySem.F.args_dict_init_2 _ _,?_⟩;unfold Builtin.«dict.__init__»;refine wB1 ?_;unfold Builtin.Dict.selfAndRest;refine wB1 (wpAny_notOrdered_dict p ?_);show dG _ _ (pure (s.heap.objs.size,[Value.ref l])) _ _ _;refine wP1 ?_;show dG _ _ (Builtin.Dict.updateFrom "dict.__init__" s.heap.objs.size (.ref l) [] .none) _ _ _;unfold Builtin.Dict.updateFrom;refine wB1 (wpAny_typeOf (T:="list") ⟨_,h,rfl⟩ ?_);rw[if_pos (by decide)];refine wB1 (xi (s:={s with heap:=s.heap.push {cls:=.type "dict",data:=.dict #[]}}) h (by simpa using n) fun h1 tk keep=>?_);rw[if_pos (show(none:Option dr).isNone=true from rfl)];have a:∀b o,s.heap.get? b=some o->h1.get? b=some o:=fun b o e=>keep b o (hP1 _ e);have C:h1.IsList l xs:=⟨_,a _ _ hx,rfl,m,rfl⟩;refine wB1 (wpAny_rule (wB1 (wpAny_pyIter_list (s:={s with heap:=h1,toks:=tk}) C ?_)));obtain⟨y,es,ep,t,B,u,z,D,v⟩:=d;have r:=keep _ _ t;have j:=hL1 r;have c:h1.get? h1.objs.size=none:=Heap.get?_none_of_le (nR1 _);refine wB1 (wP1 (wP1 ⟨plainId_quiet jc _,?_⟩));refine i A.in1 _ tk h1.objs.size (by simpa using n) (aX _) (fun b o e=>hP1 _ (a b o e)) ?_ (nN1 j) ?_ ?_ _ fun s' q=>⟨rfl,q⟩
 ·cases e:s.heap.get? h1.objs.size with
  |none=>rfl
  |some o=>rw[a _ _ e]at c;cases c
 ·exact⟨_,hS1 _ rfl,rfl,rfl⟩
 ·exact⟨y,es,ep,hP1 _ r,B,u,z,(fun x hx=>by cases hx),v⟩
end
noncomputable def Jl(F:List (TK×D)):Ob:=match F with
 |[]=>.dct []
 |_=>.dcT F
noncomputable def uX:D->Option (TK×D)
 | .tup [k,v]=>(keyT k).map fun k=>(k,v)
 |_=>none
noncomputable def iL:List D->Option (List (TK×D))
 |[]=>some []
 |x::xs=>(uX x).bind fun p=>(iL xs).map (p :: ·)
noncomputable def lr(ps:List (TK×D)):List (TK×D):=ps.foldl (fun F p=>eV F p.1 p.2) []
noncomputable def mT:G1:=fun d S=>match dY S d with
 |some (true,xs)=>(iL xs).bind fun ps=>if xs.length<=100000 then some (.ref S.length,S++[Jl (lr ps)])else none
 |_=>none
section
variable{X:Cx}{pins:List (dy×Obj)}{σ:L2.St}{H:Hp}{s:dw}{mu:List dy}
theorem yF(I:Inv X pins σ H s){d:D}{v:V}{u:dr}{p:TK×D}(r:eB X.K H mu d v)(q:dX v u)(h:uX d=some p):
  ∃w:sN TK,(p.1=w.1/\p.1.dep<=8/\eB X.K H mu (tkD p.1) (.ref w.2.1) /\ ∃v,dX v w.2.2/\eB X.K H mu p.2 v) /\ ∃g:dy,u = .ref g/\s.heap.IsTuple g #[Value.ref w.2.1,w.2.2]/\(fC X.prog X.w).is s.heap w.1 w.2.1:=by
 unfold uX at h;split at h
 ·rename_i k x;obtain⟨t,z,e⟩:=oM1.mp h;subst e;cases r with
  | @tup _ a vs h1 h2=>
   cases q;obtain⟨m,l,j,_⟩:=I.tuple h1;cases h2 with
   |cons y c=>cases c with
    |cons r2 f=>
     cases f;cases l with
     |cons n c=>cases c with
      |cons i f=>
       cases f;obtain⟨b,rfl,rfl,rk,o,hi⟩:=iR I y n z;exact⟨(t,b,_),⟨rfl,o,rk,_,i,r2⟩,_,rfl,j,hi⟩
 ·cases h
theorem n0(I:Inv X pins σ H s):∀ {ds:List D} {vs:List V} {b:List dr} {ps:List (TK×D)},dW X.K H mu ds vs->ea vs b->iL ds=some ps ->
  ∃ws:List (sN TK),KT X.K H mu ps ws/\ws.length=b.length /\ ∀(i:Nat) (q:sN TK),ws[i]?=some q -> ∃a:dy,b[i]?=some (Value.ref a)/\s.heap.IsTuple a #[Value.ref q.2.1,q.2.2]/\(fC X.prog X.w).is s.heap q.1 q.2.1
 |[],_,_,ps,.nil,.nil,h=>by cases h;exact⟨[],.nil,rfl,fun i q h=>by simp at h⟩
 |d::ds,_,_,ps,.cons r t,.cons q j,h=>by
  rw[iL]at h;obtain⟨p,l,h⟩:=oB1.mp h;obtain⟨c,n,h⟩:=oM1.mp h;subst h;obtain⟨w,e,a,m,f,k⟩:=yF I r q l;obtain⟨ws,h1,h2,g⟩:=n0 I t j n;refine⟨w::ws,.cons e h1,by rw[lC1,lC1,h2],fun i q h=>?_⟩;cases i with
  |zero=>simp at h;subst h;exact⟨a,by rw[m];rfl,f,k⟩
  |succ i=>exact g i q (by simpa using h)
theorem KT.fold{K:Fg1}:∀{ps:List (TK×D)} {ws:List (sN TK)} {as:List (TK×D)} {bs:List (sN TK)},KT K H mu ps ws->KT K H mu as bs->KT K H mu (ps.foldl (fun F p=>eV F p.1 p.2) as) (ws.foldl (fun a q=>storedH a q.1 q.2.1 q.2.2) bs):=by
 intro ps ws as bs h
 induction h generalizing as bs with
 |nil=>exact fun g=>g
 | @cons p q ps ws r t ih=>
  intro g;obtain⟨e,c,rk,v,b,r2⟩:=r;rw[b9,b9,<- e];exact ih (g.put c rk b r2)
theorem wS(ps:List (TK×D)):(lr ps).length<=ps.length:=by
 have:∀(ps a:List (TK×D)),(ps.foldl (fun F p=>eV F p.1 p.2) a).length<=a.length+ps.length:=by
  intro ps
  induction ps with
  |nil=>intro a;exact nR1 _
  |cons p ps ih=>
   intro a;rw[b9,lC1];have h1:=ih (eV a p.1 p.2);have h2:=ln a p.1 p.2;lia
 have:=this ps [];simpa[lr]using this
theorem mw:∀{ds:List D} {ps:List (TK×D)},iL ds=some ps->ps.length=ds.length
 |[],ps,h=>by cases h;rfl
 |d::ds,ps,h=>by
  rw[iL]at h;obtain⟨p,c,h⟩:=oB1.mp h;obtain⟨a,b,h⟩:=oM1.mp h;subst h;rw[lC1,lC1,mw b]
theorem Ck{k:Nat}(hr:fF k X.A):e0 X (.type "dict") (rN X.K (b1 mT)):=by
 intro pins s σ H xs us Q I r h;obtain⟨x,mu,S,d,r',S',rfl,r1,l,c,hc⟩:=DA h;unfold mT at c;split at c
 ·rename_i ds Y;obtain⟨ps,ep,c⟩:=oB1.mp c;split at c
  ·rename_i hl;cases c;obtain⟨a,vs,rfl,q,t⟩:=d0 r1 l Y;obtain⟨u,rfl,r2⟩:=iG r;cases r2;obtain⟨A,M,T,hz⟩:=I.list q;obtain⟨ws,V,w,hP⟩:=n0 I t M ep;have D:A.length=ds.length:=by rw[<- M.length,<- t.length]
   obtain⟨ol,n,N,m,C,f⟩:=T;obtain⟨oc,od,oa,os⟩:=ol;dsimp only at m C f
   subst m C f
   have hu:=hr.un;refine ug (knd:=fC X.prog X.w) hr.hd N fun A' h1 tk it J U keep W ne st hD R hR=>?_;have L:ws.length<=100000:=by rw[w,D];exact hl
   have big:ws.length<=dF:=aC L (by decide);refine wY (knd:=fC X.prog X.w) (h0:=s.heap) (its:=A.toArray) (ps:=ws) J (by show A'.units+1+8<cLine;lia) (by rw[sT1];exact w.symm) big ⟨_,N,rfl,n,rfl⟩ (Heap.get?_none_of_le (nR1 _)) W ne
    (fun h k a e z=>⟨z.1.grows e,z.2⟩) (fun i q e=>?_) _ 0 _ rfl (bh _) keep st (by simpa[gk]using hD) fun h' B b g=>hR _ ?_
   ·obtain⟨pa,Z,e2,e3⟩:=hP i q e;exact⟨pa,by rw[cg];exact Z,e2,e3⟩
   ·have v:H s.heap.objs.size=none:=I.fresh;have j:KT X.K H mu (lr ps) (gk ws):=KT.fold V .nil;have y:(s.heap.objs.size == sysModules)=false:=beq_eq_false_iff_ne.mpr (Ne.symm (nN1 I.big));have E:(gk ws).length<=dF:=by
     rw[<- j.length];have h1:=wS ps;have h2:=mw ep;exact aC (by lia:(lr ps).length<=100000) (by decide)
    cases ef:lr ps with
    |nil=>
     rw[ef]at j hc;generalize gk ws=fw at j g E;cases j;obtain⟨o,es,K,O,g2,P,g4,g5,g6⟩:=g;have G:es = #[]:=Array.toList_inj.mp (by simpa using g4);subst G;refine⟨.ref s.heap.objs.size,upd H s.heap.objs.size (.dK []),I.laid (t':=B) (o:=.dK []) b (nR1 _) ⟨bh _,y,[],.nil,o,#[],K,O,g2,P,?_,?_,bn⟩,rfl,hc _ _ (mu++[s.heap.objs.size]) (Ext.new_ v) (.ref (gi l.len _)) (l.new v ⟨[],d2,.nil⟩)⟩
     ·intro e G;simp at G
     ·exact .nil
    |cons p F=>
     rw[ef]at j hc;refine⟨.ref s.heap.objs.size,upd H s.heap.objs.size (.ext (fO s.heap.objs.size (gk ws))),I.laid (t':=B) b (nR1 _) (qa y g),rfl,hc _ _ (mu++[s.heap.objs.size]) (Ext.new_ v) (.ref (gi l.len _)) (l.new v ⟨_,d2,j.ext (Ext.new_ v),E⟩)⟩
  ·cases c
 ·cases c
end
section
variable{K:Fg1}{H:Hp}{mu nu:List dy}{a:dy}{h:Nat}
end
noncomputable def W{α:Type}(o:Option α)(Q:α->Prop):Prop:=∃x,o=some x/\Q x
section
variable{α β:Type}{Q:α->Prop}
theorem eh{x:α}:W (some x) Q↔Q x:=⟨fun⟨_,e,h⟩=>(by cases e;exact h),fun h=>⟨x,rfl,h⟩⟩
theorem jz:W (none:Option α) Q↔False:=⟨fun⟨_,e,_⟩=>(by cases e),False.elim⟩
theorem dZ{o:Option β}{f:β->Option α}:W (o.bind f) Q↔W o fun x=>W (f x) Q:=by
 cases o with
 |none=>exact⟨fun⟨_,e,_⟩=>(by cases e),fun⟨_,e,_⟩=>(by cases e)⟩
 |some x=>exact⟨fun h=>⟨x,rfl,h⟩,fun⟨_,e,h⟩=>by cases e;exact h⟩
theorem kx{o:Option β}{f:β->α}:W (o.map f) Q↔W o fun x=>Q (f x):=by
 cases o with
 |none=>exact⟨fun⟨_,e,_⟩=>(by cases e),fun⟨_,e,_⟩=>(by cases e)⟩
 |some x=>exact⟨fun⟨_,e,h⟩=>(by cases e;exact⟨x,rfl,h⟩),fun⟨_,e,h⟩=>(by cases e;exact⟨_,rfl,h⟩)⟩
theorem sH{c:Prop}[Decidable c]{a b:Option α}:W (if c then a else b) Q↔if c then W a Q else W b Q:=by split<;>exact Iff.rfl
theorem W.mono{o:Option α}{Q':α->Prop}(h:W o Q)(k:∀x,Q x->Q' x):W o Q':=let ⟨x,e,q⟩:=h;⟨x,e,k x q⟩
theorem W.of{o:Option α}{x:α}(e:o=some x)(h:Q x):W o Q:=⟨x,e,h⟩
end
theorem eA{a b:FS}{r:Ev}{S:Sto}{Q:Fl×Ev×Sto->Prop}(R:Ev->Sto->Prop)(h1:W (a r S) fun p=>p.1 = .nx/\R p.2.1 p.2.2)(h2:∀r S,R r S->W (b r S) Q):W (d5 a b r S) Q:=by
 obtain⟨⟨f,g,h⟩,e,d,c⟩:=h1;dsimp only at d c;subst d;unfold d5;rw[e];exact h2 g h c
theorem mW{n:Nat}{b:FS}{ds:List D}{S:Sto}{Q:D×Sto->Prop}(h:W (b (gz n ds) S) fun p=>match p.1 with
  | .rt d=>Q (d,p.2.2)
  | .nx=>Q (.non,p.2.2)
  |_=>False):W (iy n b ds S) Q:=by
 obtain⟨⟨f,a,c⟩,e,q⟩:=h;unfold iy;rw[e];cases f with
 |rt d=>exact⟨_,rfl,q⟩
 |nx=>exact⟨_,rfl,q⟩
 |bk=>exact q.elim
 |ct=>exact q.elim
theorem m7{n:Nat}{f:FN}{ds:List D}{S:Sto}{Q:D×Sto->Prop}(hn:ds.length=n)(a:D.unds 0 ds=false)(h:W (f ds S) fun p=>Q (gc S.length p)):W (dS n f ds S) Q:=by
 obtain⟨⟨d,b⟩,e,q⟩:=h;exact⟨_,oI e hn a,q⟩
theorem kq{n:Nat}{f:FN}{ds:List D}{S:Sto}{Q:D×Sto->Prop}(hn:ds.length=n)(c:D.unds 0 ds=true)(h:W (f ds []) fun p=>p.1.und 0=true/\Q (p.1,S)):W (dS n f ds S) Q:=by
 obtain⟨⟨d,g⟩,e,b,a⟩:=h;exact⟨_,xb e hn c b,a⟩
mutual
theorem fz{n:Nat}:∀{d:D},d.und 0=true->d.und n=true
 | .non,_=>rfl
 | .bl _,_=>rfl
 | .int _,_=>rfl
 | .str _,_=>rfl
 | .tup xs,h=>by rw[D.und]at h ⊢;exact gX h
 | .rol xs,h=>by rw[D.und]at h ⊢;exact gX h
 | .fn _,_=>rfl
 | .ref k,h=>by simp[D.und]at h
theorem gX{n:Nat}:∀{ds:List D},D.unds 0 ds=true->D.unds n ds=true
 |[],_=>rfl
 |d::ds,h=>by
  rw[D.unds,bA1]at h ⊢;exact⟨fz h.1,gX h.2⟩
end
theorem vP{n:Nat}{f:FN}{ds:List D}{o:Ob}{T:Sto}{Q:D×Sto->Prop}(hn:ds.length=n)(b:D.unds 0 ds=false)(a:T.all (Ob.und (T.length+1))=true)(h:W (f ds (o::T)) fun p=>∃d o' G,p=(d,o'::(T++G))/\d.und 0=true/\o'.und (T.length+1)=true/\Q (d,o'::T)):W (dS n f ds (o::T)) Q:=by
 refine m7 hn b (h.mono ?_);rintro p ⟨d,o',G,rfl,g,c,q⟩;have e:(o'::(T++G)).take (T.length+1)=o'::T:=by simp
 unfold gc;dsimp only[lC1];rw[if_pos (by rw[e,fz g,bP,c,a];rfl),e];exact q
theorem fL{c:List (Nat×List D)}{g:FG}{b:FS}{Q:Fl×Ev×Sto->Prop}(I:Nat->Ev->Sto->Prop):∀ (items:List D) (k:Nat) (r:Ev) (S:Sto),I k r S ->
  (∀i r S,I i r S->n3 S c=true) ->
  (∀i d,items[i]?=some d -> ∀r S,I (k+i) r S->W (g d r S) fun p=>W (b p.1 p.2) fun q=>q.1 = .nx/\I (k+i+1) q.2.1 q.2.2) ->
  (∀r S,I (k+items.length) r S->Q (.nx,r,S))->W (j8 c g b items r S) Q
 |[],k,r,S,hi,hok,_,hq=>by rw[j8];dsimp only;rw[if_pos (hok _ _ _ hi),eh];exact hq r S (by simpa using hi)
 |d::ds,k,r,S,hi,hok,hs,hq=>by
  rw[j8];dsimp only;rw[if_pos (hok _ _ _ hi),dZ];obtain⟨p,m,h1⟩:=hs 0 d rfl r S (by simpa using hi);refine⟨p,m,?_⟩;dsimp only;rw[dZ];obtain⟨⟨f,n,j⟩,o,h2,e⟩:=h1;refine⟨_,o,?_⟩;dsimp only at h2 e ⊢;subst h2;refine fL I ds (k+1) n j (by simpa using e) hok (fun i h l r S a=>?_) fun r S a=>hq r S (by rw[lC1,show k+(ds.length+1)=k+1+ds.length by lia];exact a);have:=hs (i+1) h (by simpa using l) r S (by rw[show k+(i+1)=k+1+i by lia];exact a);rw[show k+(i+1)+1=k+1+i+1 by lia]at this;exact this
theorem jg{c:List (Nat×List D)}{g:FG}{t:FT}{e:FE}{Q:List D×Ev×Sto->Prop}(I:Nat->List D->Ev->Sto->Prop):∀ (items:List D) (k:Nat) (acc:List D) (r:Ev) (S:Sto),I k acc r S ->
  (∀i acc r S,I i acc r S->n3 S c=true) ->
  (∀i d,items[i]?=some d -> ∀acc r S,I (k+i) acc r S->W (g d r S) fun p=>W (t p.1 p.2) fun b=>if b.1=true then W (e p.1 b.2) fun x=>I (k+i+1) (acc++[x.1]) p.1 x.2 else I (k+i+1) acc p.1 b.2) ->
  (∀xs r S,I (k+items.length) (acc++xs) r S->Q (xs,r,S))->W (fB c g t (ev e) items r S) Q
 |[],k,acc,r,S,hi,hok,_,hq=>by rw[fB];dsimp only;rw[if_pos (hok _ _ _ _ hi),eh];exact hq [] r S (by simpa using hi)
 |d::ds,k,acc,r,S,hi,hok,hs,hq=>by
  rw[fB];dsimp only;rw[if_pos (hok _ _ _ _ hi),dZ];obtain⟨p,n,h1⟩:=hs 0 d rfl acc r S (by simpa using hi);refine⟨p,n,?_⟩;dsimp only;rw[dZ];obtain⟨⟨b,j⟩,q,h2⟩:=h1;refine⟨_,q,?_⟩;have step:∀i f,ds[i]?=some f -> ∀acc r S,I (k+1+i) acc r S->W (g f r S) fun p=>W (t p.1 p.2) fun b=>if b.1=true then W (e p.1 b.2) fun x=>I (k+1+i+1) (acc++[x.1]) p.1 x.2 else I (k+1+i+1) acc p.1 b.2:=fun i f l acc r S a=>by
   have:=hs (i+1) f (by simpa using l) acc r S (by rw[show k+(i+1)=k+1+i by lia];exact a);rw[show k+(i+1)+1=k+1+i+1 by lia]at this;exact this
  dsimp only at h2 ⊢;cases b with
  |true=>
   rw[if_pos rfl]at h2 ⊢;rw[dZ,ev,kx];obtain⟨⟨x,o⟩,m,h⟩:=h2;refine⟨_,m,?_⟩;dsimp only at h ⊢;rw[kx];refine jg I ds (k+1) (acc++[x]) p.1 o (by simpa using h) hok step fun xs r S a=>?_;refine hq _ r S ?_;rw[lC1,show k+(ds.length+1)=k+1+ds.length by lia];simpa using a
  |false=>
   rw[if_neg (by decide)]at h2 ⊢;refine jg I ds (k+1) acc p.1 j (by simpa using h2) hok step fun xs r S a=>?_;refine hq _ r S ?_;rw[lC1,show k+(ds.length+1)=k+1+ds.length by lia];exact a
theorem Df{S:Sto}{b:Bool}:tj S (.bl b)=some b:=rfl
theorem Hw{S:Sto}:tj S .non=some false:=rfl
theorem Hx{S:Sto}{i:Int}:tj S (.int i)=some (i != 0):=rfl
theorem B8{x y:Int}{S:Sto}:rZ (.int x) (.int y) S=some (.bl (x == y),S):=rfl
theorem B1{x y:Int}{S:Sto}:HH (.int x) (.int y) S=some (.bl (!(x == y)),S):=rfl
theorem B4{x y:Int}{S:Sto}:xp (.int x) (.int y) S=some (.bl (decide (x<y)),S):=rfl
theorem B7{x y:Str}{S:Sto}:rZ (.str x) (.str y) S=some (.bl (x == y),S):=rfl
theorem HG{x y:Str}{S:Sto}:HH (.str x) (.str y) S=some (.bl (!(x == y)),S):=rfl
theorem ite_and'{c p:Prop}[Decidable c]:(if c then p else False)↔c/\p:=by split<;>simp[*]
noncomputable def xt(j:Int):Bool:=decide (-(2^62)<=j)&&decide (j<2^62)
theorem fN{n:Nat}(h:n<2^60):xt n=true:=by
 unfold xt;rw[bA1,decide_eq_true_eq,decide_eq_true_eq];lia
theorem Fc{j:Int}(h: -(2^60)<=j)(h':j<2^60):xt j=true:=by
 unfold xt;rw[bA1,decide_eq_true_eq,decide_eq_true_eq];lia
noncomputable def F6(p:List D×Sto)(Q:Ak×Sto->Prop):Prop:=match p.1 with
 |[.int j]=>xt j=true/\Q (⟨gB 0 j.toNat,[]⟩,p.2)
 |_=>False
noncomputable def Hz(p:List D×Sto)(Q:Ak×Sto->Prop):Prop:=match p.1 with
 |[.int i,.int j]=>xt i=true/\xt j=true/\Q (⟨gB i (j-i).toNat,[]⟩,p.2)
 |_=>False
theorem CW{m:FA}{r:Ev}{S:Sto}{Q:Ak×Sto->Prop}:W (tX m r S) Q↔W (m r S) fun p=>F6 p Q:=by
 unfold tX;rw[dZ];constructor
 ·refine fun h=>h.mono fun p q=>?_;unfold F6;split at q
  ·rename_i j e
   try rw[e]
   rw[sH]at q;split at q
   ·rename_i hc;exact⟨by unfold xt;rw[bA1,decide_eq_true_eq,decide_eq_true_eq];exact hc,eh.mp q⟩
   ·exact(jz.mp q).elim
  ·exact(jz.mp q).elim
 ·refine fun h=>h.mono fun p q=>?_;unfold F6 at q;split at q
  ·rename_i j e;obtain⟨a,b⟩:=q;unfold xt at a;rw[bA1,decide_eq_true_eq,decide_eq_true_eq]at a
   try rw[e]
   try dsimp only
   rw[if_pos a];exact eh.mpr b
  ·exact q.elim
theorem Hk{m:FA}{r:Ev}{S:Sto}{Q:Ak×Sto->Prop}:W (GM m r S) Q↔W (m r S) fun p=>Hz p Q:=by
 unfold GM;rw[dZ];constructor
 ·refine fun h=>h.mono fun p q=>?_;unfold Hz;split at q
  ·rename_i i j e
   try rw[e]
   rw[sH]at q;split at q
   ·rename_i hc;refine⟨?_,?_,eh.mp q⟩
    ·unfold xt;rw[bA1,decide_eq_true_eq,decide_eq_true_eq];exact⟨hc.1,hc.2.1⟩
    ·unfold xt;rw[bA1,decide_eq_true_eq,decide_eq_true_eq];exact hc.2.2
   ·exact(jz.mp q).elim
  ·exact(jz.mp q).elim
 ·refine fun h=>h.mono fun p q=>?_;unfold Hz at q;split at q
  ·rename_i i j e;obtain⟨a,b,c⟩:=q;unfold xt at a b;rw[bA1,decide_eq_true_eq,decide_eq_true_eq]at a b
   try rw[e]
   try dsimp only
   rw[if_pos ⟨a.1,a.2,b⟩];exact eh.mpr c
  ·exact q.elim
noncomputable def fits(n:Nat):Bool:=decide (n<=dF)
theorem d4{n:Nat}(h:n<=100000):fits n=true:=by unfold fits;rw[decide_eq_true_eq];exact aC h (by decide)
theorem r6{n:Nat}:fits n=true↔n<=dF:=by unfold fits;rw[decide_eq_true_eq]
theorem J7:fits 0=true:=d4 (by decide)
theorem J4:fits 1=true:=d4 (by decide)
theorem Jk:fits 2=true:=d4 (by decide)
theorem J3:fits 3=true:=d4 (by decide)
theorem JZ:fits 4=true:=d4 (by decide)
theorem Ke:fits 5=true:=d4 (by decide)
theorem Kd:fits 6=true:=d4 (by decide)
theorem JY:fits 7=true:=d4 (by decide)
theorem Kc:fits 8=true:=d4 (by decide)
theorem gW{α:Type}{n:Nat}{o:Option α}{Q:α->Prop}:W (if n<=dF then o else none) Q↔fits n=true/\W o Q:=by
 rw[r6,sH];split
 ·rename_i h;exact⟨fun q=>⟨h,q⟩,fun q=>q.2⟩
 ·rename_i h;exact⟨fun q=>(jz.mp q).elim,fun q=>absurd q.1 h⟩
theorem Ag{a:FA}{r:Ev}{S:Sto}{Q:D×Sto->Prop}:W (eQ a r S) Q↔W (a r S) fun p=>fits p.1.length=true/\Q (.tup p.1,p.2):=by
 unfold eQ;rw[dZ];exact⟨fun h=>h.mono fun p q=>(gW.mp q).imp_right eh.mp,fun h=>h.mono fun p q=>gW.mpr (q.imp_right eh.mpr)⟩
theorem Fh{a:FA}{r:Ev}{S:Sto}{Q:D×Sto->Prop}:W (jv a r S) Q↔W (a r S) fun p=>fits p.1.length=true/\Q (.ref p.2.length,p.2++[.lst p.1]):=by
 unfold jv;rw[dZ];exact⟨fun h=>h.mono fun p q=>(gW.mp q).imp_right eh.mp,fun h=>h.mono fun p q=>gW.mpr (q.imp_right eh.mpr)⟩
theorem ji{k:Nat}{keep:List Nat}{m:FI}{g:FG}{t:FT}{b:FV}{r:Ev}{S:Sto}{Q:D×Sto->Prop}:W (eK k keep m g t b r S) Q↔W (m r S) fun p=>W (fB p.1.chk g t b p.1.items (nE k keep r) p.2) fun q=>fits q.1.length=true/\Q (.ref q.2.2.length,q.2.2++[.lst q.1]):=by
 unfold eK;rw[dZ];refine⟨fun h=>h.mono fun p q=>?_,fun h=>h.mono fun p q=>?_⟩
 ·rw[dZ]at q;exact q.mono fun z w=>(gW.mp w).imp_right eh.mp
 ·rw[dZ];exact q.mono fun z w=>gW.mpr (w.imp_right eh.mpr)
theorem IR{xs ys:List D}{S:Sto}{Q:D×Sto->Prop}:W (fM (.tup xs) (.tup ys) S) Q↔fits (xs.length+ys.length)=true/\Q (.tup (xs++ys),S):=
 ⟨fun q=>(gW.mp q).imp_right eh.mp,fun q=>gW.mpr (q.imp_right eh.mpr)⟩
theorem Fm{x y:Int}{S:Sto}{Q:D×Sto->Prop}:W (fM (.int x) (.int y) S) Q↔Q (.int (x+y),S):=eh
theorem Fk{a b:Nat}{xs ys:List D}{S:Sto}{Q:D×Sto->Prop}(h1:S[a]?=some (.lst xs))(h2:S[b]?=some (.lst ys)):W (fM (.ref a) (.ref b) S) Q↔fits (xs.length+ys.length)=true/\Q (.ref S.length,S++[.lst (xs++ys)]):=by
 rw[fM];simp only[h1,h2];exact⟨fun q=>(gW.mp q).imp_right eh.mp,fun q=>gW.mpr (q.imp_right eh.mpr)⟩
theorem oW{n:Nat}{v:D}{xs:List D}{S:Sto}{Q:D×Sto->Prop}(h:S[n]?=some (.lst xs)):W (kg (.ref n) v S) Q↔fits (xs.length+1)=true/\Q (.non,S.set n (.lst (xs++[v]))):=by
 rw[kg];simp only[h];rw[sH,r6];split
 ·rename_i a;exact⟨fun q=>⟨a,eh.mp q⟩,fun q=>eh.mpr q.2⟩
 ·rename_i a;exact⟨fun q=>(jz.mp q).elim,fun q=>absurd q.1 a⟩
theorem sG{n:Nat}{i:Nat}{xs:List D}{x:D}{S:Sto}{Q:D×Sto->Prop}(h:S[n]?=some (.lst xs))(hx:xs[i]?=some x)(q:Q (x,S)):W (dQ (.ref n) (.int i) S) Q:=by
 refine W.of (x:=(x,S)) ?_ q;have a:=(gE1.mp hx).1;simp only[dQ,kS,zy,h,dY,sM,vo,oS1,if_pos (show(0:Int)<=i by lia)];rw[if_pos (by lia)];simp[hx]
theorem gl{i:Nat}{xs:List D}{x:D}{S:Sto}{Q:D×Sto->Prop}(hx:xs[i]?=some x)(q:Q (x,S)):W (dQ (.tup xs) (.int i) S) Q:=by
 refine W.of (x:=(x,S)) ?_ q;have a:=(gE1.mp hx).1;simp only[dQ,kS,zy,dY,sM,vo,oS1,if_pos (show(0:Int)<=i by lia)];rw[if_pos (by lia)];simp[hx]
theorem JS:aP 0 (none:Option D)=[]:=rfl
theorem JR:aP 1 (none:Option D)=[none]:=rfl
theorem JH:aP 2 (none:Option D)=[none,none]:=rfl
theorem JF:aP 3 (none:Option D)=[none,none,none]:=rfl
theorem Kb:aP 4 (none:Option D)=[none,none,none,none]:=rfl
theorem JE:aP 5 (none:Option D)=[none,none,none,none,none]:=rfl
theorem Ka:aP 6 (none:Option D)=[none,none,none,none,none,none]:=rfl
theorem JD:aP 7 (none:Option D)=[none,none,none,none,none,none,none]:=rfl
theorem JC:aP 8 (none:Option D)=[none,none,none,none,none,none,none,none]:=rfl
theorem JB:aP 9 (none:Option D)=[none,none,none,none,none,none,none,none,none]:=rfl
theorem F5:aP 10 (none:Option D)=[none,none,none,none,none,none,none,none,none,none]:=rfl
theorem JQ:aP 11 (none:Option D)=[none,none,none,none,none,none,none,none,none,none,none]:=rfl
theorem JP:aP 12 (none:Option D)=[none,none,none,none,none,none,none,none,none,none,none,none]:=rfl
theorem JO:aP 13 (none:Option D)=[none,none,none,none,none,none,none,none,none,none,none,none,none]:=rfl
theorem JN:aP 14 (none:Option D)=[none,none,none,none,none,none,none,none,none,none,none,none,none,none]:=rfl
theorem JM:aP 15 (none:Option D)=[none,none,none,none,none,none,none,none,none,none,none,none,none,none,none]:=rfl
theorem JL:aP 16 (none:Option D)=[none,none,none,none,none,none,none,none,none,none,none,none,none,none,none,none]:=rfl
theorem JK:aP 17 (none:Option D)=[none,none,none,none,none,none,none,none,none,none,none,none,none,none,none,none,none]:=rfl
theorem JJ:aP 18 (none:Option D)=[none,none,none,none,none,none,none,none,none,none,none,none,none,none,none,none,none,none]:=rfl
theorem JI:aP 19 (none:Option D)=[none,none,none,none,none,none,none,none,none,none,none,none,none,none,none,none,none,none,none]:=rfl
theorem JG:aP 20 (none:Option D)=[none,none,none,none,none,none,none,none,none,none,none,none,none,none,none,none,none,none,none,none]:=rfl
theorem gr{α:Type}{T G:List α}{k:Nat}:(T++G)[T.length+k]?=G[k]?:=by rw[gR1 (by lia)];congr 1;lia
theorem d7{α:Type}{T G:List α}:(T++G)[T.length]?=G[0]?:=by rw[gR1 (by lia)];congr 1;lia
theorem pN:∀(n:Nat) (lo:Int),gB lo n=(List.range n).map fun i:Nat=>D.int (lo+i)
 |0,lo=>rfl
 |n+1,lo=>by
  rw[gB,pN n (lo+1),List.range_succ_eq_map,mP1,bt]
  congr 1
  ·simp
  ·apply c9;intro i _;simp only[Function.comp_apply,Nat.succ_eq_add_one]
   congr 1
   push_cast
   lia
theorem ll(n:Nat):gB 0 n=(List.range n).map fun i:Nat=>D.int i:=by
 rw[pN];apply c9;intro i _;simp
theorem nC{α:Type}{c:List (Nat×List D)}{g:FG}{t:FT}{e:FE}{S:Sto}{f:α->D}{Q:List D×Ev×Sto->Prop}(F:α->D)(P:Ev->Prop)(d:n3 S c=true):∀ (xs:List α) (r:Ev),P r ->
  (∀a∈xs,∀r,P r->W (g (f a) r S) fun p=>W (t p.1 p.2) fun b=>b.1=true/\W (e p.1 b.2) fun x=>x.1=F a/\x.2=S/\P p.1) ->
  (∀i,P i->Q (xs.map F,i,S))->W (fB c g t (ev e) (xs.map f) r S) Q
 |[],r,hr,_,h=>by rw[aZ,fB];dsimp only;rw[if_pos d,eh];exact h r hr
 |a::xs,r,hr,hs,h=>by
  rw[mP1,fB];dsimp only;rw[if_pos d,dZ];obtain⟨p,q,⟨b,s,l,⟨x,m,u,k,o⟩⟩⟩:=hs a mS1 r hr;refine⟨p,q,?_⟩;dsimp only;rw[dZ];refine⟨b,s,?_⟩;dsimp only;rw[if_pos l,dZ,ev,kx];refine⟨x,m,?_⟩;dsimp only;rw[k,kx];refine nC F P d xs p.1 o (fun a n=>hs a (mC1 _ n)) fun i j=>?_;have:=h i j;rw[mP1,<- u]at this;exact this
theorem gO{α:Type}{c:List (Nat×List D)}{g:FG}{t:FT}{e:FE}{S:Sto}{f:α->D}{Q:List D×Ev×Sto->Prop}(k:α->Bool)(F:α->D)(P:Ev->Prop)(d:n3 S c=true):∀ (xs:List α) (r:Ev),P r ->
  (∀a∈xs,∀r,P r->W (g (f a) r S) fun p=>W (t p.1 p.2) fun b=>b.1=k a/\b.2=S/\P p.1/\(k a=true->W (e p.1 S) fun x=>x.1=F a/\x.2=S)) ->
  (∀j,P j->Q ((xs.filter k).map F,j,S))->W (fB c g t (ev e) (xs.map f) r S) Q
 |[],r,hr,_,h=>by rw[aZ,fB];dsimp only;rw[if_pos d,eh];exact h r hr
 |a::xs,r,hr,hs,h=>by
  rw[mP1,fB];dsimp only;rw[if_pos d,dZ];obtain⟨p,v,⟨b,w,q,o,s,m⟩⟩:=hs a mS1 r hr;refine⟨p,v,?_⟩;dsimp only;rw[dZ];refine⟨b,w,?_⟩;dsimp only;cases hk:k a with
  |true=>
   rw[q,hk,if_pos rfl,dZ,ev,kx,o];obtain⟨x,u,m,n⟩:=m hk;refine⟨x,u,?_⟩;dsimp only;rw[n,kx];refine gO k F P d xs p.1 s (fun a l=>hs a (mC1 _ l)) fun j i=>?_;have:=h j i;rw[da,hk,if_pos rfl,mP1,<- m]at this;exact this
  |false=>
   rw[q,hk,if_neg (by decide),o];refine gO k F P d xs p.1 s (fun a l=>hs a (mC1 _ l)) fun j i=>?_;have:=h j i;rw[da,hk,if_neg (by decide)]at this;exact this
mutual
theorem C8{n m:Nat}(h:n<=m):∀{d:D},d.und n=true->d.und m=true
 | .non,_=>rfl
 | .bl _,_=>rfl
 | .int _,_=>rfl
 | .str _,_=>rfl
 | .tup xs,q=>by rw[D.und]at q ⊢;exact hW h q
 | .rol xs,q=>by rw[D.und]at q ⊢;exact hW h q
 | .fn _,_=>rfl
 | .ref k,q=>by simp[D.und]at q ⊢;lia
theorem hW{n m:Nat}(h:n<=m):∀{ds:List D},D.unds n ds=true->D.unds m ds=true
 |[],_=>rfl
 |d::ds,q=>by
  rw[D.unds,bA1]at q ⊢;exact⟨C8 h q.1,hW h q.2⟩
end
theorem jW{n m:Nat}(h:n<=m):∀{o:Ob},o.und n=true->o.und m=true
 | .lst xs,q=>by rw[Ob.und]at q ⊢;exact hW h q
 | .dct xs,q=>by rw[Ob.und]at q ⊢;exact hW h q
 | .dcT xs,q=>by rw[Ob.und]at q ⊢;exact hW h q
 | .dcF xs,q=>by rw[Ob.und]at q ⊢;exact hW h q
 | .iset _,_=>rfl
 | .tst _,_=>rfl
theorem eM{α:Type}{n:Nat}{f:α->D}:∀{xs:List α},(∀x∈xs,(f x).und n=true)->D.unds n (xs.map f)=true
 |[],_=>rfl
 |x::xs,h=>by rw[mP1,D.unds,h x mS1,eM fun y a=>h y (mC1 _ a)];rfl
theorem J9{x:Nat}:x+1+1=x+2:=rfl
theorem Kk{x:Nat}:x+2+1=x+3:=rfl
theorem Kj{x:Nat}:x+3+1=x+4:=rfl
theorem Ki{x:Nat}:x+4+1=x+5:=rfl
theorem Kh{x:Nat}:x+5+1=x+6:=rfl
theorem Kg{x:Nat}:x+6+1=x+7:=rfl
theorem J8{x:Nat}:x+1+2=x+3:=rfl
theorem fV{xs:List D}{S:Sto}:eS (.tup xs) S=some (.int xs.length,S):=rfl
theorem HF{xs:List D}{S:Sto}:eS (.rol xs) S=some (.int xs.length,S):=rfl
theorem GG{S:Sto}:eS (.str "") S=some (.int 0,S):=rfl
theorem uG{xs:List D}{S:Sto}:dY S (.tup xs)=some (false,xs):=rfl
theorem Hy{xs:List D}{S:Sto}:dY S (.rol xs)=some (true,xs):=rfl
theorem vN{xs:List D}{S:Sto}:iY S (.tup xs)=[]:=rfl
theorem HJ{xs:List D}{S:Sto}:iY S (.rol xs)=[]:=rfl
theorem gH{n:Nat}{xs:List D}{S:Sto}(h:S[n]?=some (.lst xs)):dY S (.ref n)=some (true,xs):=by simp only[dY,h]
theorem vO{n:Nat}{xs:List D}{S:Sto}(h:S[n]?=some (.lst xs)):iY S (.ref n)=[(n,xs)]:=by simp only[iY,h]
noncomputable def sW(S:Sto)(d:D)(Q:List D×List (Nat×List D)->Prop):Prop:=W (dY S d) fun q=>Q (q.2,iY S d)
theorem ij{xs:List D}{S:Sto}{Q:List D×List (Nat×List D)->Prop}:sW S (.tup xs) Q↔Q (xs,[]):=eh
theorem et{n:Nat}{xs:List D}{S:Sto}{Q:List D×List (Nat×List D)->Prop}(h:S[n]?=some (.lst xs))(q:Q (xs,[(n,xs)])):sW S (.ref n) Q:=by
 unfold sW;rw[gH h,vO h,eh];exact q
theorem Fj{m:FE}{r:Ev}{S:Sto}{Q:Ak×Sto->Prop}:W (hH m r S) Q↔W (m r S) fun p=>sW p.2 p.1 fun q=>Q (⟨q.1,q.2⟩,p.2):=by
 unfold hH;rw[dZ];refine⟨fun h=>h.mono fun p q=>?_,fun h=>h.mono fun p q=>?_⟩
 ·rw[dZ]at q;exact q.mono fun z w=>eh.mp w
 ·rw[dZ];exact W.mono (show W (dY p.2 p.1) _ from q) fun z w=>eh.mpr w
theorem Ah{d:D}{S:Sto}{Q:D×Sto->Prop}:W (Mi.gTup d S) Q↔sW S d fun q=>Q (.tup q.1,S):=by
 unfold Mi.gTup;rw[kx];exact Iff.rfl
theorem Hj{n:Nat}{S:Sto}{Q:D×Sto->Prop}:W (eS (.ref n) S) Q↔sW S (.ref n) fun q=>Q (.int q.1.length,S):=by
 unfold eS sW;rw[kx]
noncomputable def pD(e:Nat×Nat):D:=.tup [.int e.1,.int e.2]
theorem E2{S:Sto}{n:Nat}{a b:Nat×Nat}:gf S (n+2) (pD a) (pD b)=some (a == b):=by
 obtain⟨a1,a2⟩:=a;obtain⟨b1,b2⟩:=b;rw[gf];have c:∀x y:Nat,gf S (n+1) (.int x) (.int y)=some ((x:Int) == (y:Int)):=fun x y=>rfl;have d:∀x y:Nat,((x:Int) == (y:Int))=(x == y):=fun x y=>by
  rw[bQ,beq_iff_eq,beq_iff_eq];lia
 simp[pD,dY,nq,c,d];rfl
theorem vB{S:Sto}{n:Nat}{e:Nat×Nat}:∀b:List (Nat×Nat),wU (gf S (n+2)) (pD e) (b.map pD)=some (b.map fun a=>a == e)
 |[]=>rfl
 |a::b=>by rw[mP1,wU,E2,vB b];rfl
theorem Fi{S:Sto}{n j:Nat}{row:List (Nat×Nat)}{e:Nat×Nat}{Q:D×Sto->Prop}(h:S[n]?=some (.lst (row.map pD)))(b:row.length<1000)(a:row.findIdx? (· == e)=some j)(q:Q (.int j,S)):W (zz (.ref n) (pD e) S) Q:=by
 refine W.of ?_ q;unfold zz eF;simp only[h,show(60:Nat)=58+2 from rfl,vB,oS1,lM1];rw[if_pos (by lia),List.findIdx?_map];simp[Function.comp_def,a]
theorem CU{S:Sto}{n k:Nat}{xs:List D}{v:D}{Q:D×Sto->Prop}(h:S[n]?=some (.lst xs))(hk:k<=xs.length)(b:xs.length<1000)(q:Q (.non,S.set n (.lst (xs.take k++v::xs.drop k)))):W (wR (.ref n) (.int k) v S) Q:=by
 refine W.of ?_ q;have hi:pV xs.length k=k:=by
  unfold pV;rw[if_neg (by lia),Int.toNat_natCast];lia
 have a:xs.length<dF:=nL1 b (by decide);simp only[wR,h,hi];rw[if_pos ⟨by lia,by lia,a⟩]
theorem js{f:FN}{o:FE}{a:FA}{r:Ev}{S:Sto}{Q:D×Sto->Prop}(h:W (o r S) fun p=>∃n xs,p.1 = .ref n/\p.2[n]?=some (.lst xs)/\W (a r p.2) fun q=>W (f (.ref n::q.1) q.2) Q):W (qp f o a r S) Q:=by
 unfold qp;rw[dZ];refine h.mono ?_;rintro⟨d,b⟩ ⟨n,xs,rfl,e,q⟩;dsimp only at e q ⊢;rw[e];dsimp only;rw[dZ];exact q
noncomputable def qT(row:List (Nat×Nat)):Ob:=.lst (row.map pD)
structure WS (t m:Nat)(T:Sto)(E:List (List (Nat×Nat)))(P:List (Nat×Nat))(U:Sto):Prop where
 tl:T.length=t
 low:U.take t=T
 el:E.length=m
 row:∀i row,E[i]?=some row->U[t+i]?=some (qT row)
 ends:U[t+m]?=some (.lst (jt (t+1) m))
 prs:U[t+m+1]?=some (.lst (P.map pD))
theorem WS.app{t m:Nat}{T:Sto}{E:List (List (Nat×Nat))}{P:List (Nat×Nat)}{U G:Sto}(w:WS t m T E P U):WS t m T E P (U++G):=by
 have b:t+m+1<U.length:=(gE1.mp w.prs).1;refine⟨w.tl,?_,w.el,fun i a h=>?_,?_,?_⟩
 ·rw[List.take_append_of_le_length (by omega)];exact w.low
 ·have:=w.row i a h;rw[gL1 (gE1.mp this).1];exact this
 ·rw[gL1 (by omega)];exact w.ends
 ·rw[gL1 (by omega)];exact w.prs
theorem WS.setRow{t m i:Nat}{T:Sto}{E:List (List (Nat×Nat))}{P:List (Nat×Nat)}{U:Sto}{row:List (Nat×Nat)}(w:WS t m T E P U)(hi:i<m):WS t m T (E.set i row) P (U.set (t+i) (qT row)):=by
 have b:t+m+1<U.length:=(gE1.mp w.prs).1;refine⟨w.tl,?_,by rw[aW];exact w.el,fun j a h=>?_,?_,?_⟩
 ·rw[List.take_set_of_le (by lia)];exact w.low
 ·by_cases e:i=j
  ·subst e;rw[aI (by rw[w.el];exact hi)]at h;cases h;rw[aI (by lia)]
  ·rw[gS1 e]at h;rw[gS1 (by lia)];exact w.row j a h
 ·rw[gS1 (by lia)];exact w.ends
 ·rw[gS1 (by lia)];exact w.prs
theorem WS.setPrs{t m:Nat}{T:Sto}{E:List (List (Nat×Nat))}{P P':List (Nat×Nat)}{U:Sto}(w:WS t m T E P U):WS t m T E P' (U.set (t+m+1) (.lst (P'.map pD))):=by
 have c:t+m+1<U.length:=(gE1.mp w.prs).1;refine⟨w.tl,?_,w.el,fun j a h=>?_,?_,?_⟩
 ·rw[List.take_set_of_le (by lia)];exact w.low
 ·have b:j<m:=by rw[<- w.el];exact(gE1.mp h).1
  rw[gS1 (by lia)];exact w.row j a h
 ·rw[gS1 (by lia)];exact w.ends
 ·rw[aI (by lia)]
theorem WS.split{t m:Nat}{T:Sto}{E:List (List (Nat×Nat))}{P:List (Nat×Nat)}{U:Sto}(w:WS t m T E P U):U=T++U.drop t:=by
 conv=>lhs;rw[<- cG t U,w.low]
theorem pC:∀{k n i:Nat},i<k->(jt n k)[i]?=some (.ref (n+i))
 |k+1,n,0,_=>rfl
 |k+1,n,i+1,h=>by rw[jt,gC1,pC (Nat.lt_of_succ_lt_succ h),show n+1+i=n+(i+1) by lia]
theorem jS:∀k n:Nat,(jt n k).length=k
 |0,_=>rfl
 |k+1,n=>by rw[jt,lC1,jS]
noncomputable def tot(E:List (List (Nat×Nat))):Nat:=(E.map List.length).sum
theorem pf:∀{E:List (List (Nat×Nat))} {i:Nat} {row row':List (Nat×Nat)},E[i]?=some row->tot (E.set i row')+row.length=tot E+row'.length
 |[],i,_,_,h=>by simp at h
 |a::E,0,row,row',h=>by simp at h;subst h;simp[tot];lia
 |a::E,i+1,row,row',h=>by
  have:=pf (E:=E) (i:=i) (row:=row) (row':=row') (by simpa using h);simp[tot]at this ⊢;lia
theorem xP:∀{E:List (List (Nat×Nat))} {k:Nat},k<=E.length->(∀i b,i<k->E[i]?=some b->4<=b.length)->4*k<=tot E
 |E,0,_,_=>by lia
 |[],k+1,h,_=>by simp at h
 |a::E,k+1,h,q=>by
  have h1:=q 0 a (by lia) rfl;have h2:=xP (E:=E) (k:=k) (by simpa using h) fun i b hi c=>q (i+1) b (by lia) (by simpa using c);simp[tot]at h2 ⊢;lia
noncomputable def eI(rs:List Nat):List D:=rs.map fun i:Nat=>D.int i
theorem io(rs:List Nat):(eI rs).length=rs.length:=by simp[eI]
theorem pO(rs:List Nat):D.unds 0 (eI rs)=true:=eM fun _ _=>rfl
abbrev Wk:=Nat×Nat×Nat
noncomputable def fq(w:Wk):D:=.tup [.int w.1,.int w.2.1,.int w.2.2]
noncomputable def ee(ws:List Wk):List D:=ws.map fq
theorem i8(ws:List Wk):(ee ws).length=ws.length:=by simp[ee]
theorem jG(ws:List Wk):D.unds 0 (ee ws)=true:=eM fun _ _=>rfl
noncomputable def dU(ws:List Wk)(cs:List Nat):D:=.tup [.tup (ee ws),.tup (eI cs)]
theorem fG{ws:List Wk}{cs:List Nat}:(dU ws cs).und 0=true:=by simp[dU,D.und,D.unds,jG,pO]
noncomputable def fg(a b c d:Bool):List D:=(if a then[.str "came"]else[])++(if b then[.str "chalk"]else[])++(if c then[.str "doors"]else[])++(if d then[.str "others"]else[])
theorem zF {xs:List D}(h:xs.Sublist [.str "came",.str "chalk",.str "doors",.str "others"]):∃a b c d,xs=fg a b c d:=by
 have one:∀{x:D} {l ys:List D},ys.Sublist (x::l) -> ∃(a:Bool) (zs:List D),zs.Sublist l/\ys=(if a then[x]else[])++zs:=by
  intro x l ys h;cases h with
  |cons _ h=>exact⟨false,ys,h,rfl⟩
  |cons_cons _ h=>exact⟨true,_,h,rfl⟩
 obtain⟨a,i,h1,rfl⟩:=one h;obtain⟨b,j,h2,rfl⟩:=one h1;obtain⟨c,k,f,rfl⟩:=one h2;obtain⟨d,e,g,rfl⟩:=one f;have:e=[]:=List.eq_nil_of_sublist_nil g;subst this;exact⟨a,b,c,d,by simp[fg]⟩
theorem zG(a b c d:Bool):(fg a b c d).length<=4:=by cases a<;>cases b<;>cases c<;>cases d<;>decide
theorem kh(a b c d:Bool):D.unds 0 (fg a b c d)=true:=by cases a<;>cases b<;>cases c<;>cases d<;>rfl
theorem BX{a b c d:Bool}{S:Sto}:iV (.str "came") (.tup (fg a b c d)) S=some (.bl a,S):=by cases a<;>cases b<;>cases c<;>cases d<;>rfl
theorem zp{a b c d:Bool}{S:Sto}:iV (.str "chalk") (.tup (fg a b c d)) S=some (.bl b,S):=by cases a<;>cases b<;>cases c<;>cases d<;>rfl
theorem zo{a b c d:Bool}{S:Sto}:iV (.str "doors") (.tup (fg a b c d)) S=some (.bl c,S):=by cases a<;>cases b<;>cases c<;>cases d<;>rfl
theorem wN{a b c d:Bool}{S:Sto}:iV (.str "others") (.tup (fg a b c d)) S=some (.bl d,S):=by cases a<;>cases b<;>cases c<;>cases d<;>rfl
theorem tW{S:Sto}{n:Nat}{x:Nat}:∀a:List Nat,An (gf S (n+1)) (.int x) (eI a)=some (a.contains x)
 |[]=>rfl
 |c::a=>by
  have b:gf S (n+1) (.int c) (.int x)=some ((c:Int) == (x:Int)):=rfl;have d:((c:Int) == (x:Int))=(x == c):=by
   rw[bQ,beq_iff_eq,beq_iff_eq];lia
  have ih:=tW (S:=S) (n:=n) (x:=x) a;rw[eI,mP1,An,b,d];rw[eI]at ih;rw[ih,List.contains_cons];rfl
theorem zn{S:Sto}{x:Nat}{cs:List Nat}:iV (.int x) (.tup (eI cs)) S=some (.bl (cs.contains x),S):=by
 simp only[iV,t5,Fy,dY,oS1,eF,show(60:Nat)=59+1 from rfl,tW,oP1]
noncomputable def tw(a b c d:Bool)(came chalk doors others:Int):D:=.tup [if a then .int came else .non,if b then .int chalk else .non,if c then .int doors else .non,if d then .int others else .non]
theorem nR{a b c d:Bool}{w x y z:Int}:(tw a b c d w x y z).und 0=true:=by cases a<;>cases b<;>cases c<;>cases d<;>rfl
theorem zg{κ:Type}[DecidableEq κ]{k:κ}:dV ([]:List (κ×D)) k=none:=rfl
theorem eL{κ:Type}[DecidableEq κ]{k a:κ}{d:D}{r:List (κ×D)}:dV ((a,d)::r) k=if a=k then some d else dV r k:=by
 unfold dV;rw[a0];by_cases h:a=k
 ·simp[h]
 ·simp[h]
theorem rM{κ:Type}[DecidableEq κ]{k:κ}{b:List (κ×D)}:∀{a:List (κ×D)},dV (a++b) k=(dV a k).or (dV b k)
 |[]=>rfl
 |(x,d)::a=>by
  rw[bi,eL,eL,rM (a:=a)];split<;>rfl
theorem kM{κ:Type}[DecidableEq κ]{k:κ}:∀{a:List (κ×D)},(a.any fun p=>decide (p.1=k))=false->dV a k=none
 |[],_=>rfl
 |(x,d)::a,h=>by
  simp only[bc,Bool.or_eq_false_iff,decide_eq_false_iff_not]at h;rw[eL,if_neg h.1];exact kM h.2
theorem kK{κ:Type}[DecidableEq κ]{k k':κ}{v:D}:∀{a:List (κ×D)},(a.any fun p=>decide (p.1=k))=true->dV (a.map fun p=>if p.1=k then(p.1,v)else p) k'=if k'=k then some v else dV a k'
 |[],h=>by simp at h
 |(x,d)::a,h=>by
  rw[mP1];by_cases f:x=k
  ·subst f;rw[if_pos (show(x,d).1=x from rfl)];rw[eL,eL];by_cases e:k'=x
   ·subst e;simp
   ·rw[if_neg (Ne.symm e),if_neg (Ne.symm e),if_neg e];by_cases g:(a.any fun p=>decide (p.1=x))=true
    ·rw[kK g,if_neg e]
    ·have:(a.map fun p=>if p.1=x then (p.1,v) else p)=a:=by
      have c:(a.any fun p=>decide (p.1=x))=false:=Bool.eq_false_iff.mpr g;rw[List.any_eq_false]at c
      conv=>rhs;rw[<- List.map_id a]
      apply c9;intro p i;have:=c p i;simp at this;simp[this]
     rw[this]
  ·simp only[bc,decide_eq_false f,Bool.false_or]at h;rw[if_neg (show¬ (x,d).1=k from f)];rw[eL,eL,kK h];by_cases b:x=k'
   ·subst b;simp[f]
   ·simp[b]
theorem rL{κ:Type}[DecidableEq κ]{k k':κ}{v:D}{a:List (κ×D)}:dV (eV a k v) k'=if k'=k then some v else dV a k':=by
 unfold eV;split
 ·rename_i h;exact kK h
 ·rename_i h;have h':(a.any fun p=>decide (p.1=k))=false:=Bool.eq_false_iff.mpr h;rw[rM,eL,zg];by_cases b:k'=k
  ·subst b;rw[kM h',if_pos rfl];rfl
  ·rw[if_neg (Ne.symm b),if_neg b];cases dV a k'<;>rfl
theorem uO{κ:Type}[DecidableEq κ]{k:κ}{v:D}{a:List (κ×D)}:(eV a k v).length<=a.length+1:=by
 unfold eV;split
 ·rw[lM1];lia
 ·rw[lA1];simp
theorem DF{κ:Type}[DecidableEq κ]{k:κ}{v:D}{a:List (κ×D)}:eV a k v≠[]:=by
 unfold eV;split
 ·rename_i h;intro z;cases a with
  |nil=>simp at h
  |cons x xs=>simp at z
 ·simp
noncomputable def dO(F:List (TK×D)):Ob:=if F=[]then .dct []else .dcT F
theorem Fg{U:Sto}{n i:Nat}{xs:List D}{x:D}{Q:D×Sto->Prop}(h:U[n]?=some (.lst xs))(hx:xs[i]?=some x)(hb:i<1000)(q:Q (x,U.set n (.lst (xs.eraseIdx i)))):W (zx (.ref n) (.int i) U) Q:=by
 have a:=(gE1.mp hx).1;refine W.of ?_ q;simp only[zx,h];rw[if_pos ⟨by lia,by lia⟩];simp only[vo,if_pos (show(0:Int)<=i by lia)];rw[if_pos (by lia)];simp[hx]
theorem EY{d:D}{S G:Sto}(hd:d.und 0=true)(a:S.all (Ob.und S.length)=true):gc S.length (d,S++G)=(d,S):=by
 unfold gc;dsimp only;rw[c8,if_pos (by rw[fz hd,a];rfl)]
theorem pZ{d:D}{S V:Sto}(hd:d.und 0=true)(a:S.all (Ob.und S.length)=true)(hp:S <+: V):gc S.length (d,V)=(d,S):=by
 obtain⟨G,rfl⟩:=hp;exact EY hd a
theorem qk{m:FA}{r:Ev}{S:Sto}{xs ys:List D}{n:Nat}{Q:Ak×Sto->Prop}(hm:m r S=some ([.tup xs,.ref n],S))(hn:S[n]?=some (.lst ys))(q:Q (⟨sP xs ys,[(n,ys)]⟩,S)):W (Ao m r S) Q:=by
 refine W.of (x:=(⟨sP xs ys,[(n,ys)]⟩,S)) ?_ q;simp only[Ao,hm,oS1,uG,gH hn,vN,vO hn,cX]
theorem lV{α:Type}{f g:α->D}:∀l:List α,sP (l.map f) (l.map g)=l.map fun x=>D.tup [f x,g x]
 |[]=>rfl
 |a::l=>by rw[mP1,mP1,sP,lV l];rfl
theorem Hl{m:FA}{r:Ev}{S:Sto}{xs:List D}{Q:Ak×Sto->Prop}(hm:m r S=some ([.tup xs],S))(q:Q (⟨xr 0 xs,[]⟩,S)):W (Fw m r S) Q:=by
 refine W.of (x:=(⟨xr 0 xs,[]⟩,S)) ?_ q;simp only[Fw,hm,oS1,uG,vN]
theorem zM{α:Type}{f:α->D}:∀(l:List α) (k:Nat),xr k (l.map f)=(l.zipIdx k).map fun p=>D.tup [.int (p.2:Nat),f p.1]
 |[],_=>rfl
 |a::l,k=>by rw[mP1,xr,zM l (k+1),bK];rfl
theorem v4{α:Type}{l:List α}{p:α×Nat}(h:p∈l.zipIdx):l[p.2]?=some p.1:=by
 have:=List.mem_zipIdx_iff_getElem?.mp h;exact this
theorem sQ{α β:Type}(f:α->β)(l:List α):(l.zipIdx.map fun p=>f p.1)=l.map f:=by
 have:(fun p:α×Nat=>f p.1)=f∘Prod.fst:=rfl;rw[this,<- bt,List.zipIdx_map_fst]
mutual
theorem Dt{n:Nat}:∀{d:D},d.und 0=true->d.sh n=d
 | .non,_=>rfl
 | .bl _,_=>rfl
 | .int _,_=>rfl
 | .str _,_=>rfl
 | .tup xs,h=>by rw[D.und]at h;rw[D.sh,lP h]
 | .rol xs,h=>by rw[D.und]at h;rw[D.sh,lP h]
 | .fn _,_=>rfl
 | .ref k,h=>by simp[D.und]at h
theorem lP{n:Nat}:∀{ds:List D},D.unds 0 ds=true->D.shs n ds=ds
 |[],_=>rfl
 |d::ds,h=>by
  rw[D.unds,bA1]at h;rw[D.shs,Dt h.1,lP h.2]
end
theorem Hc{n:Nat}{f:FN}{ds:List D}{S:Sto}{Q:D×Sto->Prop}(hn:ds.length=n)(b:D.unds 0 ds=true)(h:W (f ds []) fun p=>∃xs,p=(.ref 0,[.lst xs])/\D.unds 0 xs=true/\Q (.ref S.length,S++[.lst xs])):W (dS n f ds S) Q:=by
 obtain⟨p,e,xs,rfl,a,q⟩:=h;refine⟨_,sB e hn b rfl,?_⟩;have c:(D.ref 0).sh S.length = .ref S.length:=rfl;have d:[Ob.lst xs].map (Ob.sh S.length)=[Ob.lst xs]:=by rw[mP1,aZ,Ob.sh,lP a]
 rw[c,d];exact q
theorem Eu{ns:List Int}{k:Int}:k∈ddI ns↔k∈ns:=by
 have key:∀(ns a:List Int),k∈ns.foldl step_dedup a↔k∈a\/k∈ns:=by
  intro ns
  induction ns with
  |nil=>intro a;simp
  |cons n ns ih=>
   intro a;rw[b9,ih];have:k∈step_dedup a n↔k∈a\/k=n:=by
    unfold step_dedup;split
    ·rename_i h;obtain⟨x,b,e⟩:=bR.mp h;have e:=beq_iff_eq.mp e;subst e;constructor
     ·exact .inl
     ·rintro(z|z)
      ·exact z
      ·rw[z];exact b
    ·simp
   rw[this,aF,or_assoc]
 unfold ddI;rw[key];simp
theorem AE{xs:List Nat}{m:Nat}{f:Nat->Bool}(h:∀r,r∈xs↔r<m/\f r=true):jI (ddI (xs.map fun(r:Nat)=>(r:Int)))=((List.range m).filter f).map fun(r:Nat)=>(r:Int):=by
 refine pE ?_ (l6 _) ?_
 ·refine(ic _).trans ?_;refine(List.perm_ext_iff_of_nodup (sv _ [] bn) ?_).mpr fun k=>?_
  ·refine db.mpr ((List.nodup_range.filter f).imp fun b z=>b (by lia))
  ·show k∈ddI _↔_;rw[Eu,cc,cc];constructor
   ·rintro⟨r,a,rfl⟩;exact⟨r,aA.mpr ⟨aB.mpr ((h r).mp a).1,((h r).mp a).2⟩,rfl⟩
   ·rintro⟨r,a,rfl⟩;obtain⟨h1,h2⟩:=aA.mp a;exact⟨r,(h r).mpr ⟨aB.mp h1,h2⟩,rfl⟩
 ·refine db.mpr ((List.pairwise_lt_range.sublist List.filter_sublist).imp fun c=>by lia)
theorem BU(xs:List Nat):mO (eI xs)=some (xs.map fun(r:Nat)=>(r:Int)):=by
 induction xs with
 |nil=>rfl
 |cons x xs ih=>
  show(mO (eI xs)).map _=_;rw[ih];rfl
theorem xj{S:Sto}{n:Nat}{xs:List Nat}{m:Nat}{f:Nat->Bool}{Q:D×Sto->Prop}(hn:S[n]?=some (.lst (eI xs)))(h:∀r,r∈xs↔r<m/\f r=true)(a:xs.length<64)(q:Q (.ref S.length,S++[.lst (eI ((List.range m).filter f))])):W (iT (.ref n) S) Q:=by
 refine W.of (x:=(.ref S.length,S++[.lst (eI ((List.range m).filter f))])) ?_ q;simp only[iT,gH hn,BU,oS1];rw[if_pos (by rw[lM1];exact a),AE h,bt];rfl
end Mi
end
local macro_rules | `(tactic| walk_at"w") => `(tactic| simp only[Mi.eh, Mi.jz, Mi.ite_and', Mi.dZ, Mi.kx, Mi.sH, Mi.d5, Mi.d6, Mi.hE, Mi.e9, Mi.fx, Mi.rG, Mi.mN, Mi.dM, Mi.dN, Mi.m2, Mi.m1, Mi.mV, Mi.mC, Mi.Ag, Mi.Fh, Mi.mB, Mi.tQ, Mi.Fv, Mi.By, Mi.vc, Mi.fQ, Mi.HD, Mi.Df, Mi.gN, Mi.gT, Mi.gCs, Mi.gNl, Mi.gS, Mi.b1, Mi.b2, Mi.b3, Mi.iy, Mi.gz, Mi.ji, Mi.CW, Mi.Hk, Mi.F6, Mi.Hz, Mi.iE, Mi.nE, Mi.Fm, Mi.gSub, Mi.iF, Mi.nG, Mi.B8, Mi.B1, Mi.B4, Mi.B7, Mi.J7, Mi.J4, Mi.Jk, Mi.J3, Mi.JZ, Mi.JY, true_and, Mi.gr, Mi.d7, bG, lA1, de, gC1, List.getElem?_nil, c4, c6, lC1, bd, mP1, aZ, Mi.JS, Mi.JR, Mi.JH, Mi.JF, Mi.JE, Mi.JD, Mi.JC, Mi.JB, Mi.F5, cX, bi, aN, Nat.reduceAdd, Nat.reduceSub, Option.join_some, Option.join_none, oP1, Option.map_none, oS1, Option.bind_none, if_true, if_false, bF1, b5, ci, ite_true, ite_false, reduceIte, decide_true, decide_false, Mi.J9, Mi.J8, Mi.fV, Mi.Fj, Mi.Ah, Mi.Hj])
noncomputable section
namespace Law
open PySem PySem.Spec PyProof.Rows L2 Mi
noncomputable def top (i:Nat):dJ:=PySem.Challenge.pw_ringmeet_k31_most_chalk.main.body.getD i (.Pass ⟨0,0,0,0⟩)
abbrev BL:List Str:=["bool","dict","enumerate","int","isinstance","len","list","max","min","range","set","sorted","tuple","zip"]
noncomputable def lS:D:=(D.tup [(D.tup [(D.str "came"),(D.int 5)]),(D.tup [(D.str "chalk"),(D.int 2)]),(D.tup [(D.str "doors"),(D.int 5)]),(D.tup [(D.str "others"),(D.int 2)])])
section
variable{P:dz}{w:dB}{K:Fg1}{mg:Str->Option dr}{base h:dH}(X:K.In h) (G:h.Ns dD mg) (B:Blt BL mg)
include X G B
abbrev md:dJ:=top 3
noncomputable def jU:FT:=(mB (m2 (b2 xp) (mV 2) (mV 3)))
noncomputable def jT:FS:=(d5 (d6 (m2 (b2 nH) (m2 (b2 fM) (mV 2) (mV 3)) (mC (D.int 2))) (gN 4))
  (hE (mB (m2 (b2 xp) (m2 (b2 dQ) (m2 (b2 dQ) (m2 (b2 dQ) (mV 0) (mV 4)) (mC (D.int 0))) (mC (D.int 0))) (mV 1))) (d6 (m2 (b2 fM) (mV 4) (mC (D.int 1))) (gN 2)) (d6 (mV 4) (gN 3))))
noncomputable def nh:FS:=(d5 (d6 (mC (D.int 0)) (gN 2))
  (d5 (d6 (mN (b1 eS) (dM (mV 0) dN)) (gN 3))
  (d5 (qo jU jT 100000)
  (e9 (mV 2)))))
noncomputable def gD:FN:=iy 5 nh
theorem ri {f:dy}(F:eG K "first_of" md f):
  fH P w K mg base 1 "first_of" 2 gD:=xq ["rows","mood","low","high","middle"] X G F fun a=>
 (qF (sq qK) (qF (sq (cn eZ (a1 xv))) (qF (kB 100000 PassesOwn.never (ct (oq lj) xv xv) (qF (sq (qI u6 (qI fP xv xv) qK)) (qG (qV (ct (oq lj) (jq (jq (jq xv xv) qK) qK) xv) (qG (sq (qI fP xv qK))) (qG (sq xv)))))) (qG (qU xv)))))
abbrev uK:dJ:=top 5
noncomputable def vU:FS:=(d5 (d6 (mV 0) (gT 2 (gCs (gN 1) (gCs (gN 2) gNl))))
  (e9 (eQ (dM (mN (b1 gTup) (dM (eK 1 [] (hH (mV 1)) (gN 0) fQ (ev (eQ (dM (mV 0) (dM (mC (D.int 0)) (dM (mC (D.int 0)) dN)))))) dN)) (dM (mV 2) dN)))))
noncomputable def j7:FN:=iy 3 vU
theorem yK {f:dy}(F:eG K "begun" uK f):
  fH P w K mg base 1 "begun" 1 j7:=xq ["standing","rooms","chalk"] X G F fun a=>
 (qF (qR xv (tg2 gq gq)) (qG (qU (d8 (a2 (cz fc (a1 (fk ["room"] (qd xv) ⟨gq,fe,(d8 (a3 xv qK qK))⟩))) xv)))))
abbrev l9:dJ:=top 6
noncomputable def ng:FS:=(d5 (d6 (mV 2) (gT 2 (gCs (gN 4) (gCs (gN 5) gNl))))
  (d5 (d6 (m2 (b2 dQ) (mV 4) (mV 3)) (gT 3 (gCs (gN 6) (gCs (gN 7) (gCs (gN 8) gNl)))))
  (d5 (d6 (eK 1 [6] (hH (mV 4)) (gN 0) (mB (m2 (b2 rZ) (m2 (b2 dQ) (mV 0) (mC (D.int 0))) (mV 1))) (ev (mV 0))) (gN 9))
  (d5 (d6 (rH [((mC (D.str "came")),(mV 7)),((mC (D.str "chalk")),(vc (mB (m2 (b2 iV) (mV 6) (mV 5))) (mC (D.int 1)) (mC (D.int 0)))),((mC (D.str "doors")),(mN (b1 eS) (dM (m2 (b2 dQ) (mV 0) (mV 6)) dN))),((mC (D.str "others")),(vc (mB (m2 (b2 (iF fun i j=>decide (j<i))) (mN (b1 eS) (dM (mV 9) dN)) (mC (D.int 1)))) (mC (D.int 1)) (mC (D.int 0))))]) (gN 10))
  (e9 (mN (b1 gTup) (dM (eK 2 [1,10] (hH (mC lS)) (gT 2 (gCs (gN 0) (gCs (gN 1) gNl))) fQ (ev (vc (mB (m2 (b2 iV) (mV 0) (mV 2))) (m2 (b2 dQ) (mV 3) (mV 0)) (mC D.non)))) dN)))))))
noncomputable def gC:FN:=iy 11 ng
theorem rh {f:dy}(F:eG K "sight_of" l9 f)(a:CGl K mg "PARTS" lS):
  fH P w K mg base 1 "sight_of" 4 gC:=xq ["web","eyes","whole","k","walkers","chalk","room","came","mood","here","parts"] X G F fun b=>
 (qF (qR xv (tg2 gq gq)) (qF (qR (jq xv xv) (hM rfl (ec gq (ec gq (ec gq gx))))) (qF (gu 9 rfl (T:=["other"]) (keep:=[6]) ⟨rfl,by decide+kernel,(kc "room" (cP _))⟩ rfl (qd xv) (fun _ _ _=>⟨gq,(fm (ct (oq nA) (jq xv qK) xv)),xv⟩) (gL rfl) rfl (by first|exact Or.inl rfl|exact Or.inr rfl)) (qF (sq (qr (fY ej xv (fY ej (oY (ct (oq n4) xv xv (by with_unfolding_all rfl)) qK qK) (fY ej (cn eZ (a1 (jq xv xv))) (fY ej (oY (ct yP (cn eZ (a1 xv)) qK) qK qK) uv)))))) (qG (qU (cz fc (a1 (fk ["eye","many"] (qd (xE a rfl)) ⟨(tg2 gq gq),fe,(oY (ct (oq n4) xv xv (by with_unfolding_all rfl)) (jq xv xv) fU)⟩)))))))))
abbrev nT:dJ:=top 10
noncomputable def oS:FS:=(d5 (d6 (mV 0) (gT 2 (gCs (gN 2) (gCs (gN 3) gNl))))
  (d5 (d6 (eK 2 [] (Ao (dM (mV 2) (dM (mV 1) dN))) (gT 2 (gCs (gN 0) (gCs (gN 1) gNl))) (mB (m2 (b2 rZ) (m2 (b2 dQ) (mV 1) (mC (D.int 1))) (mC (D.str "mark")))) (ev (m2 (b2 dQ) (mV 0) (mC (D.int 0))))) (gN 4))
  (d5 (d6 (eK 2 [] (Ao (dM (mV 2) (dM (mV 1) dN))) (gT 2 (gCs (gN 0) (gCs (gN 1) gNl))) (mB (m2 (b2 rZ) (m2 (b2 dQ) (mV 1) (mC (D.int 1))) (mC (D.str "wipe")))) (ev (m2 (b2 dQ) (mV 0) (mC (D.int 0))))) (gN 5))
  (d5 (d6 (eK 1 [5] (hH (mV 3)) (gN 0) (mB (m2 (b2 fv) (mV 0) (mV 1))) (ev (mV 0))) (gN 6))
  (e9 (mN (b1 gTup) (dM (mN (b1 iT) (dM (m2 (b2 fM) (mV 6) (mV 4)) dN)) dN)))))))
noncomputable def hC:FN:=iy 7 oS
theorem tK {f:dy}(F:eG K "handled" nT f):
  fH P w K mg base 1 "handled" 2 hC:=xq ["whole","deeds","walkers","chalk","marked","wiped","left"] X G F fun a=>
 (qF (qR xv (tg2 gq gq)) (qF (gu 4 rfl (T:=["walker","deed"]) (keep:=[]) ⟨rfl,by decide+kernel,(cP _)⟩ rfl (jF rfl (bz B) (a2 xv xv)) (fun _ _ _=>⟨(tg2 gq gq),(fm (ct (oq nA) (jq xv qK) ej)),(jq xv qK)⟩) (gL rfl) rfl (by first|exact Or.inl rfl|exact Or.inr rfl)) (qF (sq (fk ["walker","deed"] (jF rfl (bz B) (a2 xv xv)) ⟨(tg2 gq gq),(fm (ct (oq nA) (jq xv qK) ej)),(jq xv qK)⟩)) (qF (gu 6 rfl (T:=["room"]) (keep:=[5]) ⟨rfl,by decide+kernel,(kc "wiped" (cP _))⟩ rfl (qd xv) (fun _ _ _=>⟨gq,(fm (ct (oq mE) xv xv (by with_unfolding_all rfl))),xv⟩) (gL rfl) rfl (by first|exact Or.inl rfl|exact Or.inr rfl)) (qG (qU (cz fc (a1 (v6 rfl rfl (bz B) rfl (bz B) (qI fP xv xv))))))))))
abbrev nS:dJ:=top 11
noncomputable def oR:FS:=(d5 (d6 (mV 1) (gT 3 (gCs (gN 3) (gCs (gN 4) (gCs (gN 5) gNl)))))
  (d5 (d6 (mV 2) (gT 3 (gCs (gN 6) (gCs (gN 7) (gCs (gN 8) gNl)))))
  (d5 (hE (Fv (mB (m2 (b2 B5) (mV 8) (mC D.non))) (mB (m2 (b2 (iF fun i j=>decide (j<=i))) (mV 8) (mN (b1 eS) (dM (m2 (b2 dQ) (mV 0) (mV 3)) dN))))) (e9 (eQ (dM (mV 3) (dM (mV 4) (dM (mV 6) dN))))) rG)
  (d5 (d6 (m2 (b2 dQ) (m2 (b2 dQ) (mV 0) (mV 3)) (mV 8)) (gT 2 (gCs (gN 9) (gCs (gN 10) gNl))))
  (e9 (eQ (dM (mV 9) (dM (m2 (b2 fM) (mC (D.int 1)) (mV 10)) (dM (mV 6) dN)))))))))
noncomputable def hB:FN:=iy 11 oR
theorem tJ {f:dy}(F:eG K "stepped" nS f):
  fH P w K mg base 1 "stepped" 3 hB:=xq ["web","walker","deed","room","came","past","mood","hand","step","there","back"] X G F fun a=>
 (qF (qR xv (hM rfl (ec gq (ec gq (ec gq gx))))) (qF (qR xv (hM rfl (ec gq (ec gq (ec gq gx))))) (qF (qV (lW (sR (ct Go xv fU) (oX (ct Gr xv (cn eZ (a1 (jq xv xv))))))) (qG (qU (d8 (a3 xv xv xv)))) qQ) (qF (qR (jq (jq xv xv) xv) (tg2 gq gq)) (qG (qU (d8 (a3 xv (qI fP qK xv) xv))))))))
abbrev k7:dJ:=top 16
noncomputable def i3:FS:=(d5 (d6 (mC (D.int 0)) (gN 2))
  (d5 (hE (mB (m2 (b2 xp) (mV 1) (mN (b1 eS) (dM (mV 0) dN)))) (d6 (m2 (b2 dQ) (mV 0) (mV 1)) (gN 2)) rG)
  (d5 (d6 (m2 (b2 jk) (m2 (b2 kf) (mV 2) (m2 (b2 jk) (m2 (b2 t0) (mC (D.int 10)) (mC (D.int 60))) (m2 (b2 t0) (mC (D.int 10)) (mC (D.int 30))))) (mN (b1 nG) (dM (m2 (b2 (iF fun i j=>decide (j<=i))) (mV 2) (m2 (b2 t0) (mC (D.int 10)) (mC (D.int 18)))) dN))) (gN 3))
  (e9 (jv (dM (mV 3) (dM (m2 (b2 kf) (m2 (b2 fM) (m2 (b2 fM) (m2 (b2 kf) (mV 2) (mC (D.int 2305843009213693951))) (m2 (b2 jk) (mC (D.int 7919)) (mV 1))) (mC (D.int 3))) (mC (D.int 2305843009213693951))) (dM (mC (D.int 0)) dN))))))))
noncomputable def fr:FN:=iy 4 i3
theorem pK {f:dy}(F:eG K "_law_hand" k7 f):
  fH P w K mg base 1 "_law_hand" 2 fr:=xq ["_law_script","_law_k","_law_cell","_law_great"] X G F fun a=>
 (qF (sq qK) (qF (qV (ct (oq lj) xv (cn eZ (a1 xv))) (qG (sq (jq xv xv))) qQ) (qF (sq (qI jX (qI lh xv (qI jX (qI yM qK qK) (qI yM qK qK))) (cz vQ (a1 (ce Gr xv (qI yM qK qK)))))) (qG (qU (gn (a3 xv (qI lh (qI fP (qI fP (qI lh xv qK) (qI jX qK xv)) qK) qK) qK)))))))
abbrev k6:dJ:=top 17
noncomputable def i0:FS:=(d5 (hE (mB (m2 (b2 (iF fun i j=>decide (j<i))) (m2 (b2 dQ) (mV 0) (mC (D.int 0))) (mC (D.int 0)))) (d5 (d6 (m2 (b2 kf) (m2 (b2 dQ) (mV 0) (mC (D.int 0))) (mV 1)) (gN 2))
  (d5 (d6 (m2 (b2 nH) (m2 (b2 dQ) (mV 0) (mC (D.int 0))) (mV 1)) (gS (b3 iU) (mV 0) (mC (D.int 0))))
  (e9 (mV 2)))) rG)
  (d5 (d6 (m2 (b2 fM) (m2 (b2 dQ) (mV 0) (mC (D.int 2))) (mC (D.int 1))) (gS (b3 iU) (mV 0) (mC (D.int 2))))
  (d5 (d6 (m2 (b2 kf) (m2 (b2 jk) (m2 (b2 fM) (m2 (b2 fM) (m2 (b2 dQ) (mV 0) (mC (D.int 1))) (m2 (b2 jk) (m2 (b2 jk) (mC (D.int 65537)) (m2 (b2 dQ) (mV 0) (mC (D.int 2)))) (m2 (b2 dQ) (mV 0) (mC (D.int 2))))) (mC (D.int 11))) (mC (D.int 48271))) (mC (D.int 2305843009213693921))) (gN 3))
  (d5 (d6 (m2 (b2 kf) (m2 (b2 jk) (mV 3) (m2 (b2 fM) (m2 (b2 kf) (mV 3) (mC (D.int 1000003))) (m2 (b2 jk) (mC (D.int 99991)) (m2 (b2 dQ) (mV 0) (mC (D.int 2)))))) (mC (D.int 2305843009213693907))) (gN 3))
  (e9 (m2 (b2 kf) (m2 (b2 fM) (m2 (b2 nH) (mV 3) (mC (D.int 97))) (m2 (b2 nH) (mV 3) (mC (D.int 1000033)))) (mV 1)))))))
noncomputable def dP:FN:=iy 4 i0
theorem pJ {f:dy}(F:eG K "_law_take" k6 f):
  fH P w K mg base 1 "_law_take" 2 dP:=xq ["_law_hand_here","_law_many","_law_digit","_law_mixed"] X G F fun a=>
 (qF (qV (ct yP (jq xv qK) qK) (qF (sq (qI lh (jq xv qK) xv)) (qF (qR (qI u6 (jq xv qK) xv) (lN xv qK (pB a.units))) (qG (qU xv)))) qQ) (qF (qR (qI fP (jq xv qK) qK) (lN xv qK (pB a.units))) (qF (sq (qI lh (qI jX (qI fP (qI fP (jq xv qK) (qI jX (qI jX qK (jq xv qK)) (jq xv qK))) qK) qK) qK)) (qF (sq (qI lh (qI jX xv (qI fP (qI lh xv qK) (qI jX qK (jq xv qK)))) qK)) (qG (qU (qI lh (qI fP (qI u6 xv qK) (qI u6 xv qK)) xv)))))))
abbrev mh:dJ:=top 19
noncomputable def nl:FS:=(d5 (d6 (m2 (b2 dQ) (m2 (b2 dQ) (mV 1) (m2 (b2 dQ) (mV 2) (mC (D.int 0)))) (m2 (b2 gSub) (mC (D.int 1)) (m2 (b2 dQ) (mV 2) (mC (D.int 1))))) (gN 3))
  (e9 (eQ (dM (mV 3) (dM (qp (b2 zz) (m2 (b2 dQ) (mV 0) (mV 3)) (dM (eQ (dM (m2 (b2 dQ) (mV 2) (mC (D.int 0))) (dM (m2 (b2 gSub) (mC (D.int 1)) (m2 (b2 dQ) (mV 2) (mC (D.int 1)))) dN))) dN)) dN)))))
noncomputable def fS:FN:=iy 4 nl
theorem ro {f:dy}(F:eG K "_law_far" mh f):
  fH P w K mg base 1 "_law_far" 3 fS:=xq ["_law_ends","_law_pairs","_law_end","_law_room"] X G F fun a=>
 (qF (sq (jq (jq xv (jq xv qK)) (qI yL qK (jq xv qK)))) (qG (qU (d8 (a2 xv (qe PySem.F.slot_list_index PySem.F.type_list_index (FJ a.units) (jq xv xv) (a1 (d8 (a2 (jq xv qK) (qI yL qK (jq xv qK)))))))))))
abbrev jO:dJ:=top 23
noncomputable def ku:FS:=(d5 (d6 (m2 (b2 dQ) (m2 (b2 dQ) (mV 2) (mC (D.int 0))) (mV 3)) (gT 3 (gCs (gN 4) (gCs (gN 5) (gCs (gN 6) gNl)))))
  (d5 (d6 (mN (b1 eS) (dM (eK 1 [4] (hH (m2 (b2 dQ) (mV 2) (mC (D.int 0)))) (gN 0) (mB (m2 (b2 rZ) (m2 (b2 dQ) (mV 0) (mC (D.int 0))) (mV 1))) (ev (mV 0))) dN)) (gN 7))
  (d5 (d6 (rH [((mC (D.str "came")),(mV 5)),((mC (D.str "chalk")),(mN (b1 nG) (dM (m2 (b2 iV) (mV 4) (m2 (b2 dQ) (mV 2) (mC (D.int 1)))) dN))),((mC (D.str "doors")),(mN (b1 eS) (dM (m2 (b2 dQ) (mV 0) (mV 4)) dN))),((mC (D.str "others")),(mN (b1 nG) (dM (m2 (b2 (iF fun i j=>decide (j<i))) (mV 7) (mC (D.int 1))) dN)))]) (gN 8))
  (e9 (mN (b1 gTup) (dM (eK 1 [1,8] (hH (eQ (dM (mC (D.str "came")) (dM (mC (D.str "chalk")) (dM (mC (D.str "doors")) (dM (mC (D.str "others")) dN)))))) (gN 0) fQ (ev (vc (mB (m2 (b2 iV) (mV 0) (mV 1))) (m2 (b2 dQ) (mV 2) (mV 0)) (mC D.non)))) dN))))))
noncomputable def eO:FN:=iy 9 ku
theorem ny {f:dy}(F:eG K "_law_sight" jO f):
  fH P w K mg base 1 "_law_sight" 4 eO:=xq ["_law_web_here","_law_eyes","_law_whole","_law_k","_law_room","_law_came","_law_mood","_law_crowd","_law_parts"] X G F fun a=>
 (qF (qR (jq (jq xv qK) xv) (hM rfl (ec gq (ec gq (ec gq gx))))) (qF (sq (cn eZ (a1 (fk ["_law_walker"] (qd (jq xv qK)) ⟨gq,(fm (ct (oq nA) (jq xv qK) xv)),xv⟩)))) (qF (sq (qr (fY ej xv (fY ej (cz vQ (a1 (ce (oq n4) xv (jq xv qK) (by with_unfolding_all rfl)))) (fY ej (cn eZ (a1 (jq xv xv))) (fY ej (cz vQ (a1 (ce yP xv qK))) uv)))))) (qG (qU (cz fc (a1 (fk ["_law_eye"] (qd (d8 (qA ej (a3 ej ej ej)))) ⟨gq,fe,(oY (ct (oq n4) xv xv (by with_unfolding_all rfl)) (jq xv xv) fU)⟩))))))))
abbrev iK:dJ:=top 24
noncomputable def hA:FS:=(d5 (d6 (eK 2 [4] (Ao (dM (m2 (b2 dQ) (mV 1) (mC (D.int 0))) (dM (mV 2) dN))) (gT 2 (gCs (gN 0) (gCs (gN 1) gNl))) (mB (m2 (b2 rZ) (m2 (b2 dQ) (mV 0) (mC (D.int 0))) (mV 2))) (ev (m2 (b2 dQ) (mV 1) (mC (D.int 1))))) (gN 5))
  (hE (Fv (mB (m2 (b2 iV) (mC (D.str "mark")) (mV 5))) (tQ (mB (m2 (b2 iV) (mV 4) (m2 (b2 dQ) (mV 1) (mC (D.int 1))))) (mB (m2 (b2 fv) (mC (D.str "wipe")) (mV 5))))) (fx (qp (b2 kg) (mV 3) (dM (mV 4) dN))) rG))
noncomputable def i4:FS:=(d5 (d6 (jv dN) (gN 3))
  (d5 (iE (tX (dM (mN (b1 eS) (dM (mV 0) dN)) dN)) (gN 4) hA)
  (e9 (mN (b1 gTup) (dM (mV 3) dN)))))
noncomputable def ft:FN:=iy 6 i4
theorem lF {f:dy}(F:eG K "_law_chalked" iK f):
  fH P w K mg base 1 "_law_chalked" 3 ft:=xq ["_law_web_here","_law_whole","_law_dealt","_law_found","_law_room","_law_hands"] X G F fun a=>
 (qF (sq (gn qN)) (qF (fo (ir (a1 (cn eZ (a1 xv)))) gq (qF (gu 5 rfl (T:=["_law_walker","_law_deed_here"]) (keep:=[4]) ⟨rfl,by decide+kernel,(kc "_law_room" (cP _))⟩ rfl (jF rfl (bz B) (a2 (jq xv qK) xv)) (fun _ _ _=>⟨(tg2 gq gq),(fm (ct (oq nA) (jq xv qK) xv)),(jq xv qK)⟩) (gL rfl) rfl (by first|exact Or.inl rfl|exact Or.inr rfl)) (qG (qV (lW (sR (ct (oq n4) ej xv (by with_unfolding_all rfl)) (oX (lW (lK (ct (oq n4) xv (jq xv qK) (by with_unfolding_all rfl)) (jD (ct (oq mE) ej xv (by with_unfolding_all rfl)))))))) (qG (lq ap xv (a1 xv))) qQ)))) (qG (qU (cz fc (a1 xv))))))
abbrev nU:dJ:=top 2
noncomputable def lg:FT:=(tQ (mB (m2 (b2 xp) (mV 4) (mN (b1 eS) (dM (mV 3) dN)))) (mB (m2 (b2 rZ) (m2 (b2 dQ) (m2 (b2 dQ) (m2 (b2 dQ) (mV 3) (mV 4)) (mC (D.int 0))) (mC (D.int 0))) (mV 1))))
noncomputable def lf:FS:=(d5 (hE (mB (m2 (b2 rZ) (m2 (b2 dQ) (m2 (b2 dQ) (m2 (b2 dQ) (mV 3) (mV 4)) (mC (D.int 0))) (mC (D.int 1))) (mV 2))) (e9 (m2 (b2 dQ) (m2 (b2 dQ) (mV 3) (mV 4)) (mC (D.int 1)))) rG)
  (BA 4 (b2 zA) (mC (D.int 1))))
noncomputable def oT:FS:=(d5 (d6 (m2 (b2 dQ) (mV 0) (mC (D.int 1))) (gN 3))
  (d5 (d6 (mN (dS 2 gD) (dM (mV 3) (dM (mV 1) dN))) (gN 4))
  (d5 (qo lg lf 100000)
  (e9 (eQ (dM (mV 1) (dM (mC (D.str "leave")) (dM (mC D.non) dN))))))))
noncomputable def fR:FN:=iy 5 oT
theorem tL {f:dy}(F:eG K "deed_of" nU f)(a:fH P w K mg base 1 "first_of" 2 gD):
  fH P w K mg base 2 "deed_of" 3 fR:=xq ["machine","mood","sight","rows","at"] X G F fun b=>
 (qF (sq (jq xv qK)) (qF (sq (wn a (a2 xv xv))) (qF (kB 100000 PassesOwn.never (lW (lK (ct (oq lj) xv (cn eZ (a1 xv))) (jD (ct (oq nA) (jq (jq (jq xv xv) qK) qK) xv)))) (qF (qV (ct (oq nA) (jq (jq (jq xv xv) qK) qK) xv) (qG (qU (jq (jq xv xv) qK))) qQ) (qG (Au 4 (gL rfl) rfl (by first|exact Or.inl rfl|exact Or.inr rfl) qK BR)))) (qG (qU (d8 (a3 xv ej fU)))))))
abbrev uI:dJ:=top 7
noncomputable def vS:FS:=(e9 (eK 2 [0,1,2] (Fw (dM (m2 (b2 dQ) (mV 2) (mC (D.int 0))) dN)) (gT 2 (gCs (gN 0) (gCs (gN 1) gNl))) fQ (ev (eQ (dM (m2 (b2 dQ) (mV 1) (mC (D.int 2))) (dM (mN (dS 4 gC) (dM (mV 2) (dM (mV 3) (dM (mV 4) (dM (mV 0) dN))))) dN))))))
noncomputable def j5:FN:=iy 3 vS
theorem yI {f:dy}(F:eG K "wants" uI f)(a:fH P w K mg base 1 "sight_of" 4 gC):
  fH P w K mg base 2 "wants" 3 j5:=xq ["web","eyes","whole"] X G F fun b=>
 (qG (qU (fk ["k","walker"] (ie (a1 (jq xv qK))) ⟨(tg2 gq gq),fe,(d8 (a2 (jq xv qK) (wn a (qA xv (a3 xv xv xv)))))⟩)))
abbrev uJ:dJ:=top 9
noncomputable def vT:FS:=(d5 (d6 (mV 1) (gT 2 (gCs (gN 3) (gCs (gN 4) gNl))))
  (d5 (d6 (eK 2 [0] (Ao (dM (mV 3) (dM (mV 2) dN))) (gT 2 (gCs (gN 0) (gCs (gN 1) gNl))) fQ (ev (mN (dS 3 hB) (dM (mV 2) (dM (mV 0) (dM (mV 1) dN)))))) (gN 5))
  (e9 (eQ (dM (mN (b1 gTup) (dM (mV 5) dN)) (dM (mN (dS 2 hC) (dM (mV 1) (dM (mV 2) dN))) dN))))))
noncomputable def j6:FN:=iy 6 vT
theorem yJ {f:dy}(F:eG K "moved" uJ f)(b:fH P w K mg base 1 "handled" 2 hC)(a:fH P w K mg base 1 "stepped" 3 hB):
  fH P w K mg base 2 "moved" 3 j6:=xq ["web","whole","deeds","walkers","chalk","behind"] X G F fun c=>
 (qF (qR xv (tg2 gq gq)) (qF (gu 5 rfl (T:=["walker","deed"]) (keep:=[0]) ⟨rfl,by decide+kernel,(kc "web" (cP _))⟩ rfl (jF rfl (bz B) (a2 xv xv)) (fun _ _ _=>⟨(tg2 gq gq),fe,(wn a (a3 xv xv xv))⟩) (gL rfl) rfl (by first|exact Or.inl rfl|exact Or.inr rfl)) (qG (qU (d8 (a2 (cz fc (a1 xv)) (wn b (a2 xv xv))))))))
abbrev mf:dJ:=top 18
noncomputable def nk:FS:=(d5 (fx (qp (b3 wR) (m2 (b2 dQ) (mV 1) (mV 3)) (dM (mN (dS 2 dP) (dM (mV 0) (dM (m2 (b2 fM) (mN (b1 eS) (dM (m2 (b2 dQ) (mV 1) (mV 3)) dN)) (mC (D.int 1))) dN))) (dM (eQ (dM (mN (b1 eS) (dM (mV 2) dN)) (dM (mC (D.int 0)) dN))) dN))))
  (d5 (fx (qp (b3 wR) (m2 (b2 dQ) (mV 1) (mV 4)) (dM (mN (dS 2 dP) (dM (mV 0) (dM (m2 (b2 fM) (mN (b1 eS) (dM (m2 (b2 dQ) (mV 1) (mV 4)) dN)) (mC (D.int 1))) dN))) (dM (eQ (dM (mN (b1 eS) (dM (mV 2) dN)) (dM (mC (D.int 1)) dN))) dN))))
  (fx (qp (b2 kg) (mV 2) (dM (eQ (dM (mV 3) (dM (mV 4) dN))) dN)))))
noncomputable def fD:FN:=iy 5 nk
theorem rn {f:dy}(F:eG K "_law_tie" mf f)(a:fH P w K mg base 1 "_law_take" 2 dP):
  fH P w K mg base 2 "_law_tie" 5 fD:=xq ["_law_hand_here","_law_ends","_law_pairs","_law_one","_law_other"] X G F (hb:=fun _ _ _ _ _ _ c b=>Ix b fun _ _ _ _ _=>rfl) fun d=>
 (qF (lq ⟨PySem.F.slot_list_insert,PySem.F.type_list_insert,CA⟩ (jq xv xv) (a2 (wn a (a2 xv (qI fP (cn eZ (a1 (jq xv xv))) qK))) (d8 (a2 (cn eZ (a1 xv)) qK)))) (qF (lq ⟨PySem.F.slot_list_insert,PySem.F.type_list_insert,CA⟩ (jq xv xv) (a2 (wn a (a2 xv (qI fP (cn eZ (a1 (jq xv xv))) qK))) (d8 (a2 (cn eZ (a1 xv)) qK)))) (qG (lq ap xv (a1 (d8 (a2 xv xv)))))))
abbrev iz:dJ:=top 21
noncomputable def gK:FT:=(mB (m2 (b2 (iF fun i j=>decide (j<i))) (mN (b1 eS) (dM (mV 3) dN)) (m2 (b2 fM) (mC (D.int 1)) (mN (dS 2 dP) (dM (mV 0) (dM (mV 2) dN))))))
noncomputable def gJ:FS:=(fx (qp (b2 zx) (mV 3) (dM (mN (dS 2 dP) (dM (mV 0) (dM (mN (b1 eS) (dM (mV 3) dN)) dN))) dN)))
noncomputable def iC:FS:=(d5 (d6 (za (dM (mV 1) dN)) (gN 3))
  (d5 (qo gK gJ 100000)
  (d5 (d6 (mN (dS 2 dP) (dM (mV 0) (dM (mC (D.int 2)) dN))) (gN 4))
  (e9 (eQ (dM (mN (b1 gTup) (dM (mV 3) dN)) (dM (mN (b1 gTup) (dM (eK 1 [4,0] (tX (dM (mV 1) dN)) (gN 0) (mB (m2 (b2 rZ) (m2 (b2 jk) (mV 1) (mN (dS 2 dP) (dM (mV 2) (dM (mC (D.int 3)) dN)))) (mC (D.int 1)))) (ev (mV 0))) dN)) dN)))))))
noncomputable def ff:FN:=iy 5 iC
theorem kJ {f:dy}(F:eG K "_law_standing" iz f)(a:fH P w K mg base 1 "_law_take" 2 dP):
  fH P w K mg base 2 "_law_standing" 3 ff:=xq ["_law_hand_here","_law_many","_law_most","_law_rooms","_law_some"] X G F fun b=>
 (qF (sq (sV rfl rfl (bz B) rfl (bz B) (a1 xv))) (qF (kB 100000 PassesOwn.never (ct yP (cn eZ (a1 xv)) (qI fP qK (wn a (a2 xv xv)))) (qG (lq ⟨PySem.F.slot_list_pop,PySem.F.type_list_pop,FH⟩ xv (a1 (wn a (a2 xv (cn eZ (a1 xv)))))))) (qF (sq (wn a (a2 xv qK))) (qG (qU (d8 (a2 (cz fc (a1 xv)) (cz fc (a1 (fk ["_law_room"] (ir (a1 xv)) ⟨gq,(fm (ct (oq nA) (qI jX xv (wn a (a2 xv qK))) qK)),xv⟩))))))))))
abbrev g0:dJ:=top 22
noncomputable def hL:FS:=(e9 (mN (b1 gTup) (dM (eK 1 [0] (hH (eQ (dM (mC (D.str "came")) (dM (mC (D.str "chalk")) (dM (mC (D.str "doors")) (dM (mC (D.str "others")) dN)))))) (gN 0) (mB (m2 (b2 rZ) (mN (dS 2 dP) (dM (mV 1) (dM (mC (D.int 2)) dN))) (mC (D.int 0)))) (ev (mV 0))) dN)))
noncomputable def eW:FN:=iy 1 hL
theorem jV {f:dy}(F:eG K "_law_some_eyes" g0 f)(a:fH P w K mg base 1 "_law_take" 2 dP):
  fH P w K mg base 2 "_law_some_eyes" 1 eW:=xq ["_law_hand_here"] X G F fun b=>
 (qG (qU (cz fc (a1 (fk ["_law_eye"] (qd (d8 (qA ej (a3 ej ej ej)))) ⟨gq,(fm (ct (oq nA) (wn a (a2 xv qK)) qK)),xv⟩)))))
abbrev k9:dJ:=top 25
noncomputable def jo:FS:=(d5 (d6 (m2 (b2 dQ) (m2 (b2 dQ) (m2 (b2 dQ) (mV 3) (mC (D.int 0))) (mV 6)) (mC (D.int 2))) (gN 7))
  (fx (qp (b2 kg) (mV 4) (dM (pR (mV 2) (eQ (dM (mV 7) (dM (mN (dS 4 eO) (dM (mV 0) (dM (mV 1) (dM (mV 3) (dM (mV 6) dN))))) dN))) (eQ (dM (mV 7) (dM (mC (D.str "leave")) (dM (mC D.non) dN))))) dN))))
noncomputable def jn:FS:=(d5 (hE (tQ (mB (m2 (b2 gM) (mV 12) (mC D.non))) (mB (m2 (b2 xp) (mV 12) (mN (b1 eS) (dM (m2 (b2 dQ) (mV 0) (mV 8)) dN))))) (d6 (eQ (dM (m2 (b2 dQ) (m2 (b2 dQ) (m2 (b2 dQ) (mV 0) (mV 8)) (mV 12)) (mC (D.int 0))) (dM (m2 (b2 fM) (mC (D.int 1)) (m2 (b2 dQ) (m2 (b2 dQ) (m2 (b2 dQ) (mV 0) (mV 8)) (mV 12)) (mC (D.int 1)))) dN))) (gT 2 (gCs (gN 8) (gCs (gN 9) gNl)))) rG)
  (fx (qp (b2 kg) (mV 5) (dM (eQ (dM (mV 8) (dM (mV 9) (dM (mV 10) dN)))) dN))))
noncomputable def lC:FS:=(d5 (d6 (eQ (dM (jv dN) (dM (jv dN) dN))) (gT 2 (gCs (gN 4) (gCs (gN 5) gNl))))
  (d5 (iE (tX (dM (mN (b1 eS) (dM (m2 (b2 dQ) (mV 3) (mC (D.int 0))) dN)) dN)) (gN 6) jo)
  (d5 (iE (Ao (dM (m2 (b2 dQ) (mV 3) (mC (D.int 0))) (dM (mV 4) dN))) (gT 2 (gCs (gT 3 (gCs (gN 8) (gCs (gN 9) (gCs (gN 7) gNl)))) (gCs (gT 3 (gCs (gN 10) (gCs (gN 11) (gCs (gN 12) gNl)))) gNl))) jn)
  (e9 (eQ (dM (mN (b1 gTup) (dM (mV 5) dN)) (dM (mN (dS 3 ft) (dM (mV 0) (dM (mV 3) (dM (mV 4) dN)))) dN)))))))
noncomputable def ga:FN:=iy 13 lC
theorem pM {f:dy}(F:eG K "_law_beat" k9 f)(c:fH P w K mg base 1 "_law_chalked" 3 ft)(a:fH P w K mg base 1 "_law_sight" 4 eO):
  fH P w K mg base 2 "_law_beat" 4 ga:=xq ["_law_web_here","_law_eyes","_law_rows","_law_whole","_law_dealt","_law_walkers","_law_k","_law_mood","_law_room","_law_came","_law_later","_law_hand_here","_law_step"] X G F fun b=>
 (qF (lM 4 5 rfl (gL rfl) rfl rfl (by decide) rfl rfl (a2 (gn qN) (gn qN))) (qF (fo (ir (a1 (cn eZ (a1 (jq xv qK))))) gq (qF (sq (jq (jq (jq xv qK) xv) qK)) (qG (lq ap xv (a1 (v7 b.units xv (d8 (a2 xv (wn a (qA xv (a3 xv xv xv))))) (d8 (a3 xv ej fU)))))))) (qF (fo (jF rfl (bz B) (a2 (jq xv qK) xv)) (tg2 (hM rfl (ec gq (ec gq (ec gq gx)))) (hM rfl (ec gq (ec gq (ec gq gx))))) (qF (qV (lW (lK (ct mF xv fU) (jD (ct (oq lj) xv (cn eZ (a1 (jq xv xv))))))) (qG (lM 8 9 rfl (gL rfl) rfl rfl (by decide) rfl rfl (a2 (jq (jq (jq xv xv) xv) qK) (qI fP qK (jq (jq (jq xv xv) xv) qK))))) qQ) (qG (lq ap xv (a1 (d8 (a3 xv xv xv))))))) (qG (qU (d8 (a2 (cz fc (a1 xv)) (wn c (a3 xv xv xv)))))))))
abbrev k8:dJ:=top 26
noncomputable def lB:FS:=(d5 (d6 (m2 (b2 dQ) (eQ (dM (mC D.non) (dM (mC (D.int 0)) (dM (mC (D.int 1)) (dM (mC (D.int 2)) (dM (mC (D.int 3)) (dM (mC (D.int 0)) (dM (mC (D.int 1)) dN)))))))) (mN (dS 2 dP) (dM (mV 0) (dM (mC (D.int 7)) dN)))) (gN 1))
  (e9 (eQ (dM (mN (dS 2 dP) (dM (mV 0) (dM (mC (D.int 3)) dN))) (dM (m2 (b2 dQ) (eQ (dM (mC (D.str "leave")) (dM (mC (D.str "wipe")) (dM (mC (D.str "mark")) (dM (mC (D.str "mark")) dN))))) (mN (dS 2 dP) (dM (mV 0) (dM (mC (D.int 4)) dN)))) (dM (mV 1) dN))))))
noncomputable def f0:FN:=iy 2 lB
theorem pL {f:dy}(F:eG K "_law_deed" k8 f)(a:fH P w K mg base 1 "_law_take" 2 dP):
  fH P w K mg base 2 "_law_deed" 1 f0:=xq ["_law_hand_here","_law_step"] X G F fun b=>
 (qF (sq (jq (d8 (qA fU (qA qK (qA qK (qA qK (a3 qK qK qK)))))) (wn a (a2 xv qK)))) (qG (qU (d8 (a3 (wn a (a2 xv qK)) (jq (d8 (qA ej (a3 ej ej ej))) (wn a (a2 xv qK))) xv)))))
abbrev yb:dJ:=top 8
noncomputable def Ad:FS:=(d5 (d6 (mN (dS 3 j5) (dM (mV 0) (dM (m2 (b2 dQ) (mV 1) (mC (D.int 0))) (dM (mV 2) dN)))) (gN 3))
  (e9 (mN (dS 3 j6) (dM (mV 0) (dM (mV 2) (dM (eK 2 [1] (hH (mV 3)) (gT 2 (gCs (gN 0) (gCs (gN 1) gNl))) fQ (ev (mN (dS 3 fR) (dM (mV 2) (dM (mV 0) (dM (mV 1) dN)))))) dN))))))
noncomputable def mH:FN:=iy 4 Ad
theorem Ba {f:dy}(F:eG K "beat" yb f)(c:fH P w K mg base 2 "deed_of" 3 fR)(b:fH P w K mg base 2 "moved" 3 j6)(a:fH P w K mg base 2 "wants" 3 j5):
  fH P w K mg base 3 "beat" 3 mH:=xq ["web","machine","whole","wanted"] X G F fun d=>
 (qF (sq (wn a (a3 xv (jq xv qK) xv))) (qG (qU (wn b (a3 xv xv (fk ["mood","sight"] (qd xv) ⟨(tg2 gq gq),fe,(wn c (a3 xv xv xv))⟩))))))
abbrev me:dJ:=top 20
noncomputable def im:FS:=(d5 (d6 (eK 1 [3] (tX (dM (mV 5) dN)) (gN 0) (mB (m2 (b2 xp) (mN (b1 eS) (dM (m2 (b2 dQ) (mV 1) (mV 0)) dN)) (mC (D.int 4)))) (ev (mV 0))) (gN 6))
  (fx (mN (dS 5 fD) (dM (mV 0) (dM (mV 3) (dM (mV 4) (dM (m2 (b2 dQ) (mV 6) (mN (dS 2 dP) (dM (mV 0) (dM (mN (b1 eS) (dM (mV 6) dN)) dN)))) (dM (mV 5) dN))))))))
noncomputable def il:FS:=(d5 (d6 (eQ (dM (mN (dS 2 dP) (dM (mV 0) (dM (mV 2) dN))) (dM (mN (dS 2 dP) (dM (mV 0) (dM (mV 2) dN))) dN))) (gT 2 (gCs (gN 8) (gCs (gN 9) gNl))))
  (hE (tQ (mB (m2 (b2 xp) (mN (b1 eS) (dM (m2 (b2 dQ) (mV 3) (mV 8)) dN)) (mC (D.int 4)))) (mB (m2 (b2 xp) (mN (b1 eS) (dM (m2 (b2 dQ) (mV 3) (mV 9)) dN)) (m2 (b2 gSub) (mC (D.int 4)) (mN (b1 nG) (dM (m2 (b2 rZ) (mV 8) (mV 9)) dN)))))) (fx (mN (dS 5 fD) (dM (mV 0) (dM (mV 3) (dM (mV 4) (dM (mV 8) (dM (mV 9) dN))))))) rG))
noncomputable def nj:FS:=(d5 (d6 (m2 (b2 fM) (mC (D.int 1)) (mN (dS 2 dP) (dM (mV 0) (dM (mV 1) dN)))) (gN 2))
  (d5 (d6 (eQ (dM (eK 1 [] (tX (dM (mV 2) dN)) (gN 0) fQ (ev (jv dN))) (dM (jv dN) dN))) (gT 2 (gCs (gN 3) (gCs (gN 4) gNl))))
  (d5 (iE (GM (dM (mC (D.int 1)) (dM (mV 2) dN))) (gN 5) im)
  (d5 (iE (tX (dM (mN (dS 2 dP) (dM (mV 0) (dM (mC (D.int 7)) dN))) dN)) (gN 7) il)
  (e9 (mN (b1 gTup) (dM (eK 1 [3,4] (hH (mV 3)) (gN 0) fQ (ev (mN (b1 gTup) (dM (eK 1 [1,2] (hH (mV 0)) (gN 0) fQ (ev (mN (dS 3 fS) (dM (mV 1) (dM (mV 2) (dM (mV 0) dN)))))) dN)))) dN)))))))
noncomputable def gE:FN:=iy 10 nj
theorem rj {f:dy}(F:eG K "_law_web" me f)(c:fH P w K mg base 1 "_law_far" 3 fS)(a:fH P w K mg base 1 "_law_take" 2 dP)(b:fH P w K mg base 2 "_law_tie" 5 fD):
  fH P w K mg base 3 "_law_web" 2 gE:=xq ["_law_hand_here","_law_most","_law_many","_law_ends","_law_pairs","_law_room","_law_some","_law_turn","_law_one","_law_other"] X G F fun d=>
 (qF (sq (qI fP qK (wn a (a2 xv xv)))) (qF (qR (d8 (a2 (fk ["_law_room"] (ir (a1 xv)) ⟨gq,fe,(gn qN)⟩) (gn qN))) (tg2 gq gq)) (qF (fo (sS rfl (bz B) (a2 qK xv)) gq (qF (gu 6 rfl (T:=["_law_one"]) (keep:=[3]) ⟨rfl,by decide+kernel,(kc "_law_ends" (cP _))⟩ rfl (ir (a1 xv)) (fun _ _ _=>⟨gq,(fm (ct (oq lj) (cn eZ (a1 (jq xv xv))) qK)),xv⟩) (gL rfl) rfl (by first|exact Or.inl rfl|exact Or.inr rfl)) (qG (jE (wn b (qA xv (qA xv (a3 xv (jq xv (wn a (a2 xv (cn eZ (a1 xv))))) xv)))))))) (qF (fo (ir (a1 (wn a (a2 xv qK)))) gq (qF (lM 8 9 rfl (gL rfl) rfl rfl (by decide) rfl rfl (a2 (wn a (a2 xv xv)) (wn a (a2 xv xv)))) (qG (qV (lW (lK (ct (oq lj) (cn eZ (a1 (jq xv xv))) qK) (jD (ct (oq lj) (cn eZ (a1 (jq xv xv))) (qI yL qK (cz vQ (a1 (ce (oq nA) xv xv)))))))) (qG (jE (wn b (qA xv (qA xv (a3 xv xv xv)))))) qQ)))) (qG (qU (cz fc (a1 (fk ["_law_row"] (qd xv) ⟨gq,fe,(cz fc (a1 (fk ["_law_end"] (qd xv) ⟨gq,fe,(wn c (a3 xv xv xv))⟩)))⟩)))))))))
abbrev jP:dJ:=top 27
noncomputable def iM:FS:=(d5 (d6 (eQ (dM (m2 (b2 dQ) (m2 (b2 dQ) (m2 (b2 dQ) (mV 4) (mC (D.int 0))) (mV 5)) (mC (D.int 2))) (dM (mN (dS 4 eO) (dM (mV 1) (dM (mV 2) (dM (mV 4) (dM (mV 5) dN))))) dN))) (gN 6))
  (hE (mB (m2 (b2 jh) (mV 6) (mV 3))) (d5 (d6 (mC D.non) (gS (b3 iU) (mV 3) (mV 6)))
  (hE (mB (m2 (b2 (iF fun i j=>decide (j<i))) (mN (dS 2 dP) (dM (mV 0) (dM (mC (D.int 12)) dN))) (mC (D.int 0)))) (d6 (mN (dS 1 f0) (dM (mV 0) dN)) (gS (b3 iU) (mV 3) (mV 6))) rG)) rG))
noncomputable def kw:FS:=(iE (tX (dM (mN (b1 eS) (dM (m2 (b2 dQ) (mV 4) (mC (D.int 0))) dN)) dN)) (gN 5) iM)
noncomputable def fK:FN:=iy 7 kw
theorem nz {f:dy}(F:eG K "_law_grown" jP f)(a:fH P w K mg base 2 "_law_deed" 1 f0)(c:fH P w K mg base 1 "_law_sight" 4 eO)(e:fH P w K mg base 1 "_law_take" 2 dP):
  fH P w K mg base 3 "_law_grown" 5 fK:=xq ["_law_hand_here","_law_web_here","_law_eyes","_law_rows","_law_whole","_law_k","_law_asked"] X G F (hb:=fun _ _ _ _ _ _ g d=>Ix d fun _ _ _ _ _=>rfl) fun b=>
 (qG (fo (ir (a1 (cn eZ (a1 (jq xv qK))))) gq (qF (sq (d8 (a2 (jq (jq (jq xv qK) xv) qK) (wn c (qA xv (a3 xv xv xv)))))) (qG (qV (ct (oq yN) xv xv (by with_unfolding_all rfl)) (qF (qR fU (lN xv xv (pB b.units))) (qG (qV (ct yP (wn e (a2 xv qK)) qK) (qG (qR (wn a (a1 xv)) (lN xv xv (pB b.units)))) qQ))) qQ)))))
abbrev qM:dJ:=top 13
noncomputable def mz:FS:=(fx (qp (b2 kg) (mV 4) (dM (mN (dS 3 mH) (dM (mV 0) (dM (mV 1) (dM (m2 (b2 dQ) (mV 4) (m1 (b1 EZ) (mC (D.int 1)))) dN)))) dN)))
noncomputable def sD:FS:=(d5 (d6 (jv (dM (mN (dS 1 j7) (dM (mV 2) dN)) dN)) (gN 4))
  (d5 (iE (tX (dM (mV 3) dN)) (gN 5) mz)
  (e9 (mN (b1 gTup) (dM (mV 4) dN)))))
noncomputable def iN:FN:=iy 6 sD
theorem wp {f:dy}(F:eG K "walked" qM f)(a:fH P w K mg base 3 "beat" 3 mH)(b:fH P w K mg base 1 "begun" 1 j7):
  fH P w K mg base 4 "walked" 4 iN:=xq ["web","machine","standing","beats","wholes","k"] X G F fun c=>
 (qF (sq (gn (a1 (wn b (a1 xv))))) (qF (fo (ir (a1 xv)) gq (qG (lq ap xv (a1 (wn a (a3 xv xv (jq xv (C2 Gn qK)))))))) (qG (qU (cz fc (a1 xv))))))
abbrev gI:dJ:=top 28
noncomputable def gj:FS:=(d5 (fx (mN (dS 5 fK) (dM (mV 0) (dM (mV 1) (dM (mV 2) (dM (mV 5) (dM (m2 (b2 dQ) (mV 6) (mV 7)) dN)))))))
  (d5 (d6 (mN (b1 mT) (dM (kT 1 [5] (mV 5) (gN 0) (mB (m2 (b2 gM) (m2 (b2 dQ) (mV 1) (mV 0)) (mC D.non))) (ev (eQ (dM (mV 0) (dM (m2 (b2 dQ) (mV 1) (mV 0)) dN))))) dN)) (gN 8))
  (fx (qp (b2 kg) (mV 6) (dM (mN (dS 4 ga) (dM (mV 1) (dM (mV 2) (dM (mV 8) (dM (m2 (b2 dQ) (mV 6) (mV 7)) dN))))) dN)))))
noncomputable def gQ:FS:=(d5 (d6 (eQ (dM zb (dM (jv (dM (eQ (dM (mN (b1 gTup) (dM (eK 1 [] (hH (m2 (b2 dQ) (mV 3) (mC (D.int 0)))) (gN 0) fQ (ev (eQ (dM (mV 0) (dM (mC (D.int 0)) (dM (mC (D.int 0)) dN)))))) dN)) (dM (m2 (b2 dQ) (mV 3) (mC (D.int 1))) dN))) dN)) dN))) (gT 2 (gCs (gN 5) (gCs (gN 6) gNl))))
  (d5 (iE (tX (dM (mV 4) dN)) (gN 7) gj)
  (d5 (d6 (eQ (dM (mV 2) (dM (mN (b1 gTup) (dM (mN (b1 mS) (dM (kT 1 [5] (mV 5) (gN 0) (mB (m2 (b2 gM) (m2 (b2 dQ) (mV 1) (mV 0)) (mC D.non))) (ev (eQ (dM (mV 0) (dM (m2 (b2 dQ) (mV 1) (mV 0)) dN))))) dN)) dN)) dN))) (gN 9))
  (e9 (eQ (dM (mV 9) (dM (mV 6) dN)))))))
noncomputable def eP:FN:=iy 10 gQ
theorem ju {f:dy}(F:eG K "_law_drawn_walk" gI f)(b:fH P w K mg base 2 "_law_beat" 4 ga)(a:fH P w K mg base 3 "_law_grown" 5 fK):
  fH P w K mg base 4 "_law_drawn_walk" 5 eP:=xq ["_law_hand_here","_law_web_here","_law_eyes","_law_standing_here","_law_beats","_law_rows","_law_wholes","_law_turn","_law_there","_law_machine"] X G F (hb:=fun _ _ _ _ _ _ e d=>Ix d fun _ _ _ _ _=>rfl) fun c=>
 (qF (qR (d8 (a2 xF (gn (a1 (d8 (a2 (cz fc (a1 (fk ["_law_room"] (qd (jq xv qK)) ⟨gq,fe,(d8 (a3 xv qK qK))⟩))) (jq xv qK))))))) (tg2 gq gq)) (qF (fo (ir (a1 xv)) gq (qF (jE (wn a (qA xv (qA xv (a3 xv xv (jq xv xv)))))) (qF (sq (cz (Ck c) (a1 (nO rfl (T:=["_law_asked"]) (keep:=[5]) ⟨rfl,by decide+kernel,(kc "_law_rows" (cP _))⟩ rfl xv (fun _ _ _=>⟨gq,(fm (ct mF (jq xv xv) fU)),(d8 (a2 xv (jq xv xv)))⟩))))) (qG (lq ap xv (a1 (wn b (qA xv (a3 xv xv (jq xv xv)))))))))) (qF (sq (d8 (a2 xv (cz fc (a1 (cn (Ci c.units) (a1 (nO rfl (T:=["_law_asked"]) (keep:=[5]) ⟨rfl,by decide+kernel,(kc "_law_rows" (cP _))⟩ rfl xv (fun _ _ _=>⟨gq,(fm (ct mF (jq xv xv) fU)),(d8 (a2 xv (jq xv xv)))⟩))))))))) (qG (qU (d8 (a2 xv xv)))))))
abbrev jN:dJ:=top 14
noncomputable def kr:FS:=(e9 (mN (b1 oz) (dM (eK 2 [] (hH (mN (dS 4 iN) (dM (mV 0) (dM (mV 1) (dM (mV 2) (dM (mV 3) dN)))))) (gT 2 (gCs (gN 0) (gCs (gN 1) gNl))) fQ (ev (mN (b1 eS) (dM (mV 1) dN)))) dN)))
noncomputable def fJ:FN:=iy 4 kr
theorem nw {f:dy}(F:eG K "most_chalk" jN f)(a:fH P w K mg base 4 "walked" 4 iN):
  fH P w K mg base 5 "most_chalk" 4 fJ:=xq ["web","machine","standing","beats"] X G F fun b=>
 (qG (qU (cn (z8 rfl) (a1 (fk ["walkers","chalk"] (qd (wn a (qA xv (a3 xv xv xv)))) ⟨(tg2 gq gq),fe,(cn eZ (a1 xv))⟩)))))
abbrev qS:dJ:=top 29
noncomputable def pI:FS:=(d5 (d6 (mN (dS 4 fJ) (dM (mV 3) (dM (mV 7) (dM (mV 5) (dM (mV 9) dN))))) (gN 10))
  (d5 (hE (Fv (By (HD (mI .int (mV 10)))) (HD (mI .bool (mV 10)))) (e9 (mC (D.bl false))) rG)
  (hE (mB (m2 (b2 HH) (mV 10) (mN (b1 oz) (dM (eK 1 [] (hH (wB (mV 8) mG (rr (m2 (b2 fM) (mV 9) (mC (D.int 1)))))) (gN 0) fQ (ev (mN (b1 eS) (dM (m2 (b2 dQ) (mV 0) (mC (D.int 1))) dN)))) dN)))) (e9 (mC (D.bl false))) rG)))
noncomputable def pH:FS:=(d5 (d6 (mN (dS 2 fr) (dM (mV 0) (dM (mV 1) dN))) (gN 2))
  (d5 (d6 (eQ (dM (mN (dS 2 gE) (dM (mV 2) (dM (mC (D.int 8)) dN))) (dM (mN (dS 1 eW) (dM (mV 2) dN)) dN))) (gT 2 (gCs (gN 3) (gCs (gN 4) gNl))))
  (d5 (d6 (mN (dS 3 ff) (dM (mV 2) (dM (mN (b1 eS) (dM (mV 3) dN)) (dM (mC (D.int 4)) dN)))) (gN 5))
  (d5 (d6 (mN (dS 2 dP) (dM (mV 2) (dM (mC (D.int 31)) dN))) (gN 6))
  (d5 (d6 (mN (dS 5 eP) (dM (mV 2) (dM (mV 3) (dM (mV 4) (dM (mV 5) (dM (mV 6) dN)))))) (gT 2 (gCs (gN 7) (gCs (gN 8) gNl))))
  (iE (hH (jv (dM (mV 6) (dM (mC (D.int 0)) (dM (mN (dS 2 dP) (dM (mV 2) (dM (m2 (b2 fM) (mV 6) (mC (D.int 1))) dN))) (dM (mV 6) dN)))))) (gN 9) pI))))))
noncomputable def uY:FS:=(oe [true,true,false,false,false,false,false,false,false,false,false] [true,false,false,false,false,false,false,false,false,false,false] pH)
noncomputable def Ac:FS:=(d5 (iE (tX (dM (mN (b2 B3) (dM (mC (D.int 1)) (dM (mN (b2 B2) (dM (mC (D.int 4)) (dM (mN (b1 eS) (dM (mV 0) dN)) dN))) dN))) dN)) (gN 1) uY)
  (e9 (mC (D.bl true))))
noncomputable def m_law:FN:=iy 11 Ac
theorem D8 {f:dy}{fd:dI}(F:xu K "law" "law" qS f fd)(h:fH P w K mg base 4 "_law_drawn_walk" 5 eP)(a:fH P w K mg base 1 "_law_hand" 2 fr)(g:fH P w K mg base 2 "_law_some_eyes" 1 eW)(c:fH P w K mg base 2 "_law_standing" 3 ff)(j:fH P w K mg base 1 "_law_take" 2 dP)(d:fH P w K mg base 3 "_law_web" 2 gE)(e:fH P w K mg base 5 "most_chalk" 4 fJ):
  k3 P w K mg base sK 6 f fd ["_law_script"] (Am K 1 m_law):=C3 (k:=5) (n:=1) (N:=["_law_script","_law_k","_law_hand_here","_law_web_here","_law_eyes","_law_standing_here","_law_beats","_law_machine","_law_wholes","_law_few","_law_found"]) (ps:=["_law_script"]) (b:=Ac) F sk rfl fun l A i s H E m=>
 (qF (fo (ir (a1 (cn (He rfl) (a2 qK (cn (Hd rfl) (a2 qK (cn eZ (a1 xv)))))))) gq (v5 [true,true,false,false,false,false,false,false,false,false,false] [true,false,false,false,false,false,false,false,false,false,false] (qF (sq (wn a (a2 xv xv))) (qF (lM 3 4 rfl (gL rfl) rfl rfl (by decide) rfl rfl (a2 (wn d (a2 xv qK)) (wn g (a1 xv)))) (qF (sq (wn c (a3 xv (cn eZ (a1 xv)) qK))) (qF (sq (wn j (a2 xv qK))) (qF (qR (wn h (qA xv (qA xv (a3 xv xv xv)))) (tg2 gq gq)) (qG (fo (qd (gn (qA xv (a3 qK (wn j (a2 xv (qI fP xv qK))) xv)))) gq (qF (sq (wn e (qA xv (a3 xv xv xv)))) (qF (qV (lW (sR (At (uu (ii xv))) (oX (uu (ii xv))))) (qG (qU sY)) qQ) (qG (qV (ct (oq Iq) xv (cn (z8 rfl) (a1 (fk ["_law_whole"] (qd (sU xv xC (xB (qI fP xv qK)))) ⟨gq,fe,(cn eZ (a1 (jq xv qK)))⟩)))) (qG (qU sY)) qQ))))))))))))) (qG (qU sY)))
end
theorem all_mk {l:PySem.W.OpenLaw}{w:dB}{K:Fg1}{h:dH}{mg:Str->Option dr}{fa f1 f2 f3 f4 f5 f6 f7 f8 f9 f10 f11 V f13 p n U J I E f20 f21 C u j H:dy}(X:K.In h)(G:h.Ns dD mg)(A:mg "law"=some (.ref fa))
  {g1 g2 g5 g8 d:dy}
  {t3 t4 t6 t7 t9 Q Y t13:Tok}
  {od2 F od8 f od1:Option dy} {n2 n5 n8 q n1:Nat} {sl2 g L b sl1:Array (Option dr)}
  (a1:eG K "first_of" md f1)
  (a2:eG K "begun" uK f2)
  (a3:eG K "sight_of" l9 f3)
  (a4:eG K "handled" nT f4)
  (a5:eG K "stepped" nS f5)
  (a6:eG K "_law_hand" k7 f6)
  (a7:eG K "_law_take" k6 f7)
  (a8:eG K "_law_far" mh f8)
  (a9:eG K "_law_sight" jO f9)
  (a10:eG K "_law_chalked" iK f10)
  (a11:eG K "deed_of" nU f11)
  (y:eG K "wants" uI V)
  (a13:eG K "moved" uJ f13)
  (a14:eG K "_law_tie" mf p)
  (k:eG K "_law_standing" iz n)
  (a16:eG K "_law_some_eyes" g0 U)
  (x:eG K "_law_beat" k9 J)
  (M:eG K "_law_deed" k8 I)
  (a19:eG K "beat" yb E)
  (t:eG K "_law_web" me f20)
  (i:eG K "_law_grown" jP f21)
  (a22:eG K "walked" qM C)
  (m:eG K "_law_drawn_walk" gI u)
  (N:eG K "most_chalk" jN j)
  (c:eG K "law" qS H)
  (e_PARTS:wN1 K dD "PARTS"=some (some (Value.ref g1)))
  (h1:K.lookup g1=some ⟨.type "tuple",od1,.seq ([(Value.ref g2),(Value.ref g5),(Value.ref g8),(Value.ref d)]:List dr).toArray n1,sl1⟩)
  (h2:K.lookup g2=some ⟨.type "tuple",od2,.seq ([(Value.str "came" t3),(Value.int (5) t4)]:List dr).toArray n2,sl2⟩)
  (h5:K.lookup g5=some ⟨.type "tuple",F,.seq ([(Value.str "chalk" t6),(Value.int (2) t7)]:List dr).toArray n5,g⟩)
  (h8:K.lookup g8=some ⟨.type "tuple",od8,.seq ([(Value.str "doors" t9),(Value.int (5) Q)]:List dr).toArray n8,L⟩)
  (R:K.lookup d=some ⟨.type "tuple",f,.seq ([(Value.str "others" Y),(Value.int (2) t13)]:List dr).toArray q,b⟩)
  (z:Hq K BL):∃fd:dI,(∀(s:dw) (v:dr),BindsTo s fd ⟨[v],[]⟩ [("_law_script",v)]) /\ ∀base:dH,K.In base->base.Ns dD mg->k3 l.prog w K mg base sK 6 fa fd ["_law_script"] (Am K 1 m_law):=by
 have e:=A.symm.trans (wM1 X G c.ns);cases e;have B:Blt BL mg:=z.blt X G;have c0:CGl K mg "PARTS" lS:=Fa (wM1 X G e_PARTS) (m5 h1 (by show 4<=dF;decide) (fh (m5 h2 (by show 2<=dF;decide) (fh qf (fh qg kn))) (fh (m5 h5 (by show 2<=dF;decide) (fh qf (fh qg kn))) (fh (m5 h8 (by show 2<=dF;decide) (fh qf (fh qg kn))) (fh (m5 R (by show 2<=dF;decide) (fh qf (fh qg kn))) kn)))));obtain⟨_,⟨⟨_,_,kV,dc,pm,an,cd,ct,_,rfl,lL,cL⟩,kL⟩⟩:=c.fn;refine⟨wF1 "law" "law" (gP qS) (fb qS) (d3 qS) .none kV dc pm an cd ct,fun s v=>.of_eq rfl,fun base _ _=>?_⟩;have o0:=ri (P:=l.prog) (w:=w) (base:=base) X G B a1;have o14:=yK (P:=l.prog) (w:=w) (base:=base) X G B a2;have o1:=rh (P:=l.prog) (w:=w) (base:=base) X G B a3 c0;have o2:=tK (P:=l.prog) (w:=w) (base:=base) X G B a4;have o3:=tJ (P:=l.prog) (w:=w) (base:=base) X G B a5;have o19:=pK (P:=l.prog) (w:=w) (base:=base) X G B a6;have a:=pJ (P:=l.prog) (w:=w) (base:=base) X G B a7;have o10:=ro (P:=l.prog) (w:=w) (base:=base) X G B a8;have o6:=ny (P:=l.prog) (w:=w) (base:=base) X G B a9;have o5:=lF (P:=l.prog) (w:=w) (base:=base) X G B a10;have o7:=tL X G B a11 o0;have o9:=yI X G B y o1;have o8:=yJ X G B a13 o2 o3;have o11:=rn X G B a14 a;have D:=kJ X G B k a;have o20:=jV X G B a16 a;have o15:=pM X G B x o5 o6;have S:=pL X G B M a;have o:=Ba X G B a19 o7 o8 o9;have O:=rj X G B t o10 a o11;have r:=nz X G B i S o6 a;have W:=wp X G B a22 o o14;have T:=ju X G B m o15 r;have Z:=nw X G B N W;exact D8 (P:=l.prog) (w:=w) (base:=base) X G B (zB lL cL kL) T o19 o20 D a O Z
noncomputable def hnd(g m c:Int):Ob:=.lst [.int g,.int m,.int c]
noncomputable def Eo(m c:Int):Int:=(m+65537*c*c+11)*48271%2305843009213693921
noncomputable def y1(m c:Int):Int:=Eo m c*(Eo m c%1000003+99991*c)%2305843009213693907
theorem Hg{a b c:D}:sM [a,b,c] 0=some a:=by rfl
theorem IL{a b c:D}:sM [a,b,c] 1=some b:=by rfl
theorem IK{a b c:D}:sM [a,b,c] 2=some c:=by rfl
theorem Dj{T:Sto}{g m c k:Int}(hg:0<g)(hk:0<k)(a:k<1073741824):
  dP [.ref 0,.int k] (hnd g m c::T)=some (.int (g%k),hnd (g/k) m c::T):=by
 simp[dP,iy,gz,i0,d5,hE,mB,m2,b2,iF,mV,mC,dQ,kS,zy,dY,hnd,hg,hk,a,d6,gN,kf,nH,gS,b3,iU,lp,jw,e9,Hg,vo]
theorem Di{T:Sto}{g m c k:Int}(hg:¬ 0<g)(hk:0<k)(a:k<1073741824)(hc:0<=c)(f:c<2^60):
  dP [.ref 0,.int k] (hnd g m c::T)=some (.int ((y1 m (c+1)/97+y1 m (c+1)/1000033)%k),hnd g m (c+1)::T):=by
 have e:eJ 65537 (c+1)=true:=n6 (by decide) (by decide);have h:eJ (65537*(c+1)) (c+1)=true:=va (by omega) (by omega);have i:eJ (m+65537*(c+1)*(c+1)+11) 48271=true:=va (by decide) (by decide);have d:eJ 99991 (c+1)=true:=n6 (by decide) (by decide);have q:=Int.emod_lt_of_pos ((m+65537*(c+1)*(c+1)+11)*48271) (show(0:Int)<2305843009213693921 by decide);have j:=Int.emod_nonneg ((m+65537*(c+1)*(c+1)+11)*48271) (show(2305843009213693921:Int)≠0 by decide);have b:eJ ((m+65537*(c+1)*(c+1)+11)*48271%2305843009213693921) ((m+65537*(c+1)*(c+1)+11)*48271%2305843009213693921%1000003+99991*(c+1))=true:=n6 (by omega) (by omega);simp[dP,iy,gz,i0,d5,hE,mB,m2,b2,iF,mV,mC,dQ,kS,zy,dY,hnd,hg,hk,a,d6,gN,kf,nH,gS,b3,iU,lp,jw,e9,Hg,IL,IK,vo,rG,fM,jk,e,h,i,d,b,Eo,y1]
noncomputable def gm(o:Ob)(n:Nat):Prop:=∃g m c:Int,o=hnd g m c/\0<=c/\c<=n
theorem gm.und{o:Ob}{n k:Nat}(h:gm o n):o.und k=true:=by
 obtain⟨g,m,c,rfl,_⟩:=h;rfl
theorem gm.more{o:Ob}{n k:Nat}(h:gm o n)(hk:n<=k):gm o k:=by
 obtain⟨g,m,c,e,a,h1⟩:=h;exact⟨g,m,c,e,a,by lia⟩
theorem fi{o:Ob}{n:Nat}{k:Int}{T:Sto}{Q:D×Sto->Prop}(ho:gm o n)(hn:n<=2^50)(hk:0<k)(a:k<1073741824)(h:∀(d:Nat) o',gm o' (n+1)->(d:Int)<k->Q (.int d,o'::T)):W (dS 2 dP [.ref 0,.int k] (o::T)) Q:=by
 obtain⟨g,m,c,rfl,i,h1⟩:=ho;have call:∀d o',dP [.ref 0,.int k] (hnd g m c::T)=some (d,o'::T)->dS 2 dP [.ref 0,.int k] (hnd g m c::T)=some (d,o'::T):=fun d o e=>kX e rfl (by simp[D.unds,D.und]) (by simp);by_cases f:0<g
 ·have b:=Int.emod_nonneg g (show k≠0 by lia);obtain⟨d,e⟩:=Int.eq_ofNat_of_zero_le b;refine⟨_,call _ _ (Dj f hk a),?_⟩;rw[e];exact h d _ ⟨_,_,_,rfl,i,by lia⟩ (by rw[<- e];exact Int.emod_lt_of_pos _ hk)
 ·have b:=Int.emod_nonneg (y1 m (c+1)/97+y1 m (c+1)/1000033) (show k≠0 by lia);obtain⟨d,e⟩:=Int.eq_ofNat_of_zero_le b;refine⟨_,call _ _ (Di f hk a i (by lia)),?_⟩;rw[e];exact h d _ ⟨_,_,_,rfl,by lia,by push_cast;lia⟩ (by rw[<- e];exact Int.emod_lt_of_pos _ hk)
theorem zv(ns:List Int)(k:Int)(h0:0<=k)(hk:k<63):∃g m,fr [.rol (ns.map D.int),.int k] []=some (.ref 0,[hnd g m 0]):=by
 have h:eJ (10^60) (10^30)=true:=by decide+kernel
 have d:eJ 7919 k=true:=n6 (by decide) (by decide);have e:eJ 0 0=true:=n6 (by decide) (by decide);have c:∀(x:Int) (b:Prop) [Decidable b],eJ x (if b then 1 else 0)=true:=fun x b _=>by
  split
  ·exact va (by decide) (by decide)
  ·exact va (by decide) (by decide)
 have lt:xp (.int k) (.int ns.length) []=some (.bl (decide (k<ns.length)),[]):=by rfl
 by_cases f:k<ns.length
 ·have a:sM (ns.map D.int) k=some (.int (ns[k.toNat]'(by lia))):=by
   unfold sM vo;rw[if_pos h0,if_pos (by simpa using f)];simp[show k.toNat<ns.length by lia]
  generalize i:ns[k.toNat]'(by lia)=x at a
  simp[fr,iy,gz,i3,d5,hE,mB,m2,b2,b1,mN,dM,dN,iF,mV,mC,dQ,kS,zy,eS,dY,d6,gN,kf,jk,fM,t0,nG,e9,jv,lt,f,a,d,c,dF,hnd,rG];simp[show eJ 1000000000000000000000000000000000000000000000000000000000000 1000000000000000000000000000000=true from h,d,c]
 ·simp[fr,iy,gz,i3,d5,hE,mB,m2,b2,b1,mN,dM,dN,iF,mV,mC,dQ,kS,zy,eS,dY,d6,gN,kf,jk,fM,t0,nG,e9,jv,lt,f,d,c,dF,hnd,rG];simp[show eJ 1000000000000000000000000000000000000000000000000000000000000 1000000000000000000000000000000=true from h,e,d,c]
theorem BZ(ns:List Int)(k:Int)(h0:0<=k)(hk:k<63):∃o,dS 2 fr [.rol (ns.map D.int),.int k] []=some (.ref 0,[o])/\gm o 0:=by
 have key:=zv ns k h0 hk;obtain⟨g,m,e⟩:=key;refine⟨hnd g m 0,?_,_,_,_,rfl,Int.le_refl _,Int.le_refl _⟩;rw[sB (n:=2) e rfl (by rw[D.unds,D.und,kC];rfl) (by simp[D.und])];simp[D.sh,Ob.sh,D.shs,hnd]
noncomputable def ins(k:Nat)(e:Nat×Nat)(row:List (Nat×Nat)):List (Nat×Nat):=row.take k++e::row.drop k
theorem kd{k:Nat}{e:Nat×Nat}{row:List (Nat×Nat)}:(ins k e row).length=row.length+1:=by
 unfold ins;rw[lA1,lC1,aR,aV];lia
theorem mem_ins{k:Nat}{e x:Nat×Nat}{row:List (Nat×Nat)}:x∈ins k e row↔x=e\/x∈row:=by
 unfold ins;rw[aG,aF]
 conv=>rhs;rhs;rw[<- cG k row,aG]
 constructor
 ·rintro(h|h|h)
  ·exact .inr (.inl h)
  ·exact .inl h
  ·exact .inr (.inr h)
 ·rintro(h|h|h)
  ·exact .inr (.inl h)
  ·exact .inl h
  ·exact .inr (.inr h)
theorem vp{k:Nat}{e:Nat×Nat}{row:List (Nat×Nat)}:(row.map pD).take k++pD e::(row.map pD).drop k=(ins k e row).map pD:=by
 unfold ins;rw[cC,mP1,List.map_take,List.map_drop]
theorem i5{t m i:Nat}{T:Sto}{E:List (List (Nat×Nat))}{P:List (Nat×Nat)}{U:Sto}{o:Ob}{Q:D×Sto->Prop}(w:WS t m T E P U)(hi:i<m)(q:Q (.ref (t+i+1),o::U)):W (dQ (.ref (t+m+1)) (.int i) (o::U)) Q:=
 sG (xs:=jt (t+1) m) (x:=.ref (t+i+1)) (by rw[gC1];exact w.ends) (by rw[pC hi];congr 2;lia) q
theorem xT{t m a b n:Nat}{T:Sto}{E:List (List (Nat×Nat))}{P:List (Nat×Nat)}{U:Sto}{o:Ob}{Q:D×Sto->Prop}(w:WS t m T E P U)(ho:gm o n)(hn:n<=2^45)(ha:a<m)(hb:b<m){c:List (Nat×Nat)}(s:E[a]? = some c)(J:c.length<100)(H:∀ rb,E[b]? = some rb->rb.length<100)(K:P.length<500)(h:∀g i rb o' A,gm o' (n+2)->(E.set a (ins g (P.length,0) c))[b]?=some rb->WS t m T ((E.set a (ins g (P.length,0) c)).set b (ins i (P.length,1) rb)) (P++[(a,b)]) A->Q (.non,o'::A)):
  W (dS 5 fD [.ref 0,.ref (t+m+1),.ref (t+m+2),.int a,.int b] (o::U)) Q:=by
 have key:W (fD [.ref 0,.ref (t+m+1),.ref (t+m+2),.int a,.int b] (o::U)) fun p=>p.2.length=(o::U).length/\Q p:=by
  unfold fD;refine mW ?_;unfold nk;refine eA (fun r S=>∃g o',gm o' (n+1)/\r=[some (.ref 0),some (.ref (t+m+1)),some (.ref (t+m+2)),some (.int a),some (.int b)]/\S=o'::U.set (t+a) (qT (ins g (P.length,0) c))) ?_ ?_
  ·walk_at"w";refine js ?_;walk_at"w";refine i5 w ha ?_;refine⟨t+a+1,c.map pD,rfl,by rw[gC1];exact w.row a c s,?_⟩;walk_at"w";refine i5 w ha ?_;walk_at"w";refine et (xs:=c.map pD) (by rw[gC1];exact w.row a c s) ?_;walk_at"w";rw[lM1,show((c.length:Int)+1)=((c.length+1:Nat):Int) by push_cast;rfl];refine fi ho (by lia) (by lia) (by lia) fun g z l I=>?_;walk_at"w";refine et (xs:=P.map pD) (by rw[gC1];exact w.prs) ?_;walk_at"w";rw[lM1];refine CU (xs:=c.map pD) (v:=pD (P.length,0)) (k:=g) (by rw[gC1];exact w.row a c s) (by rw[lM1];lia) (by rw[lM1];lia) ?_;refine⟨g,z,l,?_⟩;rw[vp,c6];rfl
  rintro r S ⟨g,z,l,rfl,rfl⟩;have j:=w.setRow (row:=ins g (P.length,0) c) ha;obtain⟨rb,f⟩:∃rb,(E.set a (ins g (P.length,0) c))[b]?=some rb:=by
   have:b<(E.set a (ins g (P.length,0) c)).length:=by rw[j.el];exact hb
   exact⟨_,gG1 this⟩
  have C:rb.length<200:=by
   by_cases e:a=b
   ·subst e;rw[aI (by rw[w.el];exact ha)]at f;cases f;rw[kd];lia
   ·rw[gS1 e]at f;have:=H rb f;lia
  refine eA (fun r S=>∃i o',gm o' (n+2)/\r=[some (.ref 0),some (.ref (t+m+1)),some (.ref (t+m+2)),some (.int a),some (.int b)]/\S=o'::(U.set (t+a) (qT (ins g (P.length,0) c))).set (t+b) (qT (ins i (P.length,1) rb))) ?_ ?_
  ·walk_at"w";refine js ?_;walk_at"w";refine i5 j hb ?_;refine⟨t+b+1,rb.map pD,rfl,by rw[gC1];exact j.row b rb f,?_⟩;walk_at"w";refine i5 j hb ?_;walk_at"w";refine et (xs:=rb.map pD) (by rw[gC1];exact j.row b rb f) ?_;walk_at"w";rw[lM1,show((rb.length:Int)+1)=((rb.length+1:Nat):Int) by push_cast;rfl];refine fi l (by lia) (by lia) (by lia) fun i y u B=>?_;walk_at"w";refine et (xs:=P.map pD) (by rw[gC1];exact j.prs) ?_;walk_at"w";rw[lM1];refine CU (xs:=rb.map pD) (v:=pD (P.length,1)) (k:=i) (by rw[gC1];exact j.row b rb f) (by rw[lM1];lia) (by rw[lM1];lia) ?_;refine⟨i,y,u,?_⟩;rw[vp,c6];rfl
  rintro r S ⟨i,y,u,rfl,rfl⟩;have x:=j.setRow (row:=ins i (P.length,1) rb) hb;walk_at"w";refine js ?_;walk_at"w";refine⟨t+m+2,P.map pD,rfl,by rw[gC1];exact x.prs,?_⟩
  try walk_at"w"
  rw[oW (xs:=P.map pD) (by rw[gC1];exact x.prs)];refine⟨d4 (by rw[lM1];lia),?_,?_⟩
  ·simp
  ·have F:=x.setPrs (P':=P++[(a,b)]);rw[c6];have e:P.map pD++[D.tup [D.int ↑a,D.int ↑b]]=(P++[(a,b)]).map pD:=by simp[pD]
   rw[e];exact h g i rb y _ u f F
 obtain⟨⟨d,L⟩,e,G,q⟩:=key;exact⟨_,kX e rfl rfl G,q⟩
abbrev ed:=List (List (Nat×Nat))
structure WI (m:Nat)(E:ed)(P:List (Nat×Nat)):Prop where
 len:E.length=m
 pr:∀(i:Nat) (p:Nat×Nat),P[i]?=some p->(∃r0,E[p.1]?=some r0/\(i,0)∈r0) /\ ∃r1,E[p.2]?=some r1/\(i,1)∈r1
 en:∀(i:Nat) (row:List (Nat×Nat)),E[i]?=some row -> ∀e∈row,e.1<P.length/\e.2<=1
 le:∀(i:Nat) (row:List (Nat×Nat)),E[i]?=some row->row.length<=4
 tt:tot E=2*P.length
theorem l8{E:ed}{i k:Nat}{e:Nat×Nat}{row:List (Nat×Nat)}(h:E[i]?=some row){j:Nat}{r:List (Nat×Nat)}(a:E[j]?=some r):∃r',(E.set i (ins k e row))[j]?=some r' /\ ∀x∈r,x∈r':=by
 by_cases z:i=j
 ·subst z;rw[h]at a;cases a;exact⟨_,aI (gE1.mp h).1,fun x b=>mem_ins.mpr (.inr b)⟩
 ·exact⟨r,by rw[gS1 z];exact a,fun x b=>b⟩
theorem jM{E:ed}{i k:Nat}{e:Nat×Nat}{row:List (Nat×Nat)}(h:E[i]?=some row){j:Nat}{b:List (Nat×Nat)}(a:(E.set i (ins k e row))[j]?=some b):(i=j/\b=ins k e row)\/(i≠j/\E[j]?=some b):=by
 by_cases z:i=j
 ·subst z;rw[aI (gE1.mp h).1]at a;cases a;exact .inl ⟨rfl,rfl⟩
 ·rw[gS1 z]at a;exact .inr ⟨z,a⟩
theorem WI.tie{m a b h q:Nat}{E:ed}{P:List (Nat×Nat)}{g o:List (Nat×Nat)}(w:WI m E P)(ha:E[a]? = some g)(J:g.length<4)(hb:(E.set a (ins h (P.length,0) g))[b]? = some o)(K:o.length<4):
  WI m ((E.set a (ins h (P.length,0) g)).set b (ins q (P.length,1) o)) (P++[(a,b)]):=by
 have a1:(E.set a (ins h (P.length,0) g))[a]?=some (ins h (P.length,0) g):=aI (gE1.mp ha).1;refine⟨by rw[aW,aW];exact w.len,fun i p v=>?_,fun j c d e f=>?_,fun j c d=>?_,?_⟩
 ·by_cases hi:i<P.length
  ·rw[gL1 hi]at v;obtain⟨⟨M,I,H⟩,L,h1,m1⟩:=w.pr i p v;obtain⟨r,l,x⟩:=l8 (k:=h) (e:=(P.length,0)) ha I;obtain⟨u,t,y⟩:=l8 (k:=q) (e:=(P.length,1)) hb l;obtain⟨F,B,C⟩:=l8 (k:=h) (e:=(P.length,0)) ha h1;obtain⟨s,n,A⟩:=l8 (k:=q) (e:=(P.length,1)) hb B;exact⟨⟨u,t,y _ (x _ H)⟩,s,n,A _ (C _ m1)⟩
  ·have z:i=P.length:=by
    have:=(gE1.mp v).1;simp at this;lia
   subst z;rw[List.getElem?_concat_length]at v;cases v;obtain⟨r,l,x⟩:=l8 (k:=q) (e:=(P.length,1)) hb a1;exact⟨⟨r,l,x _ (mem_ins.mpr (.inl rfl))⟩,_,aI (gE1.mp hb).1,mem_ins.mpr (.inl rfl)⟩
 ·rw [lA1,aY];have old:∀ (j:Nat) (c:List (Nat×Nat)),(E.set a (ins h (P.length,0) g))[j]? = some c -> ∀ e∈c,e.1<P.length+1/\e.2<=1:=fun j c d e f=>by
   rcases jM ha d with⟨_,rfl⟩|⟨_,d⟩
   ·rcases mem_ins.mp f with rfl|f
    ·exact⟨by simp,by simp⟩
    ·have:=w.en a g ha e f;exact⟨by lia,this.2⟩
   ·have:=w.en j c d e f;exact⟨by lia,this.2⟩
  rcases jM hb d with⟨_,rfl⟩|⟨_,d⟩
  ·rcases mem_ins.mp f with rfl|f
   ·exact⟨by simp,by simp⟩
   ·exact old b o hb e f
  ·exact old j c d e f
 ·rcases jM hb d with⟨_,rfl⟩|⟨_,d⟩
  ·rw[kd];lia
  ·rcases jM ha d with⟨_,rfl⟩|⟨_,d⟩
   ·rw[kd];lia
   ·exact w.le j c d
 ·have G:=pf (row':=ins h (P.length,0) g) ha;have D:=pf (row':=ins q (P.length,1) o) hb;have:=w.tt;rw[kd]at G D;rw[lA1,aY];lia
noncomputable def webD(w:ed):D:=.tup (w.map fun row=>.tup (row.map pD))
structure oV (m:Nat)(w:ed):Prop where
 len:w.length=m
 le:∀row∈w,row.length<=4
 to:∀row∈w,∀e∈row,∃r,w[e.1]?=some r/\e.2<r.length
theorem fZ(w:ed):(webD w).und 0=true:=by
 unfold webD;rw[D.und];exact eM fun a _=>by rw[D.und];exact eM fun _ _=>rfl
noncomputable def ua(E:ed)(P:List (Nat×Nat))(e:Nat×Nat):Nat×Nat:=
 let p:=P.getD e.1 (0,0)
 let room:=if e.2=0 then p.2 else p.1
 (room,((E.getD room []).findIdx? (· == (e.1,1-e.2))).getD 0)
theorem zE{m:Nat}{E:ed}{P:List (Nat×Nat)}(w:WI m E P){i:Nat}{row:List (Nat×Nat)}(hr:E[i]? = some row){e:Nat×Nat}(he:e∈row):
  ∃p a r j,P[e.1]?=some p/\e.2<=1/\a=(if e.2=0 then p.2 else p.1)/\E[a]?=some r/\r.findIdx? (· == (e.1,1-e.2))=some j/\j<r.length/\ua E P e=(a,j):=by
 obtain⟨h1,h2⟩:=w.en i row hr e he;obtain⟨p,f⟩:∃p,P[e.1]?=some p:=⟨_,gG1 h1⟩;obtain⟨⟨q,n,s⟩,o,l,m1⟩:=w.pr _ p f;have b:∀(r:List (Nat×Nat)) (x:Nat×Nat),x∈r -> ∃j,r.findIdx? (· == x)=some j/\j<r.length:=fun r x t=>by
  cases h:r.findIdx? (· == x)with
  |none=>
   rw[List.findIdx?_eq_none_iff]at h;have:=h x t;simp at this
  |some j=>exact⟨j,rfl,(b6.mp h).1⟩
 by_cases g:e.2=0
 ·obtain⟨j,d,k⟩:=b o (e.1,1) m1;refine⟨p,p.2,o,j,f,h2,by rw[if_pos g],l,by rw[g];exact d,k,?_⟩;simp[ua,bJ,f,l,g,d]
 ·have c:e.2=1:=by lia
  obtain⟨j,d,k⟩:=b q (e.1,0) s;refine⟨p,p.1,q,j,f,h2,by rw[if_neg g],n,by rw[c];exact d,k,?_⟩;simp[ua,bJ,f,n,c,d]
theorem C7{m:Nat}{E:ed}{P:List (Nat×Nat)}(w:WI m E P):oV m (E.map fun a=>a.map (ua E P)):=by
 refine⟨by rw[lM1];exact w.len,?_,?_⟩
 ·intro a c;obtain⟨r,b,rfl⟩:=cc.mp c;obtain⟨i,hi⟩:=bo b;rw[lM1];exact w.le i r hi
 ·intro a c e n;obtain⟨r,b,rfl⟩:=cc.mp c;obtain⟨i,hi⟩:=bo b;obtain⟨x,l,rfl⟩:=cc.mp n;obtain⟨p,d,k,j,_,_,_,h,o,f,g⟩:=zE w hi l;rw[g];exact⟨k.map (ua E P),by rw[gP1,h];rfl,by rw[lM1];exact f⟩
theorem nV:∀(k n:Nat),jt n (k+1)=jt n k++[.ref (n+k)]
 |0,n=>rfl
 |k+1,n=>by
  rw[jt,nV k (n+1),jt,bi,show n+1+k=n+(k+1) by lia]
theorem xG{t m:Nat}{T:Sto}(tl:T.length=t):WS t m T (aP m []) [] (T++(aP m (.lst [])++[.lst (jt (t+1) m),.lst []])):=by
 refine⟨tl,by rw[<- tl,c8],by simp,fun i a h=>?_,?_,?_⟩
 ·have hi:i<m:=by have:=(gE1.mp h).1;simpa using this
  rw[aS,if_pos hi]at h;cases h;rw[<- tl,gr,gL1 (by simpa using hi),aS,if_pos hi];rfl
 ·rw[<- tl,gr,gR1 (by simp)];simp
 ·rw[<- tl,bj,gr,gR1 (by simp)];simp
theorem xH(m:Nat):WI m (aP m []) []:=by
 refine⟨by simp,fun i p h=>by simp at h,fun i a h=>?_,fun i a h=>?_,by simp[tot]⟩
 ·rw[aS]at h;split at h
  ·cases h;intro e b;simp at b
  ·cases h
 ·rw[aS]at h;split at h
  ·cases h;simp
  ·cases h
theorem Dh{t m i n:Nat}{T U:Sto}{E:ed}{P:List (Nat×Nat)}{o:Ob}{x6:Option D}{Q:Fl×Ev×Sto->Prop}(w:WS t m T E P U)(v:WI m E P)(ho:gm o n)(hn:n<=2^44)(hP:P.length=i)(hi:i+1<m)(hm:m<=8)(he:∀j row,i+1<=j->E[j]?=some row->row=[])(h:∀R K o' Y N,WS t m T R K Y->WI m R K->gm o' (n+3)->K.length=i+1->(∀j row,i+2<=j->R[j]?=some row->row=[]) ->
   Q (.nx,[some (.ref 0),some (.int 8),some (.int m),some (.ref (t+m+1)),some (.ref (t+m+2)),some (.int ((i+1:Nat):Int)),N,none,none,none],o'::Y)):
  W (im [some (.ref 0),some (.int 8),some (.int m),some (.ref (t+m+1)),some (.ref (t+m+2)),some (.int ((i+1:Nat):Int)),x6,none,none,none] (o::U)) Q:=by
 have e:∀j,j<m -> ∃row,E[j]?=some row:=fun j g=>⟨_,gG1 (by rw[v.len];exact g)⟩
 let k:Nat->Bool:=fun j=>decide ((E.getD j []).length<4)
 unfold im;walk_at"w";rw[ll,Int.toNat_natCast];refine⟨fN (by lia),?_⟩;refine gO k (fun j:Nat=>.int j) (fun r=>∃x,r=[x,some (.ref (t+m+1))]) rfl (List.range (i+1)) _ ⟨_,rfl⟩ ?_ ?_
 ·rintro j g r ⟨x,rfl⟩;have l:j<m:=by have:=aB.mp g;lia
  obtain⟨row,c⟩:=e j l;walk_at"w";refine i5 w l ?_;walk_at"w";refine et (xs:=row.map pD) (by rw[gC1];exact w.row j row c) ?_;walk_at"w";refine⟨?_,⟨_,rfl⟩,fun _=>trivial⟩;simp only[k,bJ,c,b7,lM1];rw[bQ,decide_eq_true_eq,decide_eq_true_eq];lia
 ·rintro r' _;walk_at"w";have H:(List.range (i+1)).filter k≠[]:=by
   intro z;have q:∀j row,j<i+1->E[j]?=some row->4<=row.length:=fun j row g hr=>by
    have:=List.filter_eq_nil_iff.mp z j (aB.mpr g);simp only[k,bJ,hr,b7,decide_eq_true_eq]at this;lia
   have:=xP (E:=E) (k:=i+1) (by rw[v.len];lia) q;have:=v.tt;lia
  generalize V:(List.range (i+1)).filter k=L at H;have O:∀j∈L,j<i+1/\k j=true:=fun j g=>by
   rw[<- V,aA]at g;exact⟨aB.mp g.1,g.2⟩
  have hLl:L.length<=8:=by
   rw[<- V];have:=df k (List.range (i+1));simp at this;lia
  refine⟨d4 (by rw[lM1];lia),?_⟩;refine et (xs:=L.map fun j:Nat=>D.int j) (by rw[gC1,d7];rfl) ?_;walk_at"w";rw[lM1];have hL0:0<L.length:=cJ.mpr H;refine fi ho (by lia) (by lia) (by lia) fun d o1 M hd=>?_;have F:d<L.length:=by lia
  refine sG (i:=d) (xs:=L.map fun j:Nat=>D.int j) (x:=.int (L[d]:Nat)) (by rw[gC1,d7];rfl) (by rw[gP1,gG1 F];rfl) ?_;generalize g:L[d]=j;obtain⟨Z,C⟩:=O j (by rw[<- g];exact bS F);obtain⟨row,c⟩:=e j (by lia);have J:row.length<4:=by
   simp only[k,bJ,c,b7,decide_eq_true_eq]at C;exact C
  obtain⟨I,p⟩:=e (i+1) hi;have B:=he (i+1) I (nR1 _) p;subst B;walk_at"w";refine xT (a:=j) (b:=i+1) (w.app (G:=[Ob.lst (L.map fun j:Nat=>D.int j)])) M (by lia) (by lia) hi c (by lia) (fun I X=>by rw[p]at X;cases X;simp) (by lia) fun k1 k2 I o2 U2 S f w2=>?_;have u:j≠i+1:=by lia
  have A:I=[]:=by
   rw[gS1 u,p]at f;cases f;rfl
  walk_at"w";refine h _ _ o2 U2 _ w2 (v.tie c J f (by rw[A];simp)) (S.more (by lia)) (by simp[hP]) fun j' y l s=>?_;rw[gS1 (by lia),gS1 (by lia)]at s;exact he j' y (by lia) s
theorem En{t m n:Nat}{T U:Sto}{E:ed}{P:List (Nat×Nat)}{o:Ob}{u z C S R:Option D}{Q:Fl×Ev×Sto->Prop}(w:WS t m T E P U)(v:WI m E P)(ho:gm o n)(hn:n<=2^44)(hP:P.length<100)(Y:0<m)(hm:m<=8)(h:∀L y o' N F A,WS t m T L y N->WI m L y->gm o' (n+4)->y.length<=P.length+1 ->
   Q (.nx,[some (.ref 0),some (.int 8),some (.int m),some (.ref (t+m+1)),some (.ref (t+m+2)),u,z,C,F,A],o'::N)):
  W (il [some (.ref 0),some (.int 8),some (.int m),some (.ref (t+m+1)),some (.ref (t+m+2)),u,z,C,S,R] (o::U)) Q:=by
 have e:∀j,j<m -> ∃row,E[j]?=some row:=fun j Z=>⟨_,gG1 (by rw[v.len];exact Z)⟩;unfold il;walk_at"w";refine fi ho (by lia) (by lia) (by lia) fun a o1 B ha=>?_;walk_at"w";refine fi B (by lia) (by lia) (by lia) fun b K l q=>?_;obtain⟨M,d⟩:=e a (by lia);obtain⟨s,f⟩:=e b (by lia);walk_at"w";refine i5 w (by lia) ?_;walk_at"w";refine et (xs:=M.map pD) (by rw[gC1];exact w.row a M d) ?_;walk_at"w";rw[lM1];have g:Q (.nx,[some (.ref 0),some (.int 8),some (.int m),some (.ref (t+m+1)),some (.ref (t+m+2)),u,z,C,some (.int a),some (.int b)],K::U):=
  h E P K U _ _ w v (l.more (by lia)) (by lia)
 split
 ·rename_i x;rw [decide_eq_true_eq] at x;refine i5 w (by lia) ?_;walk_at"w";refine et (xs:=s.map pD) (by rw [gC1];exact w.row b s f) ?_;walk_at"w";rw [lM1];have X:((a:Int) == (b:Int))=decide (a=b):=by
   rw[bQ,beq_iff_eq,decide_eq_true_eq];lia
  rw[X];by_cases k:a=b
  ·subst k;rw[d]at f;cases f;walk_at"w";split
   ·rename_i i;simp at i;refine xT w l (by lia) (by lia) (by lia) d (by lia) (fun s q=>by rw [d] at q;cases q;lia) (by lia) fun O V s J G p c H=>?_;have I:s.length<4:=by
     rw[aI (by rw[v.len];lia)]at c;cases c;rw[kd];lia
    exact h _ _ J G _ _ H (v.tie d (by lia) c I) (p.more (by lia)) (by simp)
   ·exact g
  ·simp only[decide_eq_false k];walk_at"w";split
   ·rename_i i;simp at i;refine xT w l (by lia) (by lia) (by lia) d (by lia) (fun r q=>by rw [f] at q;cases q;lia) (by lia) fun O V r J G p c H=>?_;have I:r.length<4:=by
     rw[gS1 k,f]at c;cases c;lia
    exact h _ _ J G _ _ H (v.tie d (by lia) c I) (p.more (by lia)) (by simp)
   ·exact g
 ·try walk_at"w"
  exact g
theorem GX{t m i:Nat}{T U:Sto}{E:ed}{P:List (Nat×Nat)}{o:Ob}{row:List (Nat×Nat)}{e:Nat×Nat}{Q:D×Sto->Prop}(w:WS t m T E P U)(v:WI m E P)(hr:E[i]? = some row)(he:e∈row)(q:Q (pD (ua E P e),o::U)):
  W (dS 3 fS [.ref (t+m+1),.ref (t+m+2),pD e] (o::U)) Q:=by
 obtain⟨p,a,r,j,h1,h2,u,c,y,B,s⟩:=zE v hr he;have key:W (fS [.ref (t+m+1),.ref (t+m+2),pD e] (o::U)) fun p=>p.2=o::U/\Q p:=by
  unfold fS;refine mW ?_;unfold nl;have b:a<m:=by rw[<- v.len];exact(gE1.mp c).1
  have l:∀Q:D×Sto->Prop,Q (.int e.1,o::U)->W (dQ (pD e) (.int 0) (o::U)) Q:=fun Q q=>gl (i:=0) rfl q;have h:∀Q:D×Sto->Prop,Q (.int e.2,o::U)->W (dQ (pD e) (.int 1) (o::U)) Q:=fun Q q=>gl (i:=1) rfl q;have k:((1:Int)-(e.2:Int))=((1-e.2:Nat):Int):=by lia
  walk_at"w";refine l _ ?_;refine sG (i:=e.1) (xs:=P.map pD) (x:=pD p) (by rw[gC1];exact w.prs) (by rw[gP1,h1];rfl) ?_;refine h _ ?_;walk_at"w";rw[k];refine gl (i:=1-e.2) (x:=.int a) ?_ ?_
  ·rw[u];by_cases f:e.2=0
   ·rw[f,if_pos rfl];rfl
   ·rw[if_neg f,show e.2=1 by lia];rfl
  walk_at"w";refine js ?_;walk_at"w";refine i5 w b ?_;refine⟨t+a+1,r.map pD,rfl,by rw[gC1];exact w.row a r c,?_⟩;walk_at"w";refine l _ ?_;refine h _ ?_;walk_at"w";rw[k];refine Fi (e:=(e.1,1-e.2)) (row:=r) (j:=j) (by rw[gC1];exact w.row a r c) (by have:=v.le a r c;lia) y ?_;refine⟨rfl,?_⟩;rw[s]at q;exact q
 obtain⟨⟨d,A⟩,z,g,n⟩:=key;dsimp only at g;subst g;exact⟨_,kX z rfl rfl rfl,n⟩
theorem FD{o:Ob}{n:Nat}{T:Sto}{Q:D×Sto->Prop}(ho:gm o n)(hn:n<=2^40)(hT:T.all (Ob.und (T.length+1))=true)(h:∀m w o',0<m->m<=8->oV m w->gm o' (n+100)->Q (webD w,o'::T)):W (dS 2 gE [.ref 0,.int 8] (o::T)) Q:=by
 refine vP rfl rfl hT ?_;unfold gE;refine mW ?_;unfold nj;generalize N:T.length=t;refine eA (fun r S=>∃(m:Nat) (s:Ob),0<m/\m<=8/\gm s (n+1)/\r=[some (.ref 0),some (.int 8),some (.int m),none,none,none,none,none,none,none]/\S=s::T) ?_ ?_
 ·walk_at"w";refine fi ho (by lia) (by lia) (by lia) fun c s u hc=>?_;walk_at"w";exact⟨c+1,s,by lia,by lia,u,by simp[Int.add_comm],rfl⟩
 rintro r S ⟨m,s,J,O,u,rfl,rfl⟩;refine eA (fun r S=>∃U,WS t m T (aP m []) [] U/\r=[some (.ref 0),some (.int 8),some (.int m),some (.ref (t+m+1)),some (.ref (t+m+2)),none,none,none,none,none]/\S=s::U) ?_ ?_
 ·walk_at"w";refine⟨fN (by lia),?_⟩;rw[Int.toNat_natCast];refine jg (fun i p r S=>p=jt (t+1) i/\S=s::(T++aP i (.lst [])) /\ ∃x,r=[x]) (gB 0 m) 0 [] _ _ ⟨rfl,by simp,_,rfl⟩ (fun _ _ _ _ _=>rfl) ?_ ?_
  ·rintro i d q p r S ⟨rfl,rfl,x,rfl⟩;walk_at"w";rw[bN];refine⟨?_,?_,_,rfl⟩
   ·rw[nV,N,lR1]
    congr 3
    lia
   ·rw[List.replicate_succ']
  ·rintro xs r S ⟨e,rfl,_⟩;rw[cX,bN,fI]at e;subst e;rw[bN,fI];walk_at"w";rw[jS];refine⟨d4 (by lia),_,xG N,?_,rfl⟩;simp[N]
 rintro r S ⟨U0,w0,rfl,rfl⟩;refine eA (fun r S=>∃E P b U g k,WS t m T E P U/\WI m E P/\P.length<=8/\gm b (n+40)/\r=[some (.ref 0),some (.int 8),some (.int m),some (.ref (t+m+1)),some (.ref (t+m+2)),g,k,none,none,none]/\S=b::U) ?_ ?_
 ·walk_at"w";refine⟨Fc (by decide) (by decide),fN (by lia),?_⟩;refine fL (fun i r S=>i<=m-1 /\ ∃E P b U g k,WS t m T E P U/\WI m E P/\P.length=i/\(∀j row,i+1<=j->E[j]?=some row->row=[])/\gm b (n+1+3*i)/\r=[some (.ref 0),some (.int 8),some (.int m),some (.ref (t+m+1)),some (.ref (t+m+2)),g,k,none,none,none]/\S=b::U) _ 0 _ _ ?_ (fun _ _ _ _=>rfl) ?_ ?_
  ·refine⟨by lia,_,_,s,U0,none,none,w0,xH m,rfl,fun j row _ L=>?_,u,rfl,rfl⟩;rw[aS]at L;split at L
   ·cases L;rfl
   ·cases L
  ·rintro i d q r S ⟨hi,E,P,b,U,g,k,w,v,H,K,a,rfl,rfl⟩;have l:=(gE1.mp q).1;rw [fI] at l;have V:d = .int ((i+1:Nat):Int):=by
    rw[pN,gP1,cI l]at q;simp at q;rw[<- q]
    push_cast
    congr 1
    lia
   subst V;rw[bN]at *
   walk_at"w";refine Dh w v a (by lia) H (by lia) O K fun R M o' U' x6' z X A I Y=>?_;exact⟨rfl,by lia,R,M,o',U',_,_,z,X,I,Y,A.more (by lia),rfl,rfl⟩
  ·rintro r S ⟨hi,E,P,b,U,g,k,w,v,H,K,a,rfl,rfl⟩;exact⟨rfl,E,P,b,U,g,k,w,v,by lia,a.more (by lia),rfl,rfl⟩
 rintro r S ⟨E,P,b,U,g,k,w,v,H,a,rfl,rfl⟩;refine eA (fun r S=>∃E P b U g k F C B,WS t m T E P U/\WI m E P/\gm b (n+100)/\r=[some (.ref 0),some (.int 8),some (.int m),some (.ref (t+m+1)),some (.ref (t+m+2)),g,k,F,C,B]/\S=b::U) ?_ ?_
 ·walk_at"w";refine fi a (by lia) (by lia) (by lia) fun c o3 Z hc=>?_;walk_at"w";refine⟨fN (by lia),?_⟩;rw[Int.toNat_natCast];refine fL (fun i r S=>i<=c /\ ∃E P b U g k F C B,WS t m T E P U/\WI m E P/\P.length<=8+i/\gm b (n+41+4*i)/\r=[some (.ref 0),some (.int 8),some (.int m),some (.ref (t+m+1)),some (.ref (t+m+2)),g,k,F,C,B]/\S=b::U) _ 0 _ _ ⟨by lia,E,P,o3,U,g,k,none,none,none,w,v,by lia,Z,rfl,rfl⟩ (fun _ _ _ _=>rfl) ?_ ?_
  ·rintro i d q r S ⟨hi,E,P,b,U,g,k,F,C,B,w,v,H,a,rfl,rfl⟩;have l:=(gE1.mp q).1;rw[fI]at l;rw[bN]at *
   walk_at"w";refine En w v a (by lia) (by lia) J O fun R M o' U' x8' x9' z X A I=>?_;exact⟨rfl,by lia,R,M,o',U',_,_,_,_,_,z,X,by lia,A.more (by lia),rfl,rfl⟩
  ·rintro r S ⟨hi,E,P,b,U,g,k,F,C,B,w,v,H,a,rfl,rfl⟩;rw[fI,bN]at a;exact⟨rfl,E,P,b,U,_,_,_,_,_,w,v,a.more (by lia),rfl,rfl⟩
 rintro r S ⟨E,P,b,U,g,k,F,C,B,w,v,a,rfl,rfl⟩;walk_at"w";refine et (S:=b::U) (xs:=jt (t+1) m) (by rw[gC1];exact w.ends) ?_;have y:∀j,j<m -> ∃row,E[j]?=some row:=fun j hj=>⟨_,gG1 (by rw[v.len];exact hj)⟩;refine jg (fun i p r S=>∃G x,S=b::(U++G)/\r=[x,some (.ref (t+m+1)),some (.ref (t+m+2))]/\p=((E.take i).map fun row=>.tup ((row.map (ua E P)).map pD))) (jt (t+1) m) 0 [] _ _ ⟨[],none,by simp,rfl,rfl⟩ ?_ ?_ ?_
 ·rintro i p r S ⟨G,x,rfl,_⟩;exact gp (by rw[gC1];exact(w.app (G:=G)).ends)
 ·rintro i d q p r S ⟨G,x,rfl,rfl,rfl⟩;have hi:=(gE1.mp q).1;rw[jS]at hi;rw[pC hi]at q;cases q;obtain⟨row,f⟩:=y i hi;have z:=w.app (G:=G);walk_at"w";refine et (S:=b::(U++G)) (xs:=row.map pD) (by rw[show t+1+i=t+i+1 by lia,gC1];exact z.row i row f) ?_;refine nC (fun e=>pD (ua E P e)) (fun r=>∃x,r=[x,some (.ref (t+m+1)),some (.ref (t+m+2))]) (gp (by rw[show t+1+i=t+i+1 by lia,gC1];exact z.row i row f)) row _ ⟨_,rfl⟩ ?_ ?_
  ·rintro e K r ⟨x,rfl⟩;walk_at"w";refine GX z v f K ?_;exact⟨rfl,rfl,_,rfl⟩
  ·rintro r' _;walk_at"w";have hl:=v.le i row f;refine⟨d4 (by rw[lM1];lia),?_⟩;refine et (xs:=row.map fun e=>pD (ua E P e)) (by rw[<- bG,gC1,<- lA1,d7];rfl) ?_;refine⟨G++[Ob.lst (row.map fun e=>pD (ua E P e))],_,rfl,rfl,?_⟩;rw[bN,cD,f];simp[Function.comp_def]
 ·rintro xs r S ⟨G,x,rfl,rfl,e⟩;rw [cX,bN,jS,<- v.len,bY] at e;subst e;walk_at"w";have hlE:=v.len;refine ⟨d4 (by rw [lM1];lia),?_⟩;refine et (xs:=E.map fun row=>.tup ((row.map (ua E P)).map pD)) (by rw [<- bG,gC1,<- lA1,d7];rfl) ?_;have e:D.tup (E.map fun row=>.tup ((row.map (ua E P)).map pD))=webD (E.map fun row=>row.map (ua E P)):=by
   simp[webD,Function.comp_def]
  refine⟨webD (E.map fun row=>row.map (ua E P)),b,U.drop t++(G++[Ob.lst (E.map fun row=>.tup ((row.map (ua E P)).map pD))]),?_,fZ _,a.und,?_⟩
  ·rw[e,<- bG T,<- w.split]
  ·exact h m _ b J O (C7 v) a
theorem DO{items:List D}{k:Int}{n:Nat}{o:Ob}{T:Sto}{j:Option D}{Q:List D×Ev×Sto->Prop}(ho:gm o n)(hn:n+items.length<=2^50)(hk:0<k)(f:k<1073741824)(h:∀xs o' m,gm o' (n+items.length)->xs.Sublist items->Q (xs,[m,some (.ref 0)],o'::T)):
  W (fB [] (gN 0) (mB (m2 (b2 rZ) (mN (dS 2 dP) (dM (mV 1) (dM (mC (D.int k)) dN))) (mC (D.int (0))))) (ev (mV 0)) items [j,some (.ref 0)] (o::T)) Q:=by
 refine jg (fun i c r S=>∃o x,S=o::T/\r=[x,some (.ref 0)]/\gm o (n+i)/\i<=items.length/\c.Sublist (items.take i)) items 0 [] _ _ ⟨o,j,rfl,rfl,by simpa using ho,by lia,by simp⟩ (fun _ _ _ _ _=>rfl) ?_ ?_
 ·rintro i d g c r S ⟨o,x,rfl,rfl,ho,hi,a⟩;have p:i<items.length:=(gE1.mp g).1;have l:items.take (i+1)=items.take i++[d]:=by rw[cD,g];rfl
  walk_at"w";refine fi ho (by lia) hk f fun e o' b q=>?_;walk_at"w";split
  ·exact⟨o',some d,rfl,rfl,b.more (by lia),by lia,by rw[bN,l];simp at a;exact a.append (List.Sublist.refl _)⟩
  ·exact⟨o',some d,rfl,rfl,b.more (by lia),by lia,by rw[bN,l];simp at a;exact a.trans (List.sublist_append_left _ _)⟩
 ·rintro xs r S ⟨o,x,rfl,rfl,ho,_,a⟩;refine h _ _ _ (by simpa using ho) (by simpa using a)
theorem E1{o:Ob}{n:Nat}{T:Sto}{Q:D×Sto->Prop}(ho:gm o n)(hn:n<=2^45)(g:T.all (Ob.und (T.length+1))=true)(h:∀a b c d o',gm o' (n+4)->Q (.tup (fg a b c d),o'::T)):W (dS 1 eW [.ref 0] (o::T)) Q:=by
 refine vP rfl rfl g ?_;unfold eW;refine mW ?_;unfold hL;walk_at"w";rw[ij];refine DO ho (by simp;lia) (by decide) (by decide) fun xs f k e i=>?_;obtain⟨a,b,c,d,rfl⟩:=zF i;walk_at"w";have j:=zG a b c d;refine⟨d4 (by lia),?_⟩;refine et (xs:=fg a b c d) (by rw[gC1,d7];rfl) ?_;exact⟨_,f,_,rfl,by rw[D.und];exact kh a b c d,e.und,h a b c d f e⟩
theorem vX{w:ed}{i:Nat}{row:List (Nat×Nat)}{S:Sto}{Q:D×Sto->Prop}(h:w[i]?=some row)(q:Q (.tup (row.map pD),S)):W (dQ (webD w) (.int i) S) Q:=
 gl (x:=.tup (row.map pD)) (by rw[gP1,h];rfl) q
theorem vg{w:ed}{S:Sto}:eS (webD w) S=some (.int w.length,S):=by simp[webD,eS,dY]
noncomputable def crowd(ws:List Wk)(rm:Nat):Nat:=(ws.filter fun u=>u.1 == rm).length
noncomputable def uH(a b c d:Bool)(ws:List Wk)(cs:List Nat)(u:Wk)(row:List (Nat×Nat)):D:=
 tw a b c d u.2.1 (if cs.contains u.1 then 1 else 0) row.length (if 1<crowd ws u.1 then 1 else 0)
theorem oB{ws:List Wk}{a:Nat}{S:Sto}{c:Option D}{Q:List D×Ev×Sto->Prop}(h:∀ b,Q ((ws.filter fun u=>u.1 == a).map fq,b,S)):
  W (fB [] (gN 0) (mB (m2 (b2 rZ) (m2 (b2 dQ) (mV 0) (mC (D.int (0)))) (mV 1))) (ev (mV 0)) (ee ws) [c,some (.int a)] S) Q:=by
 refine gO (fun u:Wk=>u.1 == a) fq (fun r=>∃x,r=[x,some (.int a)]) rfl ws _ ⟨_,rfl⟩ ?_ fun b _=>h b;rintro u d r ⟨x,rfl⟩;walk_at"w";refine gl (i:=0) rfl ?_;walk_at"w";refine⟨?_,⟨_,rfl⟩,fun _=>trivial⟩;rw[bQ,beq_iff_eq,beq_iff_eq];lia
theorem CT {w x y z:D}{S:Sto}{r:Ev}{m1 m2 b a:FE}{Q:D×Sto->Prop}(h1:m1 r S=some (w,S))(h2:m2 r S=some (x,S))(d:b r S=some (y,S))(c:a r S=some (z,S))
  (q:Q (.ref S.length,S++[.dct [(.inr "came",w),(.inr "chalk",x),(.inr "doors",y),(.inr "others",z)]])):
  W (rH [(mC (.str "came"),m1),(mC (.str "chalk"),m2),(mC (.str "doors"),b),(mC (.str "others"),a)] r S) Q:=by
 refine W.of ?_ q;simp only[rH,Bx,mC,h1,h2,d,c,oS1,oP1,vj,rO];rfl
theorem BN {w x y z:D}{S:Sto}{n:Nat}(h:S[n]? = some (.dct [(.inr "came",w),(.inr "chalk",x),(.inr "doors",y),(.inr "others",z)])):
  dQ (.ref n) (.str "came") S=some (w,S)/\dQ (.ref n) (.str "chalk") S=some (x,S)/\dQ (.ref n) (.str "doors") S=some (y,S)/\dQ (.ref n) (.str "others") S=some (z,S):=by
 refine⟨?_,?_,?_,?_⟩<;>(simp only[dQ,h,kS,rO,oS1];rfl)
noncomputable def p8:Nat->D
 |0=>.str "came" |1=>.str "chalk" |2=>.str "doors" |_=>.str "others"
noncomputable def CJ:Nat->D
 |0=>.int 5|1=>.int 2|2=>.int 5|_=>.int 2
noncomputable def gA(a b c d:Bool)(w x y z:Int):Nat->D
 |0=>if a then .int w else .non
 |1=>if b then .int x else .non
 |2=>if c then .int y else .non
 |_=>if d then .int z else .non
theorem uV {a b c d:Bool}{w x y z:Int}{S:Sto}{n:Nat}(h:S[n]? = some (.dct [(.inr "came",.int w),(.inr "chalk",.int x),(.inr "doors",.int y),(.inr "others",.int z)])){i:Nat}(hi:i∈[0,1,2,3]){r:Ev}{f g j:Nat}
  (h1:r[f]?=some (some (p8 i))) (h2:r[g]?=some (some (.tup (fg a b c d)))) (e:r[j]?=some (some (.ref n))):
  vc (mB (m2 (b2 iV) (mV f) (mV g))) (m2 (b2 dQ) (mV j) (mV f)) (mC D.non) r S=some (gA a b c d w x y z i,S):=by
 obtain⟨o,k,m,l⟩:=BN h;simp only[aF,bL,or_false]at hi;rcases hi with rfl|rfl|rfl|rfl
 ·cases a<;>simp only[vc,mB,m2,b2,mV,h1,h2,e,p8,oS1,BX,o,gA,mC]<;>rfl
 ·cases b<;>simp only[vc,mB,m2,b2,mV,h1,h2,e,p8,oS1,zp,k,gA,mC]<;>rfl
 ·cases c<;>simp only[vc,mB,m2,b2,mV,h1,h2,e,p8,oS1,zo,m,gA,mC]<;>rfl
 ·cases d<;>simp only[vc,mB,m2,b2,mV,h1,h2,e,p8,oS1,wN,l,gA,mC]<;>rfl
theorem AH{w:ed}{ws:List Wk}{cs:List Nat}{a b c d:Bool}{k:Nat}{u:Wk}{row:List (Nat×Nat)}{S:Sto}{Q:D×Sto->Prop}(l:ws[k]? = some u)(hr:w[u.1]? = some row)(o:ws.length<=1000)(q:Q (uH a b c d ws cs u row,S)):W (dS 4 gC [webD w,.tup (fg a b c d),dU ws cs,.int k] S) Q:=by
 refine kq rfl (by simp[D.unds,fZ,fG];rw[D.und];exact⟨kh a b c d,rfl⟩) ?_;unfold gC;refine mW ?_;unfold ng;refine eA (fun r S=>S=[]/\r=[some (webD w),some (.tup (fg a b c d)),some (dU ws cs),some (.int k),some (.tup (ee ws)),some (.tup (eI cs)),none,none,none,none,none]) ?_ ?_
 ·rw[dU];walk_at"w"
 rintro r S ⟨rfl,rfl⟩;refine eA (fun r S=>S=[]/\r=[some (webD w),some (.tup (fg a b c d)),some (dU ws cs),some (.int k),some (.tup (ee ws)),some (.tup (eI cs)),some (.int u.1),some (.int u.2.1),some (.int u.2.2),none,none]) ?_ ?_
 ·walk_at"w";refine gl (i:=k) (x:=fq u) (by rw[ee,gP1,l];rfl) ?_;rw[fq];walk_at"w"
 rintro r S ⟨rfl,rfl⟩;refine eA (fun r S=>S=[.lst ((ws.filter fun v=>v.1 == u.1).map fq)]/\r=[some (webD w),some (.tup (fg a b c d)),some (dU ws cs),some (.int k),some (.tup (ee ws)),some (.tup (eI cs)),some (.int u.1),some (.int u.2.1),some (.int u.2.2),some (.ref 0),none]) ?_ ?_
 ·walk_at"w";rw[ij];refine oB fun m=>?_;walk_at"w";have:=df (fun v:Wk=>v.1 == u.1) ws;have h2:((ws.filter fun v:Wk=>v.1 == u.1).map fq).length<=100000:=by rw[lM1];lia
  exact⟨d4 h2,trivial⟩
 rintro r S ⟨rfl,rfl⟩;generalize g:[Ob.lst ((ws.filter fun v=>v.1 == u.1).map fq)]=S1;have f:S1[0]?=some (Ob.lst ((ws.filter fun v=>v.1 == u.1).map fq)):=by rw[<- g];rfl
 refine eA (fun r S=>S=S1++[.dct [(.inr "came",.int u.2.1),(.inr "chalk",.int (if cs.contains u.1 then 1 else 0)),(.inr "doors",.int row.length),(.inr "others",.int (if 1<crowd ws u.1 then 1 else 0))]]/\r=[some (webD w),some (.tup (fg a b c d)),some (dU ws cs),some (.int k),some (.tup (ee ws)),some (.tup (eI cs)),some (.int u.1),some (.int u.2.1),some (.int u.2.2),some (.ref 0),some (.ref S1.length)]) ?_ ?_
 ·unfold d6;rw[dZ];have hc:(List.map fq (ws.filter fun v=>v.1 == u.1)).length=crowd ws u.1:=by rw[lM1];rfl
  refine CT (w:=.int u.2.1) (x:=.int (if cs.contains u.1 then 1 else 0)) (y:=.int row.length) (z:=.int (if 1<crowd ws u.1 then 1 else 0)) rfl ?_ ?_ ?_ ?_
  ·simp only[vc,mB,m2,b2,mV,gC1,de,oS1,zn,mC];split<;>rfl
  ·have:W (dQ (webD w) (.int u.1) S1) fun p=>p=(.tup (row.map pD),S1):=vX hr rfl;obtain⟨p,e,rfl⟩:=this;simp only[mN,dM,dN,m2,b1,b2,mV,gC1,de,oS1,e,fV,lM1]
  ·simp only[vc,mB,mN,dM,dN,m2,b1,b2,mV,mC,gC1,de,oS1,eS,gH f,oP1,iF,hc];by_cases h1:1<crowd ws u.1
   ·rw[if_pos h1,if_pos (by rw[decide_eq_true_eq];lia)]
   ·rw[if_neg h1,if_neg (by rw[decide_eq_true_eq];lia)]
  ·walk_at"w"
 rintro r S ⟨rfl,rfl⟩;generalize n:S1++[Ob.dct [(.inr "came",.int u.2.1),(.inr "chalk",.int (if cs.contains u.1 then 1 else 0)),(.inr "doors",.int row.length),(.inr "others",.int (if 1<crowd ws u.1 then 1 else 0))]]=S2;have h:S2[S1.length]?=some (Ob.dct [(.inr "came",.int u.2.1),(.inr "chalk",.int (if cs.contains u.1 then 1 else 0)),(.inr "doors",.int row.length),(.inr "others",.int (if 1<crowd ws u.1 then 1 else 0))]):=by rw[<- n,d7];rfl
 walk_at"w";have j:lS = .tup ([0,1,2,3].map fun i:Nat=>D.tup [p8 i,CJ i]):=rfl;rw[j,ij];refine nC (gA a b c d u.2.1 (if cs.contains u.1 then 1 else 0) row.length (if 1<crowd ws u.1 then 1 else 0)) (fun r=>∃x y,r=[x,y,some (.tup (fg a b c d)),some (.ref S1.length)]) rfl _ _ ⟨_,_,rfl⟩ ?_ ?_
 ·rintro i hi r ⟨x,y,rfl⟩;refine⟨([some (p8 i),some (CJ i),some (.tup (fg a b c d)),some (.ref S1.length)],S2),rfl,?_⟩;refine⟨(true,S2),rfl,rfl,?_⟩;exact⟨_,uV h hi rfl rfl rfl,rfl,rfl,_,_,rfl⟩
 ·rintro m _;walk_at"w";refine et (xs:=[gA a b c d u.2.1 (if cs.contains u.1 then 1 else 0) row.length (if 1<crowd ws u.1 then 1 else 0) 0,gA a b c d u.2.1 (if cs.contains u.1 then 1 else 0) row.length (if 1<crowd ws u.1 then 1 else 0) 1,gA a b c d u.2.1 (if cs.contains u.1 then 1 else 0) row.length (if 1<crowd ws u.1 then 1 else 0) 2,gA a b c d u.2.1 (if cs.contains u.1 then 1 else 0) row.length (if 1<crowd ws u.1 then 1 else 0) 3]) (by rw[d7];rfl) ?_;exact⟨nR,q⟩
theorem rJ{w:ed}{ws:List Wk}{cs:List Nat}{a b c d:Bool}{k:Nat}{u:Wk}{row:List (Nat×Nat)}{S:Sto}{Q:D×Sto->Prop}(n:ws[k]? = some u)(hr:w[u.1]? = some row)(t:ws.length<=1000)(q:Q (uH a b c d ws cs u row,S)):W (dS 4 eO [webD w,.tup (fg a b c d),dU ws cs,.int k] S) Q:=by
 refine kq rfl (by simp[D.unds,fZ,fG];rw[D.und];exact⟨kh a b c d,rfl⟩) ?_;unfold eO;refine mW ?_;unfold ku;have g:∀(S:Sto) (Q:D×Sto->Prop),Q (.tup (ee ws),S)->W (dQ (dU ws cs) (.int 0) S) Q:=fun S Q q=>gl (i:=0) rfl q;have m:∀(S:Sto),dQ (dU ws cs) (.int 1) S=some (.tup (eI cs),S):=fun S=>by
  obtain⟨p,e,h⟩:W (dQ (dU ws cs) (.int 1) S) fun p=>p=(.tup (eI cs),S):=gl (i:=1) rfl rfl;rw[e,h]
 refine eA (fun r S=>S=[]/\r=[some (webD w),some (.tup (fg a b c d)),some (dU ws cs),some (.int k),some (.int u.1),some (.int u.2.1),some (.int u.2.2),none,none]) ?_ ?_
 ·walk_at"w";refine g _ _ ?_;refine gl (i:=k) (x:=fq u) (by rw[ee,gP1,n];rfl) ?_;rw[fq];walk_at"w"
 rintro r S ⟨rfl,rfl⟩;refine eA (fun r S=>r=[some (webD w),some (.tup (fg a b c d)),some (dU ws cs),some (.int k),some (.int u.1),some (.int u.2.1),some (.int u.2.2),some (.int (crowd ws u.1)),none]) ?_ ?_
 ·walk_at"w";refine g _ _ ?_;rw[ij];refine oB fun o=>?_;walk_at"w";have:=df (fun v:Wk=>v.1 == u.1) ws;have h2:((ws.filter fun v:Wk=>v.1 == u.1).map fq).length<=100000:=by rw[lM1];lia
  refine⟨d4 h2,?_⟩;refine et (xs:=(ws.filter fun v:Wk=>v.1 == u.1).map fq) rfl ?_;rw[lM1];rfl
 rintro r f rfl;refine eA (fun r S=>S=f++[.dct [(.inr "came",.int u.2.1),(.inr "chalk",.int (if cs.contains u.1 then 1 else 0)),(.inr "doors",.int row.length),(.inr "others",.int (if 1<crowd ws u.1 then 1 else 0))]]/\r=[some (webD w),some (.tup (fg a b c d)),some (dU ws cs),some (.int k),some (.int u.1),some (.int u.2.1),some (.int u.2.2),some (.int (crowd ws u.1)),some (.ref f.length)]) ?_ ?_
 ·unfold d6;rw[dZ];refine CT (w:=.int u.2.1) (x:=.int (if cs.contains u.1 then 1 else 0)) (y:=.int row.length) (z:=.int (if 1<crowd ws u.1 then 1 else 0)) rfl ?_ ?_ ?_ ?_
  ·simp only[mN,dM,dN,b1,m2,b2,mV,gC1,de,oS1,m,zn,mC,nG]
  ·obtain⟨p,e,rfl⟩:W (dQ (webD w) (.int u.1) f) fun p=>p=(.tup (row.map pD),f):=vX hr rfl;simp only[mN,dM,dN,m2,b1,b2,mV,gC1,de,oS1,e,fV,lM1]
  ·simp only[mN,dM,dN,m2,b1,b2,mV,mC,gC1,de,oS1,iF,nG];by_cases h1:1<crowd ws u.1
   ·rw[if_pos h1,if_pos (by rw[decide_eq_true_eq];lia)]
   ·rw[if_neg h1,if_neg (by rw[decide_eq_true_eq];lia)]
  ·walk_at"w"
 rintro r S ⟨rfl,rfl⟩;generalize s:f++[Ob.dct [(.inr "came",.int u.2.1),(.inr "chalk",.int (if cs.contains u.1 then 1 else 0)),(.inr "doors",.int row.length),(.inr "others",.int (if 1<crowd ws u.1 then 1 else 0))]]=S2;have j:S2[f.length]?=some (Ob.dct [(.inr "came",.int u.2.1),(.inr "chalk",.int (if cs.contains u.1 then 1 else 0)),(.inr "doors",.int row.length),(.inr "others",.int (if 1<crowd ws u.1 then 1 else 0))]):=by rw[<- s,d7];rfl
 walk_at"w";have l:([D.str "came",D.str "chalk",D.str "doors",D.str "others"]:List D)=[0,1,2,3].map p8:=rfl;rw[ij,l];refine nC (gA a b c d u.2.1 (if cs.contains u.1 then 1 else 0) row.length (if 1<crowd ws u.1 then 1 else 0)) (fun r=>∃x,r=[x,some (.tup (fg a b c d)),some (.ref f.length)]) rfl _ _ ⟨_,rfl⟩ ?_ ?_
 ·rintro i hi r ⟨x,rfl⟩;refine⟨([some (p8 i),some (.tup (fg a b c d)),some (.ref f.length)],S2),rfl,?_⟩;refine⟨(true,S2),rfl,rfl,?_⟩;exact⟨_,uV j hi rfl rfl rfl,rfl,rfl,_,rfl⟩
 ·rintro o _;walk_at"w";refine et (xs:=[gA a b c d u.2.1 (if cs.contains u.1 then 1 else 0) row.length (if 1<crowd ws u.1 then 1 else 0) 0,gA a b c d u.2.1 (if cs.contains u.1 then 1 else 0) row.length (if 1<crowd ws u.1 then 1 else 0) 1,gA a b c d u.2.1 (if cs.contains u.1 then 1 else 0) row.length (if 1<crowd ws u.1 then 1 else 0) 2,gA a b c d u.2.1 (if cs.contains u.1 then 1 else 0) row.length (if 1<crowd ws u.1 then 1 else 0) 3]) (by rw[d7];rfl) ?_;exact⟨nR,q⟩
noncomputable def pt(b:Bool)(x:Nat):D:=if b=true then .int x else .non
noncomputable def I7(a b c d:Bool)(x y z w:Nat):D:=.tup [pt a x,pt b y,pt c z,pt d w]
noncomputable def mR:List D:=[.str "leave",.str "mark",.str "wipe"]
noncomputable def k4:List D:=[.non,.int 0,.int 1,.int 2,.int 3]
structure fT (x:D):Prop where
 is:∃m h t,x = .tup [.int (m:Nat),h,t]/\m<4000/\h∈mR/\t∈k4
theorem fT.und{x:D}(h:fT x):x.und 0=true:=by
 obtain⟨m,x,t,rfl,_,h1,h2⟩:=h.is;have a:x.und 0=true:=by simp[mR]at h1;rcases h1 with z|z|z<;>subst z<;>rfl
 have b:t.und 0=true:=by simp[k4]at h2;rcases h2 with z|z|z|z|z<;>subst z<;>rfl
 simp[D.und,D.unds,a,b]
noncomputable def cx(b:Bool)(x:Nat):Nat:=if b=true then x else 0
noncomputable def iZ:List Bool->List Nat->Nat
 |b::bs,x::xs=>cx b x*8^bs.length+iZ bs xs
 |_,_=>0
theorem kW:∀{bs:List Bool} {xs:List Nat},(∀x∈xs,x<=7)->iZ bs xs<8^bs.length
 |[],_,_=>by rw[iZ];simp;simp
 |b::bs,[],_=>by
  rw[iZ]
  ·exact Nat.pos_of_ne_zero (by simp)
  ·simp
 |b::bs,x::xs,h=>by
  have h1:=kW (bs:=bs) fun y a=>h y (mC1 _ a);have h2:cx b x<=7:=by unfold cx;split;exact h x mS1;lia
  rw[iZ,lC1,Nat.pow_succ];have c:cx b x*8^bs.length<=7*8^bs.length:=dg _ h2;lia
theorem G4{S:Sto}{n:Nat}{xs ys:List D}:gf S (n+1) (.tup xs) (.tup ys)=nq (gf S n) xs ys:=by
 rw[gf];simp[dY]
theorem Iv{S:Sto}{n:Nat}{xs ys:List D}:jB S (n+1) (.tup xs) (.tup ys)=nD (gf S n) (jB S n) xs ys:=by
 rw[jB];simp[HE,dY]
theorem CO{S:Sto}{n:Nat}{b:Bool}{x y:Nat}:gf S (n+1) (pt b x) (pt b y)=some (decide (cx b x=cx b y)):=by
 cases b with
 |false=>rfl
 |true=>
  show some ((x:Int) == (y:Int))=some (decide (x=y))
  congr 1
  rw[bQ,beq_iff_eq,decide_eq_true_eq];lia
theorem GF{S:Sto}{n:Nat}{b:Bool}{x y:Nat}(h:cx b x≠cx b y):jB S (n+1) (pt b x) (pt b y)=some (decide (cx b x<cx b y)):=by
 cases b with
 |false=>exact absurd rfl h
 |true=>
  show some (decide ((x:Int)<(y:Int)))=some (decide (x<y))
  congr 1
  rw[bQ,decide_eq_true_eq,decide_eq_true_eq];omega
theorem G7{A B P u v:Nat}(a:u<P)(hv:v<P):(A*P+u=B*P+v↔A=B/\u=v)/\(A*P+u<B*P+v↔A<B\/(A=B/\u<v)):=by
 rcases Nat.lt_trichotomy A B with h|h|h
 ·have:=dg P (show A+1<=B from h);rw[Nat.succ_mul]at this;constructor<;>lia
 ·subst h;constructor<;>lia
 ·have:=dg P (show B+1<=A from h);rw[Nat.succ_mul]at this;constructor<;>lia
theorem qc{S:Sto}{n:Nat}:∀ {bs:List Bool} {xs ys:List Nat},xs.length=bs.length->ys.length=bs.length->(∀ x∈xs,x<=7)->(∀ y∈ys,y<=7) ->
  nq (gf S (n+1)) (di pt bs xs) (di pt bs ys)=some (decide (iZ bs xs=iZ bs ys))
 |[],xs,ys,_,_,_,_=>by simp[nq,iZ]
 |b::bs,[],ys,h,_,_,_=>by simp at h
 |b::bs,x::xs,[],_,h,_,_=>by simp at h
 |b::bs,x::xs,y::ys,h1,h2,hx,hy=>by
  have ih:=qc (S:=S) (n:=n) (bs:=bs) (xs:=xs) (ys:=ys) (by simpa using h1) (by simpa using h2) (fun z a=>hx z (mC1 _ a)) (fun z a=>hy z (mC1 _ a));have b1:=kW (bs:=bs) (xs:=xs) fun z a=>hx z (mC1 _ a);have b2:=kW (bs:=bs) (xs:=ys) fun z a=>hy z (mC1 _ a);rw[dj,dj,nq,CO,ih,iZ,iZ];have c:=(G7 (A:=cx b x) (B:=cx b y) b1 b2).1;rw[oS1,oP1]
  congr 1
  rw[bQ,bA1,decide_eq_true_eq,decide_eq_true_eq,decide_eq_true_eq];exact c.symm
theorem zd{S:Sto}{n:Nat}:∀ {bs:List Bool} {xs ys:List Nat},xs.length=bs.length->ys.length=bs.length->(∀ x∈xs,x<=7)->(∀ y∈ys,y<=7) ->
  nD (gf S (n+1)) (jB S (n+1)) (di pt bs xs) (di pt bs ys)=some (decide (iZ bs xs<iZ bs ys))
 |[],xs,ys,_,_,_,_=>by simp[nD,iZ]
 |b::bs,[],ys,h,_,_,_=>by simp at h
 |b::bs,x::xs,[],_,h,_,_=>by simp at h
 |b::bs,x::xs,y::ys,h1,h2,hx,hy=>by
  have ih:=zd (S:=S) (n:=n) (bs:=bs) (xs:=xs) (ys:=ys) (by simpa using h1) (by simpa using h2) (fun z a=>hx z (mC1 _ a)) (fun z a=>hy z (mC1 _ a));have b1:=kW (bs:=bs) (xs:=xs) fun z a=>hx z (mC1 _ a);have b2:=kW (bs:=bs) (xs:=ys) fun z a=>hy z (mC1 _ a);have c:=(G7 (A:=cx b x) (B:=cx b y) b1 b2).2;rw[dj,dj,nD,CO,oS1,iZ,iZ];by_cases z:cx b x=cx b y
  ·rw[if_pos (decide_eq_true z),ih]
   congr 1
   rw[bQ,decide_eq_true_eq,decide_eq_true_eq];lia
  ·rw[if_neg (by rw[decide_eq_true_eq];exact z),GF z]
   congr 1
   rw[bQ,decide_eq_true_eq,decide_eq_true_eq];lia
structure Ky where
 m:Nat
 x:Nat
 y:Nat
 z:Nat
 w:Nat
structure Ky.Ok (k:Ky):Prop where
 m:k.m<4000
 x:k.x<=4
 y:k.y<=4
 z:k.z<=4
 w:k.w<=4
abbrev E4:=Bool×Bool×Bool×Bool
noncomputable def E4.bs(e:E4):List Bool:=[e.1,e.2.1,e.2.2.1,e.2.2.2]
noncomputable def Ky.xs(k:Ky):List Nat:=[k.x,k.y,k.z,k.w]
noncomputable def CH(b:Bool)(x:Nat):TK:=if b=true then .int x else .non
noncomputable def Ky.sg(k:Ky)(e:E4):D:=I7 e.1 e.2.1 e.2.2.1 e.2.2.2 k.x k.y k.z k.w
noncomputable def Ky.d(k:Ky)(e:E4):D:=.tup [.int k.m,k.sg e]
noncomputable def Ky.tk(k:Ky)(e:E4):TK:=.tup [.int k.m,.tup [CH e.1 k.x,CH e.2.1 k.y,CH e.2.2.1 k.z,CH e.2.2.2 k.w]]
noncomputable def Ky.code(k:Ky)(e:E4):Nat:=k.m*4096+iZ e.bs k.xs
theorem Ky.keyT(k:Ky)(e:E4):Mi.keyT (k.d e)=some (k.tk e):=by
 obtain⟨a,b,c,d⟩:=e;cases a<;>cases b<;>cases c<;>cases d<;>rfl
theorem Ky.tkD(k:Ky)(e:E4):Mi.tkD (k.tk e)=k.d e:=(vk (k.keyT e)).1
theorem Ky.sg_zip(k:Ky)(e:E4):k.sg e = .tup (di pt e.bs k.xs):=rfl
theorem Ky.Ok.all{k:Ky}(h:k.Ok):∀x∈k.xs,x<=7:=by
 intro x a;have:=h.x;have:=h.y;have:=h.z;have:=h.w
 simp[Ky.xs]at a;lia
theorem gg{k:Ky}(h:k.Ok)(e:E4):iZ e.bs k.xs<4096:=kW (bs:=e.bs) h.all
theorem Ky.eq{k l:Ky}{e:E4}{S:Sto}{n:Nat}(hk:k.Ok)(a:l.Ok):gf S (n+3) (k.d e) (l.d e)=some (decide (k.code e=l.code e)):=by
 have b:gf S (n+2) (.int k.m) (.int l.m)=some ((k.m:Int) == (l.m:Int)):=rfl;have d:gf S (n+2) (k.sg e) (l.sg e)=some (decide (iZ e.bs k.xs=iZ e.bs l.xs)):=by rw[Ky.sg_zip,Ky.sg_zip,G4,qc rfl rfl hk.all a.all]
 unfold Ky.d Ky.code;rw[G4,nq,b,oS1,nq,d,nq];have c:=(G7 (A:=k.m) (B:=l.m) (gg hk e) (gg a e)).1;show some (((k.m:Int) == (l.m:Int))&&(decide (iZ e.bs k.xs=iZ e.bs l.xs)&&true))=_
 congr 1
 rw[bQ,bM,bA1,decide_eq_true_eq,decide_eq_true_eq,beq_iff_eq,c];lia
theorem Ky.lt{k l:Ky}{e:E4}{S:Sto}{n:Nat}(hk:k.Ok)(a:l.Ok):jB S (n+3) (k.d e) (l.d e)=some (decide (k.code e<l.code e)):=by
 have f:gf S (n+2) (.int k.m) (.int l.m)=some ((k.m:Int) == (l.m:Int)):=rfl;have c:jB S (n+2) (.int k.m) (.int l.m)=some (decide ((k.m:Int)<(l.m:Int))):=rfl;have g:gf S (n+2) (k.sg e) (l.sg e)=some (decide (iZ e.bs k.xs=iZ e.bs l.xs)):=by rw[Ky.sg_zip,Ky.sg_zip,G4,qc rfl rfl hk.all a.all]
 have d:jB S (n+2) (k.sg e) (l.sg e)=some (decide (iZ e.bs k.xs<iZ e.bs l.xs)):=by rw[Ky.sg_zip,Ky.sg_zip,Iv,zd rfl rfl hk.all a.all]
 unfold Ky.d Ky.code;have h:=(G7 (A:=k.m) (B:=l.m) (gg hk e) (gg a e)).2;rw[Iv,nD,f,oS1];by_cases z:k.m=l.m
 ·rw[if_pos (by rw[beq_iff_eq];lia),nD,g,oS1];by_cases b:iZ e.bs k.xs=iZ e.bs l.xs
  ·rw[if_pos (decide_eq_true b),nD]
   congr 1
   rw[eq_comm,decide_eq_false_iff_not];lia
  ·rw[if_neg (by rw[decide_eq_true_eq];exact b),d]
   congr 1
   rw[bQ,decide_eq_true_eq,decide_eq_true_eq];lia
 ·rw[if_neg (by rw[beq_iff_eq];lia),c]
  congr 1
  rw[bQ,decide_eq_true_eq,decide_eq_true_eq];lia
theorem Ky.und(k:Ky)(e:E4)(n:Nat):(k.d e).und n=true:=by
 rw[<- k.tkD e];exact s0 _
theorem Ky.sgu(k:Ky)(e:E4)(n:Nat):(k.sg e).und n=true:=by
 have:=k.und e n;unfold Ky.d at this;simp only[D.und,D.unds,bM,Bool.true_and]at this;exact this
noncomputable def dO(F:List (TK×D)):Ob:=match F with
 |[]=>.dct []
 |_=>.dcT F
theorem Ha{F:List (TK×D)}(h:F≠[]):dO F = .dcT F:=by
 cases F with
 |nil=>exact absurd rfl h
 |cons _ _=>rfl
structure RW (e:E4)(F:List (TK×D)):Prop where
 row:∀p∈F,∃k:Ky,k.Ok/\p.1=k.tk e/\fT p.2
 nd:(F.map (·.1)).Nodup
theorem RW.und{e:E4}{F:List (TK×D)}(h:RW e F)(n:Nat):(dO F).und n=true:=by
 have:D.unds n (F.map (·.2))=true:=Mi.eM fun p a=>by
  obtain⟨_,_,_,b⟩:=h.row p a;exact fz b.und
 cases F with
 |nil=>rfl
 |cons _ _=>exact this
theorem F2{e:E4}{F:List (TK×D)}{k:Ky}{x:D}{n:Nat}{S:Sto}(b:S[n]?=some (dO F))(c:F.length<=100000):iU (.ref n) (k.d e) x S=some (.non,S.set n (dO (eV F (k.tk e) x))):=by
 cases F with
 |nil=>
  have a:S[n]?=some (.dct []):=b;simp only[iU,a,k.keyT e];rfl
 |cons p F=>
  have a:S[n]?=some (.dcT (p::F)):=b;rw[Ha DF];simp only[iU,a,k.keyT e,oS1];rw[if_pos (bH c (by decide))]
abbrev Rw:=Ky×D
noncomputable def fu(e:E4)(p:Rw):D:=.tup [p.1.d e,p.2]
noncomputable def no(p:Rw):Prop:=p.1.Ok/\fT p.2
theorem RW.list{e:E4}:∀{F:List (TK×D)},(∀p∈F,∃k:Ky,k.Ok/\p.1=k.tk e/\fT p.2) -> ∃L:List Rw,L.map (fun p=>(p.1.tk e,p.2))=F /\ ∀p∈L,no p
 |[],_=>⟨[],rfl,fun p a=>by cases a⟩
 |x::F,h=>by
  obtain⟨L,h1,h2⟩:=RW.list (F:=F) fun p a=>h p (mC1 _ a);obtain⟨k,c,b,d⟩:=h x mS1;refine⟨(k,x.2)::L,by rw[mP1,h1,<- b],fun p a=>?_⟩;rcases aF.mp a with z|z
  ·subst z;exact⟨c,d⟩
  ·exact h2 p z
theorem DH(b:Bool)(x:Nat):CH b x=if b=true then .int (cx b x)else .non:=by unfold CH cx;cases b<;>rfl
theorem vK{b:Bool}{x y:Nat}(h:CH b x=CH b y):cx b x=cx b y:=by
 cases b with
 |false=>rfl
 |true=>
  have h':TK.int (x:Int)=TK.int (y:Int):=h;injection h' with h';exact(by lia:x=y)
theorem Hb(a b c d x y z w:_):iZ [a,b,c,d] [x,y,z,w]=((cx a x*8+cx b y)*8+cx c z)*8+cx d w:=by
 simp only[iZ,lC1,bd];lia
theorem uC{k l:Ky}{e:E4}(hk:k.Ok)(f:l.Ok):k.tk e=l.tk e↔k.code e=l.code e:=by
 obtain⟨a,b,c,d⟩:=e;have p:k.code (a,b,c,d)=k.m*4096+(((cx a k.x*8+cx b k.y)*8+cx c k.z)*8+cx d k.w):=by unfold Ky.code;rw[<- Hb];rfl
 have s:l.code (a,b,c,d)=l.m*4096+(((cx a l.x*8+cx b l.y)*8+cx c l.z)*8+cx d l.w):=by unfold Ky.code;rw[<- Hb];rfl
 have le:∀(b:Bool) (x:Nat),x<=4->cx b x<=4:=fun b x h=>by unfold cx;split<;>lia
 rw[p,s];constructor
 ·intro h;unfold Ky.tk at h;injection h with h;injection h with h1 h2;injection h1 with h1;injection h2 with h2 _;injection h2 with h2;injection h2 with r h2;injection h2 with p2 h2;injection h2 with m h2;injection h2 with q _;rw[vK r,vK p2,vK m,vK q,show k.m=l.m by lia]
 ·intro h;have y:=le a _ hk.x;have t:=le b _ hk.y;have u:=le c _ hk.z;have z:=le d _ hk.w
  have A:=le a _ f.x;have r2:=le b _ f.y;have v:=le c _ f.z;have w:=le d _ f.w
  have o:k.m=l.m:=by lia
  have j:cx a k.x=cx a l.x:=by lia
  have i:cx b k.y=cx b l.y:=by lia
  have n:cx c k.z=cx c l.z:=by lia
  have g:cx d k.w=cx d l.w:=by lia
  unfold Ky.tk;simp only[DH,o,j,i,n,g]
noncomputable def C1(e:E4)(L:List Rw):Prop:=L.Pairwise fun p q=>p.1.code e<q.1.code e
theorem mY{α:Type}{p q:α->Bool}:∀{l:List α},(∀x∈l,p x=q x)->l.find? p=l.find? q
 |[],_=>rfl
 |a::l,h=>by
  rw[a0,a0,h a mS1,mY fun x b=>h x (mC1 _ b)]
theorem hI{α:Type}{f:α->Nat}{c:Nat}{a:α}:∀{l:List α},(l.map f).Nodup->((l.find? fun x=>decide (f x=c))=some a↔a∈l/\f a=c)
 |[],_=>by simp
 |b::l,nd=>by
  rw[mP1,aO]at nd;rw[a0];by_cases z:f b=c
  ·rw[decide_eq_true z];constructor
   ·intro h;cases h;exact⟨mS1,z⟩
   ·rintro⟨h1,h2⟩;rcases aF.mp h1 with y|y
    ·rw[y]
    ·exact absurd (cc.mpr ⟨a,y,h2.trans z.symm⟩) nd.1
  ·rw[decide_eq_false z];show(l.find? fun x=>decide (f x=c))=some a↔_;rw[hI nd.2];constructor
   ·rintro⟨h1,h2⟩;exact⟨mC1 _ h1,h2⟩
   ·rintro⟨h1,h2⟩;rcases aF.mp h1 with y|y
    ·rw[y]at h2;exact absurd h2 z
    ·exact⟨y,h2⟩
theorem wT{α:Type}{f:α->Nat}{c:Nat}{l m:List α}(p:l.Perm m)(nd:(m.map f).Nodup):(l.find? fun x=>decide (f x=c))=m.find? fun x=>decide (f x=c):=by
 have b:(l.map f).Nodup:=(p.map f).nodup_iff.mpr nd;apply Option.ext;intro a;rw[hI b,hI nd,p.mem_iff]
theorem C1.le{e:E4}{L:List Rw}(h:C1 e L)(ok:∀p∈L,no p){i j:Nat}{p q:Rw}(hi:L[i]?=some p)(a:L[j]?=some q)(d:i<=j):p.1.m<=q.1.m/\(i<j->p.1.code e<q.1.code e):=by
 have c:=(ok p (gM1 hi)).1;have b:=(ok q (gM1 a)).1;by_cases z:i=j
 ·subst z;rw[hi]at a;cases a;exact⟨nR1 _,fun z=>by lia⟩
 ·obtain⟨h1,f⟩:=gE1.mp hi;obtain⟨h2,g⟩:=gE1.mp a;have:=cq.mp h i j h1 h2 (by lia);rw[f,g]at this;refine⟨?_,fun _=>this⟩;have k:=gg c e;have l:=gg b e;unfold Ky.code at this;lia
theorem IA{e:E4}{L:List Rw}{i:Nat}{p:Rw}{S:Sto}(h:L[i]?=some p):dQ (.tup (L.map (fu e))) (.int (i:Nat)) S=some (fu e p,S):=by
 obtain⟨x,a,b⟩:=(gl (i:=i) (xs:=L.map (fu e)) (x:=fu e p) (S:=S) (Q:=fun x=>x=(fu e p,S)) (by rw[gP1,h];rfl) rfl);rw[a,b]
theorem IB{e:E4}{p:Rw}{S:Sto}:dQ (fu e p) (.int 0) S=some (p.1.d e,S):=rfl
theorem JW{e:E4}{p:Rw}{S:Sto}:dQ (fu e p) (.int 1) S=some (p.2,S):=rfl
theorem Ji{e:E4}{k:Ky}{S:Sto}:dQ (k.d e) (.int 0) S=some (.int k.m,S):=rfl
theorem JV{e:E4}{k:Ky}{S:Sto}:dQ (k.d e) (.int 1) S=some (k.sg e,S):=rfl
theorem jQ{e:E4}{L:List Rw}(ok:∀p∈L,no p)(n:Nat):(D.tup (L.map (fu e))).und n=true:=by
 rw[D.und];refine Mi.eM fun p a=>?_;have h1:=p.1.und e n;have h2:=fz (n:=n) (ok p a).2.und;simp[fu,D.und,D.unds,h1,h2]
theorem EI{e:E4}{L:List Rw}{S:Sto}:eS (.tup (L.map (fu e))) S=some (.int L.length,S):=by simp[eS,dY]
theorem Cy{c:FT}{b:FS}{Q:Fl×Ev×Sto->Prop}(I:Nat->Ev->Sto->Prop)(N:Nat)(step:∀k r S,I k r S->W (c r S) fun p=>if p.1=true then k<N/\W (b r p.2) fun q=>q.1 = .nx/\I (k+1) q.2.1 q.2.2 else Q (.nx,r,p.2)):
  ∀(a k:Nat) (r:Ev) (S:Sto),N-k<a->I k r S->W (qo c b a r S) Q
 |0,k,r,S,hf,_=>by lia
 |a+1,k,r,S,hf,hi=>by
  rw[qo];dsimp only;rw[dZ];obtain⟨⟨t,m⟩,e,h⟩:=step k r S hi;refine⟨_,e,?_⟩;dsimp only at h ⊢;cases t with
  |true=>
   rw[if_pos rfl]at h ⊢;obtain⟨n,⟨f,j,i⟩,l,d,g⟩:=h;dsimp only at d g;subst d;rw[l,oS1];exact Cy I N step a (k+1) j i (by lia) g
  |false=>
   rw[if_neg (by decide)]at h ⊢;exact eh.mpr h
theorem Ca{e:E4}{L:List Rw}{q:Nat}{S:Sto}{Q:D×Sto->Prop}(c:C1 e L)(ok:∀ p∈L,no p)(v:L.length<=4000)(h:∀a:Nat,a<=L.length->(∀i p,L[i]?=some p->i<a->p.1.m<q)->(∀i p,L[i]?=some p->a<=i->q<=p.1.m)->Q (.int a,S)):W (dS 2 gD [.tup (L.map (fu e)),.int (q:Nat)] S) Q:=by
 refine kq rfl (by rw[D.unds,jQ ok,D.unds,D.und];rfl) ?_;unfold gD;refine mW ?_;unfold nh;generalize o:D.tup (L.map (fu e))=R;refine eA (fun r S=>S=[]/\r=[some R,some (.int (q:Nat)),some (.int ((0:Nat):Int)),none,none]) ?_ ?_
 ·walk_at"w";rfl
 rintro r n ⟨rfl,rfl⟩;refine eA (fun r S=>S=[]/\r=[some R,some (.int (q:Nat)),some (.int ((0:Nat):Int)),some (.int (L.length:Nat)),none]) ?_ ?_
 ·subst o
  ((try walk_at"w");repeat(simp only[EI];try walk_at"w"))
  rw[lM1]
 rintro r n ⟨rfl,rfl⟩;refine eA (fun r S=>∃(a:Nat) (d:Option D),S=[]/\a<=L.length/\(∀i p,L[i]?=some p->i<a->p.1.m<q)/\(∀i p,L[i]?=some p->a<=i->q<=p.1.m)/\r=[some R,some (.int (q:Nat)),some (.int (a:Nat)),some (.int (a:Nat)),d]) ?_ ?_
 ·refine Cy (fun k r S=>∃(a high:Nat) (d:Option D),S=[]/\a<=high/\high<=L.length/\high-a+k<=L.length/\(∀i p,L[i]?=some p->i<a->p.1.m<q)/\(∀i p,L[i]?=some p->high<=i->q<=p.1.m)/\r=[some R,some (.int (q:Nat)),some (.int (a:Nat)),some (.int (high:Nat)),d]) L.length ?_ 100000 0 _ _ (by lia) ⟨0,L.length,_,rfl,by lia,by lia,by lia,fun i p _ z=>by lia,fun i p f z=>?_,rfl⟩
  ·rintro k r S ⟨a,high,d,rfl,h1,h2,l,m,s,rfl⟩;unfold jU;walk_at"w";by_cases z:a<high
   ·rw[if_pos (by rw[decide_eq_true_eq];lia)];refine⟨by lia,?_⟩;unfold jT;have g:(a+high)/2<L.length:=by lia
    obtain⟨p,f⟩:∃p,L[(a+high)/2]?=some p:=⟨_,gG1 g⟩;have j:nH (.int ((a:Int)+(high:Int))) (.int 2) []=some (.int (((a+high)/2:Nat):Int),[]):=by
     simp only[nH];rw[if_pos ⟨by lia,by lia⟩]
     push_cast
     rfl
    subst o
    ((try walk_at"w");repeat(simp only[j,IA f,IB,Ji];try walk_at"w"))
    by_cases t:p.1.m<q
    ·rw[if_pos (by rw[decide_eq_true_eq];lia)];refine⟨(a+high)/2+1,high,_,by lia,h2,by lia,fun i u b hi=>?_,s,by push_cast;rfl⟩;exact bH (c.le ok b f (by lia)).1 t
    ·rw[if_neg (by rw[decide_eq_true_eq];lia)];refine⟨a,(a+high)/2,_,by lia,by lia,by lia,m,fun i u b hi=>?_,rfl⟩;exact aC (by lia) (c.le ok f b hi).1
   ·rw[if_neg (by rw[decide_eq_true_eq];lia)];have:a=high:=by lia
    subst this;exact⟨a,_,h2,m,s,rfl⟩
  ·have:=(gE1.mp f).1;lia
 rintro r n ⟨a,d,rfl,h1,h2,l,rfl⟩;walk_at"w";exact⟨rfl,h a h1 h2 l⟩
theorem xJ{c:FT}{b:FS}{Q:Fl×Ev×Sto->Prop}(I:Nat->Ev->Sto->Prop)(N:Nat)(step:∀k r S,I k r S->W (c r S) fun p=>if p.1=true then k<N/\W (b r p.2) fun q=>(q.1 = .nx/\I (k+1) q.2.1 q.2.2) \/ ∃d,q.1 = .rt d/\Q q else Q (.nx,r,p.2)):
  ∀(a k:Nat) (r:Ev) (S:Sto),N-k<a->I k r S->W (qo c b a r S) Q
 |0,k,r,S,hf,_=>by lia
 |a+1,k,r,S,hf,hi=>by
  rw[qo];dsimp only;rw[dZ];obtain⟨⟨t,s⟩,e,h⟩:=step k r S hi;refine⟨_,e,?_⟩;dsimp only at h ⊢;cases t with
  |true=>
   rw[if_pos rfl]at h ⊢;obtain⟨u,⟨f,n,m⟩,o,j⟩:=h;rw[o,oS1];rcases j with⟨g,i⟩|⟨d,g,l⟩
   ·dsimp only at g i;subst g;exact xJ I N step a (k+1) n m (by lia) i
   ·dsimp only at g;subst g;exact eh.mpr l
  |false=>
   rw[if_neg (by decide)]at h ⊢;exact eh.mpr h
theorem G0{k l:Ky}{e:E4}{S:Sto}(hk:k.Ok)(a:l.Ok):rZ (k.sg e) (l.sg e) S=some (.bl (decide (iZ e.bs k.xs=iZ e.bs l.xs)),S):=by
 show(gf S (58+1+1) (k.sg e) (l.sg e)).map _=_;rw[Ky.sg_zip,Ky.sg_zip,G4,qc rfl rfl hk.all a.all];rfl
theorem C1.nd{e:E4}:∀{L:List Rw},C1 e L->(L.map fun p=>p.1.code e).Nodup:=fun h=>
 db.mpr (List.Pairwise.imp (fun z=>nN1 z) h)
noncomputable def uc(k:Ky):D:=.tup [.int k.m,.str "leave",.non]
noncomputable def kl(e:E4)(L:List Rw)(k:Ky):D:=((L.find? fun p=>decide (p.1.code e=k.code e)).map (·.2)).getD (uc k)
theorem zY{e:E4}{L:List Rw}{k:Ky}{E:D}{S:Sto}{Q:D×Sto->Prop}(l:C1 e L)(ok:∀ p∈L,no p)(K:L.length<=4000)(hk:k.Ok)(O:E.und 0=true)(q:Q (kl e L k,S)):W (dS 3 fR [.tup [E,.tup (L.map (fu e))],.int k.m,k.sg e] S) Q:=by
 refine kq rfl (by
  have C:=jQ (e:=e) ok 0;have r2:=k.sgu e 0;rw[D.und]at C;simp[D.unds,D.und,O,C,r2]) ?_
 unfold fR;refine mW ?_;unfold oT;generalize F:D.tup [E,.tup (L.map (fu e))]=M;refine eA (fun r S=>S=[]/\r=[some M,some (.int k.m),some (k.sg e),some (.tup (L.map (fu e))),none]) ?_ ?_
 ·subst F;have I:dQ (.tup [E,.tup (L.map (fu e))]) (.int 1) []=some (.tup (L.map (fu e)),[]):=rfl
  ((try walk_at"w");repeat(simp only[I];try walk_at"w"))
 rintro r N ⟨rfl,rfl⟩;refine eA (fun r S=>∃a:Nat,S=[]/\a<=L.length/\(∀i p,L[i]?=some p->i<a->p.1.m<k.m)/\(∀i p,L[i]?=some p->a<=i->k.m<=p.1.m)/\r=[some M,some (.int k.m),some (k.sg e),some (.tup (L.map (fu e))),some (.int (a:Nat))]) ?_ ?_
 ·walk_at"w";refine Ca l ok K fun a h1 h2 v=>?_;exact⟨a,rfl,h1,h2,v,rfl⟩
 rintro r N ⟨a,rfl,h1,h2,v,rfl⟩;have hnd:=l.nd;have g:(∀(i:Nat) (p:Rw),L[i]?=some p->p.1.code e≠k.code e)->kl e L k=uc k:=fun h=>by
  unfold kl;rw[List.find?_eq_none.mpr fun p c=>?_]
  ·rfl
  ·obtain⟨i,hi⟩:=bo c;rw[decide_eq_true_eq];exact h i p hi
 have o:∀p,p∈L->p.1.m≠k.m->p.1.code e≠k.code e:=fun p c w z=>by
  have:=(G7 (A:=p.1.m) (B:=k.m) (gg (ok p c).1 e) (gg hk e)).1.mp z;exact w this.1
 unfold d5;refine dZ.mpr ?_;refine xJ (fun j r S=>S=[]/\a+j<=L.length/\(∀i p,L[i]?=some p->i<a+j->p.1.code e≠k.code e)/\r=[some M,some (.int k.m),some (k.sg e),some (.tup (L.map (fu e))),some (.int ((a+j:Nat):Int))]) L.length ?_ 100000 0 _ _ (by lia) ⟨rfl,by lia,fun i p c hi=>o p (gM1 c) (by have:=h2 i p c (by lia);lia),rfl⟩;rintro j r S ⟨rfl,P,t,rfl⟩;unfold lg;by_cases u:a+j<L.length
 ·obtain⟨p,c⟩:∃p,L[a+j]?=some p:=⟨_,gG1 u⟩;have m:=gM1 c
  ((try walk_at"w");repeat(simp only[EI,IA c,IB,Ji,lM1];try walk_at"w"))
  rw[if_pos (by rw[decide_eq_true_eq];lia)];by_cases G:p.1.m=k.m
  ·rw[if_pos (by rw[beq_iff_eq];lia)];refine⟨by lia,?_⟩;unfold lf
   ((try walk_at"w");repeat(simp only[IA c,IB,JV,JW,G0 (ok p m).1 hk];try walk_at"w"))
   have d:p.1.code e=k.code e↔iZ e.bs p.1.xs=iZ e.bs k.xs:=by unfold Ky.code;rw[G];lia
   by_cases hc:iZ e.bs p.1.xs=iZ e.bs k.xs
   ·rw[if_pos (decide_eq_true hc)];right;have H:(L.find? fun p=>decide (p.1.code e=k.code e))=some p:=(hI (f:=fun p:Rw=>p.1.code e) hnd).mpr ⟨m,d.mpr hc⟩;have J:kl e L k=p.2:=by unfold kl;rw[H];rfl
    rw[J]at q;exact⟨_,rfl,(ok p m).2.und,q⟩
   ·rw[if_neg (by rw[decide_eq_true_eq];exact hc)];refine W.of (x:=(.nx,[some M,some (.int k.m),some (k.sg e),some (.tup (L.map (fu e))),some (.int (((a+j:Nat):Int)+1))],[])) rfl ?_;left;refine⟨rfl,rfl,by lia,fun i n b hi=>?_,by push_cast;rfl⟩;by_cases s:i=a+j
    ·subst s;rw[c]at b;cases b;exact fun z=>hc (d.mp z)
    ·exact t i n b (by lia)
  ·rw [if_neg (by rw [beq_iff_eq];lia)];have y:kl e L k=uc k:=g fun i n b=>by
    by_cases hi:i<a+j
    ·exact t i n b hi
    ·have b1:=v (a+j) p c (by lia);have b2:=(l.le ok c b (by lia)).1;exact o n (gM1 b) (by lia)
   rw[y]at q;exact⟨rfl,q⟩
 ·((try walk_at"w");repeat(simp only[EI,lM1];try walk_at"w"))
  rw[if_neg (by rw[decide_eq_true_eq];lia)];have y:kl e L k=uc k:=g fun i n b=>by
   have:=(gE1.mp b).1;exact t i n b (by lia)
  rw[y]at q;exact⟨rfl,q⟩
noncomputable def dm:D->Nat
 | .tup [.int m,_,_]=>m.toNat
 |_=>0
noncomputable def dh:D->Str
 | .tup [_,.str h,_]=>h
 |_=>""
noncomputable def dt:D->Option Nat
 | .tup [_,_,.int t]=>some t.toNat
 |_=>none
noncomputable def tD:Option Nat->D
 |none=>.non
 |some t=>.int (t:Nat)
theorem fT.eta{x:D}(h:fT x):x = .tup [.int (dm x:Nat),.str (dh x),tD (dt x)]/\dm x<4000:=by
 obtain⟨m,y,t,rfl,a,h1,h2⟩:=h.is;simp only[mR,aF,bL,or_false]at h1;simp only[k4,aF,bL,or_false]at h2;rcases h1 with e|e|e<;>subst e<;>rcases h2 with e|e|e|e|e<;>subst e<;>exact⟨rfl,a⟩
noncomputable def eD(w:ed)(u:Wk)(x:D):Wk:=match dt x with
 |some t=>match (w[u.1]?).bind (·[t]?)with
  |some p=>(p.1,p.2+1,dm x)
  |none=>(u.1,u.2.1,dm x)
 |none=>(u.1,u.2.1,dm x)
theorem zm{t:Nat}{S:Sto}:B5 (.int (t:Nat)) .non S=some (.bl false,S):=rfl
theorem EX{S:Sto}:B5 .non .non S=some (.bl true,S):=rfl
theorem we{w:ed}{u:Wk}{row:List (Nat×Nat)}{x:D}{S:Sto}{Q:D×Sto->Prop}(hr:w[u.1]?=some row)(hx:fT x)(q:Q (fq (eD w u x),S)):W (dS 3 hB [webD w,fq u,x] S) Q:=by
 refine kq rfl (by simp[D.unds,fZ,hx.und];rfl) ?_;unfold hB;refine mW ?_;unfold oR;have ex:=hx.eta.1;unfold eD at q;simp only[hr,oS1]at q;generalize o:dm x=m at *
 generalize n:dh x=h at *
 generalize l:dt x=t at *
 refine eA (fun r V=>V=[]/\r=[some (webD w),some (fq u),some x,some (.int u.1),some (.int u.2.1),some (.int u.2.2),none,none,none,none,none]) ?_ ?_
 ·generalize j:fq u=U;have c:U = .tup [.int u.1,.int u.2.1,.int u.2.2]:=j.symm;subst c;walk_at"w"
 rintro r V ⟨rfl,rfl⟩;refine eA (fun r V=>V=[]/\r=[some (webD w),some (fq u),some x,some (.int u.1),some (.int u.2.1),some (.int u.2.2),some (.int (m:Nat)),some (.str h),some (tD t),none,none]) ?_ ?_
 ·subst ex;walk_at"w"
 rintro r V ⟨rfl,rfl⟩;cases t with
 |none=>
  have d:tD none = .non:=rfl;rw[d]
  ((try walk_at"w");repeat(simp only[EX];try walk_at"w"))
  exact⟨rfl,q⟩
 |some t=>
  have d:tD (some t) = .int (t:Nat):=rfl;rw[d];have b:∀a,dQ (webD w) (.int (u.1:Nat)) a=some (.tup (row.map pD),a):=fun a=>by
   obtain⟨p,e,h⟩:W (dQ (webD w) (.int (u.1:Nat)) a) fun p=>p=(.tup (row.map pD),a):=vX hr rfl;rw[e,h]
  dsimp only at q;by_cases i:t<row.length
  ·have f:=gG1 i;rw[f]at q;refine eA (fun r V=>V=[]/\r=[some (webD w),some (fq u),some x,some (.int u.1),some (.int u.2.1),some (.int u.2.2),some (.int (m:Nat)),some (.str h),some (.int (t:Nat)),none,none]) ?_ ?_
   ·((try walk_at"w");repeat(simp only[zm,b,fV,lM1];try walk_at"w"))
    rw[if_neg (by rw[decide_eq_true_eq];lia)];trivial
   rintro r V ⟨rfl,rfl⟩;have k:∀a,dQ (.tup (row.map pD)) (.int (t:Nat)) a=some (pD row[t],a):=fun a=>by
    obtain⟨p,e,h⟩:W (dQ (.tup (row.map pD)) (.int (t:Nat)) a) fun p=>p=(pD row[t],a):=gl (by rw[gP1,f];rfl) rfl;rw[e,h]
   generalize row[t]=p at *
   refine eA (fun r V=>V=[]/\r=[some (webD w),some (fq u),some x,some (.int u.1),some (.int u.2.1),some (.int u.2.2),some (.int (m:Nat)),some (.str h),some (.int (t:Nat)),some (.int p.1),some (.int p.2)]) ?_ ?_
   ·((try walk_at"w");repeat(simp only[b,k,pD];try walk_at"w"))
   rintro r V ⟨rfl,rfl⟩;walk_at"w";have g:(1:Int)+(p.2:Int)=((p.2+1:Nat):Int):=by lia
   rw[g];exact⟨rfl,q⟩
  ·rw[b4 (by lia)]at q
   ((try walk_at"w");repeat(simp only[zm,b,fV,lM1];try walk_at"w"))
   rw[if_pos (by rw[decide_eq_true_eq];lia)];exact⟨rfl,q⟩
theorem wu{S:Sto}{x n:Nat}{cs:List Nat}(h:S[n]?=some (.lst (eI cs))):fv (.int x) (.ref n) S=some (.bl (!cs.contains x),S):=by
 simp only[fv,ix,kQ,h,dY,oS1,eF,show(60:Nat)=59+1 from rfl,tW,oP1]
theorem vn{x:D}(h:fT x)(S:Sto):dQ x (.int 1) S=some (.str (dh x),S):=by
 have e:=h.eta.1;generalize dm x=a at e;generalize dt x=c at e;generalize dh x=b at *
 subst e;rfl
theorem vm{u:Wk}{S:Sto}:dQ (fq u) (.int 0) S=some (.int u.1,S):=rfl
theorem pT{u:Wk}{S:Sto}:dQ (fq u) (.int 2) S=some (.int u.2.2,S):=rfl
noncomputable def gG(ws:List Wk)(dd:Wk->D)(h:Str)(r:Nat):Bool:=ws.any fun u=>u.1 == r&&dh (dd u) == h
noncomputable def d9(m:Nat)(ws:List Wk)(dd:Wk->D)(cs:List Nat):List Nat:=(List.range m).filter fun r=>gG ws dd "mark" r||(cs.contains r && !gG ws dd "wipe" r)
theorem Eb(a b:List Nat):eI a++eI b=eI (a++b):=by simp[eI]
noncomputable def nr(ws:List Wk)(dd:Wk->D)(h:Str):List Nat:=(ws.filter fun u=>dh (dd u) == h).map (·.1)
theorem vW{ws:List Wk}{dd:Wk->D}{h:Str}{r:Nat}:r∈nr ws dd h↔gG ws dd h r=true:=by
 unfold nr gG;rw[cc,bR];constructor
 ·rintro⟨u,a,rfl⟩;obtain⟨h1,h2⟩:=aA.mp a;exact⟨u,h1,by simp[h2]⟩
 ·rintro⟨u,a,e⟩;rw[bA1,beq_iff_eq]at e;exact⟨u,aA.mpr ⟨a,e.2⟩,e.1⟩
theorem zw{h:Str}{ws:List Wk}{dd:Wk->D}{n:Nat}{S:Sto}{Q:D×Sto->Prop}{m:FA}{r:Ev}(hd:∀ u∈ws,fT (dd u))(d:ws.length<=8)(a:S[n]? = some (.lst (ws.map dd)))(hm:m r S=some ([.tup (ee ws),.ref n],S))(hr:nE 2 [] r=[none,none])(q:Q (.ref S.length,S++[.lst (eI (nr ws dd h))])):W (eK 2 [] (Ao m) (gT 2 (gCs (gN 0) (gCs (gN 1) gNl))) (mB (m2 (b2 rZ) (m2 (b2 dQ) (mV 1) (mC (D.int (1)))) (mC (D.str h)))) (ev (m2 (b2 dQ) (mV 0) (mC (D.int (0))))) r S) Q:=by
 rw[ji];refine qk hm a ?_;dsimp only;rw[hr,ee,lV];refine gO (fun u:Wk=>dh (dd u) == h) (fun u:Wk=>D.int u.1) (fun r=>∃x y,r=[x,y]) (gp a) ws _ ⟨_,_,rfl⟩ ?_ fun f _=>?_
 ·rintro u b r ⟨x,y,rfl⟩
  ((try walk_at"w");repeat(simp only[vn (hd u b)];try walk_at"w"))
  refine⟨⟨_,_,rfl⟩,fun _=>?_⟩
  ((try walk_at"w");repeat(simp only[vm];try walk_at"w"))
 ·have e:(ws.filter fun u:Wk=>dh (dd u) == h).map (fun u:Wk=>D.int (u.1:Nat))=eI (nr ws dd h):=by unfold eI nr;rw[bt];rfl
  rw[e];have c:=df (fun u:Wk=>dh (dd u) == h) ws;refine⟨d4 ?_,q⟩;dsimp only;rw[io];unfold nr;rw[lM1];lia
theorem wQ{m:Nat}{ws:List Wk}{cs:List Nat}{dd:Wk->D}{n:Nat}{S:Sto}{Q:D×Sto->Prop}(hd:∀ u∈ws,fT (dd u))(v:ws.length<=8)(hc:cs.length<=8)(hw:∀ u∈ws,u.1<m)(j:∀ r∈cs,r<m)(o:S[n]? = some (.lst (ws.map dd)))(l:S.all (Ob.und S.length)=true)(q:Q (.tup (eI (d9 m ws dd cs)),S)):W (dS 2 hC [dU ws cs,.ref n] S) Q:=by
 refine m7 rfl (by simp[D.unds,D.und]) ?_;unfold hC;refine mW ?_;unfold oS;have G:=(gE1.mp o).1;refine eA (fun r V=>V=S/\r=[some (dU ws cs),some (.ref n),some (.tup (ee ws)),some (.tup (eI cs)),none,none,none]) ?_ ?_
 ·generalize z:dU ws cs=M;have k:M = .tup [.tup (ee ws),.tup (eI cs)]:=z.symm;subst k;walk_at"w"
 rintro r V ⟨A,rfl⟩;subst A;refine eA (fun r g=>g=V++[.lst (eI (nr ws dd "mark"))]/\r=[some (dU ws cs),some (.ref n),some (.tup (ee ws)),some (.tup (eI cs)),some (.ref V.length),none,none]) ?_ ?_
 ·unfold d6;refine dZ.mpr (zw hd v o rfl rfl ?_);walk_at"w"
 rintro r d ⟨a,rfl⟩;have H:d[n]?=some (.lst (ws.map dd)):=by rw[a,gL1 G];exact o
 have p:d[V.length]?=some (.lst (eI (nr ws dd "mark"))):=by rw[a,d7];rfl
 refine eA (fun r g=>g=d++[.lst (eI (nr ws dd "wipe"))]/\r=[some (dU ws cs),some (.ref n),some (.tup (ee ws)),some (.tup (eI cs)),some (.ref V.length),some (.ref d.length),none]) ?_ ?_
 ·unfold d6;refine dZ.mpr (zw hd v H rfl rfl ?_);walk_at"w"
 rintro r i ⟨b,rfl⟩;have t:i[V.length]?=some (.lst (eI (nr ws dd "mark"))):=by rw[b,gL1 (gE1.mp p).1];exact p
 have y:i[d.length]?=some (.lst (eI (nr ws dd "wipe"))):=by rw[b,d7];rfl
 refine eA (fun r g=>g=i++[.lst (eI (cs.filter fun r=> !(nr ws dd "wipe").contains r))]/\r=[some (dU ws cs),some (.ref n),some (.tup (ee ws)),some (.tup (eI cs)),some (.ref V.length),some (.ref d.length),some (.ref i.length)]) ?_ ?_
 ·walk_at"w";rw[ij];refine gO (f:=fun r:Nat=>D.int r) (fun r:Nat=> !(nr ws dd "wipe").contains r) (fun r:Nat=>D.int r) (fun r=>∃x,r=[x,some (.ref d.length)]) rfl cs _ ⟨_,rfl⟩ ?_ fun J _=>?_
  ·rintro u w r ⟨x,rfl⟩
   ((try walk_at"w");repeat(simp only[wu y];try walk_at"w"))
   exact⟨⟨_,rfl⟩,fun _=>trivial⟩
  ·walk_at"w";have E:=df (fun r:Nat=> !(nr ws dd "wipe").contains r) cs;exact⟨d4 (by rw[lM1];lia),rfl,trivial⟩
 rintro r s ⟨c,rfl⟩;have C:s[V.length]?=some (.lst (eI (nr ws dd "mark"))):=by rw[c,gL1 (gE1.mp t).1];exact t
 have F:s[i.length]?=some (.lst (eI (cs.filter fun r=> !(nr ws dd "wipe").contains r))):=by rw[c,d7];rfl
 have E:=df (fun r:Nat=> !(nr ws dd "wipe").contains r) cs;have I:(nr ws dd "mark").length<=ws.length:=by unfold nr;rw[lM1];exact df _ _
 walk_at"w";refine(Fk F C).mpr ⟨d4 (by rw[io,io];lia),?_⟩;rw[Eb];refine xj (xs:=cs.filter (fun r=> !(nr ws dd "wipe").contains r)++nr ws dd "mark") (m:=m) (f:=fun r=>gG ws dd "mark" r||(cs.contains r && !gG ws dd "wipe" r)) (by rw[d7];rfl) (fun r=>?_) (by rw[lA1];lia) ?_
 ·have B:(nr ws dd "wipe").contains r=gG ws dd "wipe" r:=by
   rw[bQ,cO,vW]
  rw[aG,aA,vW,B];constructor
  ·rintro(⟨h1,h2⟩|h1)
   ·exact⟨j r h1,by rw[cO.mpr h1,h2];simp⟩
   ·refine⟨?_,by rw[h1];rfl⟩;unfold gG at h1;obtain⟨u,w,e⟩:=bR.mp h1;rw[bA1,beq_iff_eq]at e;rw[<- e.1];exact hw u w
  ·rintro⟨_,h⟩;rw[bO,bA1]at h;rcases h with h|⟨h1,h2⟩
   ·exact .inr h
   ·exact .inl ⟨cO.mp h1,h2⟩
 ·walk_at"w";refine et (xs:=eI (d9 m ws dd cs)) (by rw[gr];rfl) ?_;rw[pZ (by rw[D.und];exact pO _) l (by rw[c,b,a];simp only[bG];exact bu _ _)];exact q
theorem Bk{m:Nat}{w:ed}{ws:List Wk}{cs:List Nat}{dd:Wk->D}{n:Nat}{S:Sto}{Q:D×Sto->Prop}(i:w.length=m)(hd:∀ u∈ws,fT (dd u))(z:ws.length<=8)(hc:cs.length<=8)(hw:∀ u∈ws,u.1<m)(g:∀ r∈cs,r<m)(d:S[n]? = some (.lst (ws.map dd)))(b:S.all (Ob.und S.length)=true)(q:Q (dU (ws.map fun u=>eD w u (dd u)) (d9 m ws dd cs),S)):W (dS 3 j6 [webD w,dU ws cs,.ref n] S) Q:=by
 refine m7 rfl (by simp[D.unds,D.und]) ?_;unfold j6;refine mW ?_;unfold vT;have B:=(gE1.mp d).1;refine eA (fun r V=>V=S/\r=[some (webD w),some (dU ws cs),some (.ref n),some (.tup (ee ws)),some (.tup (eI cs)),none]) ?_ ?_
 ·generalize l:dU ws cs=M;have h:M = .tup [.tup (ee ws),.tup (eI cs)]:=l.symm;subst h;walk_at"w"
 rintro r V ⟨s,rfl⟩;subst s;refine eA (fun r t=>t=V++[.lst (ee (ws.map fun u=>eD w u (dd u)))]/\r=[some (webD w),some (dU ws cs),some (.ref n),some (.tup (ee ws)),some (.tup (eI cs)),some (.ref V.length)]) ?_ ?_
 ·unfold d6;refine dZ.mpr ?_;rw[ji];refine qk (xs:=ee ws) (ys:=ws.map dd) (n:=n) rfl d ?_;dsimp only;rw[ee,lV];refine nC (fun u:Wk=>fq (eD w u (dd u))) (fun r=>∃x y,r=[x,y,some (webD w)]) (gp d) ws _ ⟨_,_,rfl⟩ ?_ fun E _=>?_
  ·rintro u j r ⟨x,y,rfl⟩;obtain⟨row,c⟩:∃row,w[u.1]?=some row:=⟨_,gG1 (by rw[i];exact hw u j)⟩;walk_at"w";refine we c (hd u j) ?_;exact⟨rfl,rfl,_,_,rfl⟩
  ·have e:ws.map (fun u:Wk=>fq (eD w u (dd u)))=ee (ws.map fun u=>eD w u (dd u)):=by unfold ee;rw[bt];rfl
   rw[e];refine⟨d4 (by dsimp only;rw[i8,lM1];lia),?_⟩;walk_at"w"
 rintro r f ⟨a,rfl⟩;have C:f[n]?=some (.lst (ws.map dd)):=by rw[a,gL1 B];exact d
 have k:f[V.length]?=some (.lst (ee (ws.map fun u=>eD w u (dd u)))):=by rw[a,d7];rfl
 have p:f.all (Ob.und f.length)=true:=by
  rw[a,dk,bA1,lA1];rw[bB]at b;refine⟨bB.mpr fun o v=>jW (bq _ _) (b o v),?_⟩;rw[bP,Ob.und,gX (jG _)];rfl
 walk_at"w";refine et k ?_;refine wQ hd z hc hw g C p ?_;walk_at"w";have A:D.tup [.tup (ee (ws.map fun u=>eD w u (dd u))),.tup (eI (d9 m ws dd cs))]=dU (ws.map fun u=>eD w u (dd u)) (d9 m ws dd cs):=rfl;rw[A,pZ fG b (by rw[a];exact bu _ _)];exact q
noncomputable def eyD(e:E4):D:=.tup (fg e.1 e.2.1 e.2.2.1 e.2.2.2)
theorem p9(e:E4):(eyD e).und 0=true:=by unfold eyD;rw[D.und];exact kh _ _ _ _
noncomputable def mcD(e:E4)(L:List Rw):D:=.tup [eyD e,.tup (L.map (fu e))]
theorem pQ{e:E4}{L:List Rw}(ok:∀p∈L,no p):(mcD e L).und 0=true:=by
 have h1:=p9 e;have h2:=jQ (e:=e) ok 0;unfold mcD;rw[D.und,D.unds,D.unds,h1,h2];rfl
theorem zN{e:E4}{L:List Rw}{k:Ky}(ok:∀p∈L,no p)(hk:k.Ok):fT (kl e L k):=by
 unfold kl;cases h:L.find? fun p=>decide (p.1.code e=k.code e)with
 |none=>exact⟨k.m,_,_,rfl,hk.m,by simp[mR],by simp[k4]⟩
 |some p=>exact(ok p (List.mem_of_find?_eq_some h)).2
noncomputable def ky(w:ed)(ws:List Wk)(cs:List Nat)(u:Wk):Ky:=⟨u.2.2,u.2.1,if cs.contains u.1 then 1 else 0,((w[u.1]?).getD []).length,if 1<crowd ws u.1 then 1 else 0⟩
theorem pA{w:ed}{ws:List Wk}{cs:List Nat}{u:Wk}{row:List (Nat×Nat)}{e:E4}(h:w[u.1]?=some row):uH e.1 e.2.1 e.2.2.1 e.2.2.2 ws cs u row=(ky w ws cs u).sg e:=by
 have a:∀b:Bool,((if b=true then 1 else 0:Nat):Int)=if b=true then(1:Int)else 0:=fun b=>by cases b<;>rfl
 have c:((if 1<crowd ws u.1 then 1 else 0:Nat):Int)=if 1<crowd ws u.1 then(1:Int)else 0:=by split<;>rfl
 unfold uH tw Ky.sg I7 ky pt;rw[h];dsimp only;rw[a,c];rfl
structure jy (m:Nat)(w:ed)(ws:List Wk)(cs:List Nat):Prop where
 web:oV m w
 m8:m<=8
 few:ws.length<=8
 cl:cs.length<=8
 wk:∀u∈ws,∃row,w[u.1]?=some row/\u.2.1<=row.length/\u.2.2<4000
 ch:∀r∈cs,r<m
theorem jy.lt{m:Nat}{w:ed}{ws:List Wk}{cs:List Nat}(h:jy m w ws cs):∀u∈ws,u.1<m:=fun u b=>by
 obtain⟨a,e,_⟩:=h.wk u b;have:=(gE1.mp e).1;rw[h.web.len]at this;exact this
theorem jy.ky{m:Nat}{w:ed}{ws:List Wk}{cs:List Nat}(h:jy m w ws cs):∀u∈ws,(ky w ws cs u).Ok:=fun u b=>by
 obtain⟨a,e,h1,h2⟩:=h.wk u b;have c:=h.web.le a (gM1 e);refine⟨h2,?_,?_,?_,?_⟩
 ·show u.2.1<=4;lia
 ·show(if cs.contains u.1 then 1 else 0)<=4;split<;>lia
 ·show((w[u.1]?).getD []).length<=4;rw[e];exact c
 ·show(if 1<crowd ws u.1 then 1 else 0)<=4;split<;>lia
theorem AA{m:Nat}{w:ed}{ws:List Wk}{cs:List Nat}{e:E4}{S:Sto}{Q:D×Sto->Prop}(h:jy m w ws cs)(q:Q (.ref S.length,S++[.lst (ws.map fun u=>(ky w ws cs u).d e)])):W (dS 3 j5 [webD w,eyD e,dU ws cs] S) Q:=by
 refine Hc rfl (by simp[D.unds,fZ,fG,p9]) ?_;unfold j5;refine mW ?_;unfold vS e9;rw[dZ,ji];refine Hl (xs:=ee ws) rfl ?_;dsimp only;have g:=h.few;rw[ee,zM];refine nC (fun p:Wk×Nat=>(ky w ws cs p.1).d e) (fun r=>∃x y,r=[x,y,some (webD w),some (eyD e),some (dU ws cs)]) rfl ws.zipIdx _ ⟨_,_,rfl⟩ ?_ fun i _=>?_
 ·rintro⟨u,k⟩ d r ⟨x,y,rfl⟩;have b:ws[k]?=some u:=v4 d;obtain⟨c,a,_⟩:=h.wk u (gM1 b)
  ((try walk_at"w");repeat(simp only[pT];try walk_at"w"))
  refine AH b a (by lia) ?_;walk_at"w";rw[pA a];exact⟨rfl,_,_,rfl⟩
 ·have f:(ws.zipIdx.map fun p:Wk×Nat=>(ky w ws cs p.1).d e)=ws.map fun u=>(ky w ws cs u).d e:=sQ (fun u=>(ky w ws cs u).d e) ws;rw[f];refine⟨d4 (by dsimp only;rw[lM1];lia),?_⟩;walk_at"w";exact⟨_,rfl,Mi.eM fun u _=>Ky.und _ e 0,q⟩
noncomputable def ddW(w:ed)(ws:List Wk)(cs:List Nat)(e:E4)(L:List Rw)(u:Wk):D:=kl e L (ky w ws cs u)
noncomputable def oQ(m:Nat)(w:ed)(ws:List Wk)(cs:List Nat)(e:E4)(L:List Rw):D:=dU (ws.map fun u=>eD w u (ddW w ws cs e L u)) (d9 m ws (ddW w ws cs e L) cs)
theorem Fe{m:Nat}{w:ed}{ws:List Wk}{cs:List Nat}{e:E4}{L:List Rw}{S:Sto}{Q:D×Sto->Prop}(h:jy m w ws cs)(b:C1 e L)(ok:∀p∈L,no p)(d:L.length<=4000)(q:Q (oQ m w ws cs e L,S)):W (dS 3 mH [webD w,mcD e L,dU ws cs] S) Q:=by
 refine kq rfl (by simp[D.unds,fZ,fG,pQ ok]) ?_;unfold mH
 refine mW ?_;unfold Ad
 have i:=h.few;have c:∀u∈ws,fT (ddW w ws cs e L u):=fun u a=>zN ok (h.ky u a);refine eA (fun r V=>V=[.lst (ws.map fun u=>(ky w ws cs u).d e)]/\r=[some (webD w),some (mcD e L),some (dU ws cs),some (.ref 0)]) ?_ ?_
 ·have f:∀S,dQ (mcD e L) (.int 0) S=some (eyD e,S):=fun S=>rfl
  ((try walk_at"w");repeat(simp only[f];try walk_at"w"))
  refine AA h ?_;walk_at"w"
 rintro r V ⟨rfl,rfl⟩;unfold e9;rw[dZ];have key:W (eK 2 [1] (hH (mV 3)) (gT 2 (gCs (gN 0) (gCs (gN 1) gNl))) fQ (ev (mN (dS 3 fR) (dM (mV 2) (dM (mV 0) (dM (mV 1) dN))))) [some (webD w),some (mcD e L),some (dU ws cs),some (.ref 0)] [.lst (ws.map fun u=>(ky w ws cs u).d e)]) fun p=>p=(.ref 1,[.lst (ws.map fun u=>(ky w ws cs u).d e),.lst (ws.map (ddW w ws cs e L))]):=by
  walk_at"w";refine et (xs:=ws.map fun u=>(ky w ws cs u).d e) rfl ?_;refine nC (ddW w ws cs e L) (fun r=>∃x y,r=[x,y,some (mcD e L)]) (gp rfl) ws _ ⟨_,_,rfl⟩ ?_ fun j _=>?_
  ·rintro u a r ⟨x,y,rfl⟩;unfold Ky.d;walk_at"w";refine zY b ok d (h.ky u a) (p9 e) ?_;exact⟨rfl,rfl,_,_,rfl⟩
  ·refine⟨d4 (by dsimp only;rw[lM1];lia),?_⟩;walk_at"w"
 obtain⟨p,g,rfl⟩:=key;generalize eK 2 [1] (hH (mV 3)) (gT 2 (gCs (gN 0) (gCs (gN 1) gNl))) fQ (ev (mN (dS 3 fR) (dM (mV 2) (dM (mV 0) (dM (mV 1) dN)))))=G at *
 ((try walk_at"w");repeat(simp only[g];try walk_at"w"))
 refine Bk h.web.len c h.few h.cl h.lt h.ch (dd:=ddW w ws cs e L) rfl ?_ ?_
 ·rw[bP,bP,Ob.und,Ob.und,Mi.eM fun u _=>Ky.und _ e _,Mi.eM fun u a=>fz (c u a).und];rfl
 ·exact⟨fG,q⟩
theorem pX{S:Sto}{n:Nat}{x:Str}:∀a:List Str,An (gf S (n+1)) (.str x) (a.map D.str)=some (a.contains x)
 |[]=>rfl
 |c::a=>by
  have b:gf S (n+1) (.str c) (.str x)=some (c == x):=rfl;have d:(c == x)=(x == c):=by rw[bQ,beq_iff_eq,beq_iff_eq];exact eq_comm
  rw[mP1,An,b,d,pX a,List.contains_cons];rfl
theorem BW{S:Sto}{x:Str}{n:Nat}{cs:List Str}(h:S[n]?=some (.lst (cs.map D.str))):iV (.str x) (.ref n) S=some (.bl (cs.contains x),S):=by
 simp only[iV,t5,Fy,h,dY,oS1,eF,show(60:Nat)=59+1 from rfl,pX,oP1]
theorem tN{S:Sto}{x:Str}{n:Nat}{cs:List Str}(h:S[n]?=some (.lst (cs.map D.str))):fv (.str x) (.ref n) S=some (.bl (!cs.contains x),S):=by
 simp only[fv,ix,kQ,h,dY,oS1,eF,show(60:Nat)=59+1 from rfl,pX,oP1]
noncomputable def nF(ws:List Wk)(dd:Wk->D)(r:Nat):List Str:=(ws.filter fun u=>u.1 == r).map fun u=>dh (dd u)
theorem BY{ws:List Wk}{dd:Wk->D}{r:Nat}{h:Str}:(nF ws dd r).contains h=gG ws dd h r:=by
 unfold nF gG;rw[bQ,cO,cc,bR];constructor
 ·rintro⟨u,b,e⟩;obtain⟨h1,h2⟩:=aA.mp b;exact⟨u,h1,by rw[h2,e];simp⟩
 ·rintro⟨u,b,e⟩;rw[bA1,beq_iff_eq (a:=dh (dd u))]at e;exact⟨u,aA.mpr ⟨b,e.1⟩,e.2⟩
theorem pd{ws:List Wk}{cs:List Nat}{S:Sto}:dQ (dU ws cs) (.int 0) S=some (.tup (ee ws),S):=rfl
theorem C5{ws:List Wk}{cs:List Nat}{S:Sto}:dQ (dU ws cs) (.int 1) S=some (.tup (eI cs),S):=rfl
theorem w8{m:Nat}{w:ed}{ws:List Wk}{cs:List Nat}{dd:Wk->D}{n:Nat}{S:Sto}{Q:D×Sto->Prop}(z:w.length=m)(hm:m<=8)(hd:∀ u∈ws,fT (dd u))(U:ws.length<=8)(F:S[n]? = some (.lst (ws.map dd)))(v:S.all (Ob.und S.length)=true)(q:Q (.tup (eI (d9 m ws dd cs)),S)):W (dS 3 ft [webD w,dU ws cs,.ref n] S) Q:=by
 refine m7 rfl (by simp[D.unds,D.und]) ?_;unfold ft;refine mW ?_;unfold i4;have O:=(gE1.mp F).1;refine eA (fun r V=>V=S++[.lst (eI [])]/\r=[some (webD w),some (dU ws cs),some (.ref n),some (.ref S.length),none,none]) ?_ ?_
 ·walk_at"w";exact⟨rfl,trivial⟩
 rintro r V ⟨L,rfl⟩;refine eA (fun r V=>∃G a c,V=S ++ .lst (eI (d9 m ws dd cs))::G/\r=[some (webD w),some (dU ws cs),some (.ref n),some (.ref S.length),a,c]) ?_ ?_
 ·((try walk_at"w");repeat(simp only[vg];try walk_at"w"))
  rw[ll,Int.toNat_natCast,z];refine⟨fN (by lia),?_⟩;refine fL (fun i r V=>∃G a c,i<=m/\V=S ++ .lst (eI (d9 i ws dd cs))::G/\r=[some (webD w),some (dU ws cs),some (.ref n),some (.ref S.length),a,c]) _ 0 _ _ ⟨[],_,_,by lia,L,rfl⟩ (fun _ _ _ _=>rfl) ?_ ?_
  ·rintro i d g r H ⟨G,a,c,hi,rfl,rfl⟩;have s:=(gE1.mp g).1;rw[lM1,dq]at s;rw[bN]at *
   have A:d = .int (i:Nat):=by
    rw[gP1,cI s]at g;exact(Option.some.inj g).symm
   subst A;walk_at"w";unfold hA;have E:(S++Ob.lst (eI (d9 i ws dd cs))::G)[n]?=some (.lst (ws.map dd)):=by rw[gL1 O];exact F
   have I:(S++Ob.lst (eI (d9 i ws dd cs))::G)[S.length]?=some (.lst (eI (d9 i ws dd cs))):=by rw[d7];rfl
   refine eA (fun r V=>V=S ++ .lst (eI (d9 i ws dd cs))::G++[.lst ((nF ws dd i).map D.str)]/\r=[some (webD w),some (dU ws cs),some (.ref n),some (.ref S.length),some (.int (i:Nat)),some (.ref (S++Ob.lst (eI (d9 i ws dd cs))::G).length)]) ?_ ?_
   ·unfold d6;rw[dZ,ji];refine qk (xs:=ee ws) (ys:=ws.map dd) (n:=n) rfl E ?_;dsimp only;rw[ee,lV];refine gO (fun u:Wk=>u.1 == i) (fun u:Wk=>D.str (dh (dd u))) (fun r=>∃x y,r=[x,y,some (.int (i:Nat))]) (gp E) ws _ ⟨_,_,rfl⟩ ?_ fun X _=>?_
    ·rintro u P r ⟨x,y,rfl⟩
     ((try walk_at"w");repeat(simp only[vm];try walk_at"w"))
     refine⟨?_,⟨_,_,rfl⟩,fun _=>?_⟩
     ·rw[bQ,beq_iff_eq,beq_iff_eq];lia
     ·((try walk_at"w");repeat(simp only[vn (hd u P)];try walk_at"w"))
    ·have e:(ws.filter fun u:Wk=>u.1 == i).map (fun u:Wk=>D.str (dh (dd u)))=(nF ws dd i).map D.str:=by unfold nF;rw[bt];rfl
     rw[e];have p:=df (fun u:Wk=>u.1 == i) ws;refine⟨d4 (by dsimp only;unfold nF;rw[lM1,lM1];lia),?_⟩;walk_at"w"
   rintro r k ⟨j,rfl⟩;have J:k[(S++Ob.lst (eI (d9 i ws dd cs))::G).length]?=some (.lst ((nF ws dd i).map D.str)):=by rw[j,d7];rfl
   have C:k[S.length]?=some (.lst (eI (d9 i ws dd cs))):=by rw[j,gL1 (gE1.mp I).1];exact I
   have f:k=S++Ob.lst (eI (d9 i ws dd cs))::(G++[Ob.lst ((nF ws dd i).map D.str)]):=by rw[j];simp
   have o:k.set S.length (.lst (eI (d9 i ws dd cs)++[.int (i:Nat)]))=S++Ob.lst (eI (d9 i ws dd cs++[i]))::(G++[Ob.lst ((nF ws dd i).map D.str)]):=by
    rw[f,cZ _ _ (nR1 _),cN,c4];simp[eI]
   have B:∀b:Bool,(gG ws dd "mark" i||(cs.contains i && !gG ws dd "wipe" i))=b->d9 (i+1) ws dd cs=if b=true then d9 i ws dd cs++[i]else d9 i ws dd cs:=fun b M=>by
    unfold d9;rw[List.range_succ,List.filter_append,da,M];cases b<;>simp
   have R:(d9 i ws dd cs).length<=8:=by
    have:=df (fun r=>gG ws dd "mark" r||(cs.contains r && !gG ws dd "wipe" r)) (List.range i);rw[dq]at this;exact aC this (by lia)
   generalize T:(S++Ob.lst (eI (d9 i ws dd cs))::G).length=p at *
   have app:∀ Q':D×Sto->Prop,Q' (.non,S++Ob.lst (eI (d9 i ws dd cs++[i]))::(G++[Ob.lst ((nF ws dd i).map D.str)])) ->
     W (qp (b2 kg) (mV 3) (dM (mV 4) dN) [some (webD w),some (dU ws cs),some (.ref n),some (.ref S.length),some (.int (i:Nat)),some (.ref p)] k) Q':=fun Q' N=>by
    refine js ?_;walk_at"w";refine⟨S.length,_,rfl,C,?_⟩;refine(oW C).mpr ⟨d4 (by rw[io];lia),?_⟩;rw[o];exact N
   unfold hE;rw[dZ]
   ((try walk_at"w");repeat(simp only[BW J,tN J,C5,zn,BY];try walk_at"w"))
   have l:(gG ws dd "mark" i||(cs.contains i && !gG ws dd "wipe" i))=true->W (qp (b2 kg) (mV 3) (dM (mV 4) dN) [some (webD w),some (dU ws cs),some (.ref n),some (.ref S.length),some (.int (i:Nat)),some (.ref p)] k) fun x=>∃G a c,i+1<=m/\x.2=S++Ob.lst (eI (d9 (i+1) ws dd cs))::G/\[some (webD w),some (dU ws cs),some (D.ref n),some (.ref S.length),some (.int (i:Nat)),some (.ref p)]=[some (webD w),some (dU ws cs),some (.ref n),some (.ref S.length),a,c]:=fun h=>by
    have h2:=B true h;rw[if_pos rfl]at h2;exact app _ ⟨_,_,_,by lia,by rw[h2],rfl⟩
   have K:(gG ws dd "mark" i||(cs.contains i && !gG ws dd "wipe" i))=false -> ∃G a c,i+1<=m/\k=S++Ob.lst (eI (d9 (i+1) ws dd cs))::G/\[some (webD w),some (dU ws cs),some (D.ref n),some (.ref S.length),some (.int (i:Nat)),some (.ref p)]=[some (webD w),some (dU ws cs),some (.ref n),some (.ref S.length),a,c]:=fun h=>by
    have h2:=B false h;rw[if_neg (by decide)]at h2;exact⟨_,_,_,by lia,by rw[h2];exact f,rfl⟩
   generalize gG ws dd "mark" i=b1 at *
   generalize cs.contains i=b2 at *
   generalize gG ws dd "wipe" i=b3 at *
   cases b1
   ·rw[if_neg (by decide)];cases b2
    ·rw[if_neg (by decide)];exact K rfl
    ·rw[if_pos rfl];cases b3
     ·rw[if_pos (by decide)];exact l rfl
     ·rw[if_neg (by decide)];exact K rfl
   ·rw[if_pos rfl];exact l rfl
  ·rintro r H ⟨G,a,c,hi,rfl,rfl⟩;rw[lM1,dq,bN];exact⟨rfl,_,_,_,rfl,rfl⟩
 rintro r H ⟨G,a,c,t,rfl⟩;walk_at"w";refine et (xs:=eI (d9 m ws dd cs)) (by rw[t,d7];rfl) ?_;rw[pZ (by rw[D.und];exact pO _) v (by rw[t];exact bu _ _)];exact q
theorem Ce{F:List (TK×D)}{n:Nat}{S:Sto}(h:S[n]?=some (dO F)):wZ S n=some F:=by
 unfold wZ;rw[h];cases F<;>rfl
structure RL (e:E4)(F:List (TK×D))(L:List Rw):Prop where
 inc:C1 e L
 ok:∀p∈L,no p
 len:L.length<=4000
 lk:∀k:Ky,k.Ok->dV F (k.tk e)=(L.find? fun p=>decide (p.1.code e=k.code e)).map (·.2)
theorem GQ{e:E4}{F:List (TK×D)}{L:List Rw}{k:Ky}{n:Nat}{S:Sto}{a b c:FE}{r:Ev}{Q:D×Sto->Prop}(f:RL e F L)(hk:k.Ok)(ha:a r S=some (.ref n,S))(d:S[n]?=some (dO F))(hb:b r S=some (k.d e,S))(hc:c r S=some (uc k,S))(q:Q (kl e L k,S)):W (pR a b c r S) Q:=by
 refine W.of (x:=(kl e L k,S)) ?_ q;simp only[pR,ha,hb,hc,oS1,Ce d,k.keyT e];rw[oP1,f.lk k hk];rfl
theorem BB{m:Nat}{w:ed}{ws:List Wk}{cs:List Nat}{e:E4}{F:List (TK×D)}{L:List Rw}{n:Nat}{S:Sto}{Q:D×Sto->Prop}(h:jy m w ws cs)(rl:RL e F L)(hS:S[n]? = some (dO F))(H:S.all (Ob.und S.length)=true)(q:Q (oQ m w ws cs e L,S)):
  W (dS 4 ga [webD w,eyD e,.ref n,dU ws cs] S) Q:=by
 refine m7 rfl (by simp[D.unds,D.und]) ?_;unfold ga
 refine mW ?_;unfold lC
 have hn:=(gE1.mp hS).1;have hf:=h.few;have T:∀u∈ws,fT (ddW w ws cs e L u):=fun u A=>zN rl.ok (h.ky u A);have sl:∀a b:Ob,(S++[a,b])[S.length]?=some a:=fun a b=>by rw[d7];rfl
 have I:∀a b:Ob,(S++[a,b])[S.length+1]?=some b:=fun a b=>by rw[gr];rfl
 have st:∀a b c:Ob,(S++[a,b]).set S.length c=S++[c,b]:=fun a b c=>by rw[cZ _ _ (nR1 _),cN];rfl
 have R:∀a b c:Ob,(S++[a,b]).set (S.length+1) c=S++[a,c]:=fun a b c=>by rw[cZ _ _ (by lia),show S.length+1-S.length=1 by lia];rfl
 have Z:∀a b:Ob,(S++[a,b])[n]?=some (dO F):=fun a b=>by rw[gL1 hn];exact hS
 refine eA (fun r V=>V=S++[.lst [],.lst []]/\r=[some (webD w),some (eyD e),some (.ref n),some (dU ws cs),some (.ref S.length),some (.ref (S.length+1)),none,none,none,none,none,none,none]) ?_ ?_
 ·walk_at"w"
 rintro r V ⟨rfl,rfl⟩;refine eA (fun r V=>∃j x,V=S++[.lst (ws.map (ddW w ws cs e L)),.lst []]/\r=[some (webD w),some (eyD e),some (.ref n),some (dU ws cs),some (.ref S.length),some (.ref (S.length+1)),j,x,none,none,none,none,none]) ?_ ?_
 ·((try walk_at"w");repeat(simp only[pd,fV,i8];try walk_at"w"))
  rw[ll,Int.toNat_natCast];refine⟨fN (by lia),?_⟩;refine fL (fun i r V=>∃j x,i<=ws.length/\V=S++[.lst ((ws.take i).map (ddW w ws cs e L)),.lst []]/\r=[some (webD w),some (eyD e),some (.ref n),some (dU ws cs),some (.ref S.length),some (.ref (S.length+1)),j,x,none,none,none,none,none]) _ 0 _ _ ⟨_,_,by lia,rfl,rfl⟩ (fun _ _ _ _=>rfl) ?_ ?_
  ·rintro i d y r N ⟨j,x,hi,rfl,rfl⟩;have z:=(gE1.mp y).1;rw[lM1,dq]at z;rw[bN]at *
   have U:d = .int (i:Nat):=by
    rw[gP1,cI z]at y;exact(Option.some.inj y).symm
   subst U;walk_at"w";unfold jo;obtain⟨u,A⟩:∃u,ws[i]?=some u:=⟨_,gG1 z⟩;have B:=gM1 A;obtain⟨g,M,_⟩:=h.wk u B;have P:∀f,dQ (.tup (ee ws)) (.int (i:Nat)) f=some (fq u,f):=fun f=>by
    obtain⟨p,e,h⟩:W (dQ (.tup (ee ws)) (.int (i:Nat)) f) fun p=>p=(fq u,f):=gl (by rw[ee,gP1,A];rfl) rfl;rw[e,h]
   refine eA (fun r V=>V=S++[.lst ((ws.take i).map (ddW w ws cs e L)),.lst []]/\r=[some (webD w),some (eyD e),some (.ref n),some (dU ws cs),some (.ref S.length),some (.ref (S.length+1)),some (.int (i:Nat)),some (.int u.2.2),none,none,none,none,none]) ?_ ?_
   ·((try walk_at"w");repeat(simp only[pd,P,pT];try walk_at"w"))
   rintro r N ⟨rfl,rfl⟩;unfold fx;rw[dZ];refine js ?_;walk_at"w";refine⟨S.length,_,rfl,sl _ _,?_⟩;have es:W (eQ (dM (mV 7) (dM (mN (dS 4 eO) (dM (mV 0) (dM (mV 1) (dM (mV 3) (dM (mV 6) dN))))) dN)) [some (webD w),some (eyD e),some (.ref n),some (dU ws cs),some (.ref S.length),some (.ref (S.length+1)),some (.int (i:Nat)),some (.int u.2.2),none,none,none,none,none] (S++[.lst ((ws.take i).map (ddW w ws cs e L)),.lst []])) fun p=>p=((ky w ws cs u).d e,S++[.lst ((ws.take i).map (ddW w ws cs e L)),.lst []]):=by
    walk_at"w";refine rJ A M (by lia) ?_;walk_at"w";rw[pA M];rfl
   obtain⟨p,es,rfl⟩:=es;refine GQ (n:=n) (F:=F) (L:=L) (e:=e) (k:=ky w ws cs u) rl (h.ky u B) rfl (Z _ _) es rfl ?_;walk_at"w";refine(oW (sl _ _)).mpr ⟨d4 (by rw[lM1,aR];lia),?_⟩;refine⟨_,_,by lia,?_,rfl⟩;rw[st,cD,A,cC];rfl
  ·rintro r N ⟨j,x,hi,rfl,rfl⟩;rw[lM1,dq,bN,bY];exact⟨rfl,_,_,rfl,rfl⟩
 rintro r V ⟨j,x,rfl,rfl⟩;refine eA (fun r V=>∃j x C E v s l,V=S++[.lst (ws.map (ddW w ws cs e L)),.lst (ee (ws.map fun u=>eD w u (ddW w ws cs e L u)))]/\r=[some (webD w),some (eyD e),some (.ref n),some (dU ws cs),some (.ref S.length),some (.ref (S.length+1)),j,x,C,E,v,s,l]) ?_ ?_
 ·unfold iE;rw[dZ];refine qk (xs:=ee ws) (ys:=ws.map (ddW w ws cs e L)) (n:=S.length) rfl (sl _ _) ?_;dsimp only;have ezz:sP (ee ws) (ws.map (ddW w ws cs e L))=ws.map fun u=>D.tup [fq u,ddW w ws cs e L u]:=lV ws;rw[ezz];refine fL (fun i r V=>∃j x C E v s l,i<=ws.length/\V=S++[.lst (ws.map (ddW w ws cs e L)),.lst (ee ((ws.take i).map fun u=>eD w u (ddW w ws cs e L u)))]/\r=[some (webD w),some (eyD e),some (.ref n),some (dU ws cs),some (.ref S.length),some (.ref (S.length+1)),j,x,C,E,v,s,l]) _ 0 _ _ ⟨_,_,_,_,_,_,_,by lia,rfl,rfl⟩ (fun _ _ V ⟨_,_,_,_,_,_,_,_,hv,_⟩=>by rw[hv];exact gp (sl _ _)) ?_ ?_
  ·rintro i d y r N ⟨j,x,C,E,v,s,l,hi,rfl,rfl⟩;have z:=(gE1.mp y).1;rw[lM1]at z;rw[bN]at *
   obtain ⟨u,A⟩:∃ u,ws[i]? = some u:=⟨_,gG1 z⟩;have B:=gM1 A;obtain ⟨g,M,_⟩:=h.wk u B;rw [gP1,A] at y;obtain rfl:d=D.tup [fq u,ddW w ws cs e L u]:=(Option.some.inj y).symm;have hx:=T u B;have G:eD w u (ddW w ws cs e L u)=match dt (ddW w ws cs e L u) with
     |some t=>match g[t]? with
      |some p=>(p.1,p.2+1,dm (ddW w ws cs e L u))
      |none=>(u.1,u.2.1,dm (ddW w ws cs e L u))
     |none=>(u.1,u.2.1,dm (ddW w ws cs e L u)):=by
    unfold eD;rw[M];rfl
   have eT:(ws.take (i+1)).map (fun u=>eD w u (ddW w ws cs e L u))=(ws.take i).map (fun u=>eD w u (ddW w ws cs e L u))++[eD w u (ddW w ws cs e L u)]:=by
    rw[cD,A,cC];rfl
   have ex:=hx.eta.1;generalize hX:ddW w ws cs e L u=X at *
   generalize hm:dm X=dmx at *
   generalize hh:dh X=dhx at *
   generalize ht:dt X=dtx at *
   have P:fq u = .tup [.int u.1,.int u.2.1,.int u.2.2]:=rfl;rw[P,ex];walk_at"w";unfold jn;have K:∀f,dQ (webD w) (.int (u.1:Nat)) f=some (.tup (g.map pD),f):=fun f=>by
    obtain⟨p,e,h⟩:W (dQ (webD w) (.int (u.1:Nat)) f) fun p=>p=(.tup (g.map pD),f):=vX M rfl;rw[e,h]
   have lw:((ws.take i).map fun u=>eD w u (ddW w ws cs e L u)).length<=8:=by rw[lM1,aR];lia
   have J:∀(a b:Nat) (j:Option D),eD w u X=(a,b,dmx)->W (fx (qp (b2 kg) (mV 5) (dM (eQ (dM (mV 8) (dM (mV 9) (dM (mV 10) dN)))) dN)) [some (webD w),some (eyD e),some (.ref n),some (dU ws cs),some (.ref S.length),some (.ref (S.length+1)),j,some (.int u.2.2),some (.int (a:Nat)),some (.int (b:Nat)),some (.int (dmx:Nat)),some (.str dhx),some (tD dtx)] (S++[.lst (ws.map (ddW w ws cs e L)),.lst (ee ((ws.take i).map fun u=>eD w u (ddW w ws cs e L u)))])) fun q=>q.1 = .nx /\ ∃j x C E v s l,i+1<=ws.length/\q.2.2=S++[.lst (ws.map (ddW w ws cs e L)),.lst (ee ((ws.take (i+1)).map fun u=>eD w u (ddW w ws cs e L u)))]/\q.2.1=[some (webD w),some (eyD e),some (.ref n),some (dU ws cs),some (.ref S.length),some (.ref (S.length+1)),j,x,C,E,v,s,l]:=by
    intro a b j hst;unfold fx;rw[dZ];refine js ?_;walk_at"w";refine⟨S.length+1,_,rfl,I _ _,?_⟩;refine(oW (I _ _)).mpr ⟨d4 (by rw[i8];lia),?_⟩;refine⟨_,_,_,_,_,_,_,by lia,?_,rfl⟩;rw[R,eT,hst];simp[ee,fq]
   cases dtx with
   |none=>
    dsimp only at G;refine eA (fun r V=>V=S++[.lst (ws.map (ddW w ws cs e L)),.lst (ee ((ws.take i).map fun u=>eD w u (ddW w ws cs e L u)))]/\r=[some (webD w),some (eyD e),some (.ref n),some (dU ws cs),some (.ref S.length),some (.ref (S.length+1)),j,some (.int u.2.2),some (.int u.1),some (.int u.2.1),some (.int (dmx:Nat)),some (.str dhx),some (tD none)]) ?_ ?_
    ·have O:gM (tD none) .non (S++[.lst (ws.map (ddW w ws cs e L)),.lst (ee ((ws.take i).map fun u=>eD w u (ddW w ws cs e L u)))])=some (.bl false,S++[.lst (ws.map (ddW w ws cs e L)),.lst (ee ((ws.take i).map fun u=>eD w u (ddW w ws cs e L u)))]):=rfl
     ((try walk_at"w");repeat(simp only[O];try walk_at"w"))
    rintro r V ⟨rfl,rfl⟩;exact J u.1 u.2.1 j G
   |some t=>
    dsimp only at G;have O:∀f,gM (tD (some t)) .non f=some (.bl true,f):=fun f=>rfl;have el:∀f,xp (tD (some t)) (.int (g.length:Nat)) f=some (.bl (decide ((t:Int)<(g.length:Int))),f):=fun f=>rfl;by_cases hl:t<g.length
    ·have eg:=gG1 hl;rw [eg] at G;have Y:∀ f,dQ (.tup (g.map pD)) (tD (some t)) f=some (pD g[t],f):=fun f=>by
      obtain⟨p,e,h⟩:W (dQ (.tup (g.map pD)) (.int (t:Nat)) f) fun p=>p=(pD g[t],f):=gl (by rw[gP1,eg];rfl) rfl;show dQ (.tup (g.map pD)) (.int (t:Nat)) f=_;rw[e,h]
     generalize g[t]=p at *
     refine eA (fun r V=>V=S++[.lst (ws.map (ddW w ws cs e L)),.lst (ee ((ws.take i).map fun u=>eD w u (ddW w ws cs e L u)))]/\r=[some (webD w),some (eyD e),some (.ref n),some (dU ws cs),some (.ref S.length),some (.ref (S.length+1)),j,some (.int u.2.2),some (.int p.1),some (.int ((p.2+1:Nat):Int)),some (.int (dmx:Nat)),some (.str dhx),some (tD (some t))]) ?_ ?_
     ·have p0:∀f,dQ (pD p) (.int 0) f=some (.int p.1,f):=fun f=>rfl;have p1:∀f,dQ (pD p) (.int 1) f=some (.int p.2,f):=fun f=>rfl
      ((try walk_at"w");repeat(simp only[O,K,fV,lM1,el];try walk_at"w"))
      rw[if_pos (by rw[decide_eq_true_eq];lia)]
      ((try walk_at"w");repeat(simp only[K,Y,p0,p1];try walk_at"w"))
      rw[show(1:Int)+(p.2:Int)=((p.2+1:Nat):Int) by lia]
     rintro r V ⟨rfl,rfl⟩;exact J p.1 (p.2+1) j G
    ·rw[b4 (by lia)]at G;refine eA (fun r V=>V=S++[.lst (ws.map (ddW w ws cs e L)),.lst (ee ((ws.take i).map fun u=>eD w u (ddW w ws cs e L u)))]/\r=[some (webD w),some (eyD e),some (.ref n),some (dU ws cs),some (.ref S.length),some (.ref (S.length+1)),j,some (.int u.2.2),some (.int u.1),some (.int u.2.1),some (.int (dmx:Nat)),some (.str dhx),some (tD (some t))]) ?_ ?_
     ·((try walk_at"w");repeat(simp only[O,K,fV,lM1,el];try walk_at"w"))
      rw[if_neg (by rw[decide_eq_true_eq];lia)];trivial
     rintro r V ⟨rfl,rfl⟩;exact J u.1 u.2.1 j G
  ·rintro r N ⟨j,x,C,E,v,s,l,hi,rfl,rfl⟩;rw[lM1,bN,bY];exact⟨rfl,_,_,_,_,_,_,_,rfl,rfl⟩
 rintro r V ⟨j,x,C,E,v,s,l,rfl,rfl⟩;walk_at"w";refine et (I _ _) ?_;refine w8 (dd:=ddW w ws cs e L) h.web.len h.m8 T h.few (sl _ _) ?_ ?_
 ·rw[dk,bA1,lA1];rw[bB]at H;refine⟨bB.mpr fun o ho=>jW (bq _ _) (H o ho),?_⟩;rw[bP,bP,Ob.und,Ob.und,gX (jG _),Mi.eM fun u A=>fz (T u A).und];rfl
 walk_at"w";have Y:D.tup [.tup (ee (ws.map fun u=>eD w u (ddW w ws cs e L u))),.tup (eI (d9 m ws (ddW w ws cs e L) cs))]=oQ m w ws cs e L:=rfl;rw[Y,pZ (d:=oQ m w ws cs e L) fG H (bu _ _)];exact q
noncomputable def pk:List D:=[.non,.int 0,.int 1,.int 2,.int 3,.int 0,.int 1]
noncomputable def mQ:List D:=[.str "leave",.str "wipe",.str "mark",.str "mark"]
theorem wd:∀x∈pk,x∈k4:=by
 intro x a;simp only[pk,aF,bL,or_false]at a;rcases a with e|e|e|e|e|e|e<;>subst e<;>simp[k4]
theorem wP:∀x∈mQ,x∈mR:=by
 intro x a;simp only[mQ,aF,bL,or_false]at a;rcases a with e|e|e|e<;>subst e<;>simp[mR]
theorem E8{o:Ob}{n:Nat}{T:Sto}{Q:D×Sto->Prop}(ho:gm o n)(hn:n<=2^45)(h:T.all (Ob.und (T.length+1))=true)(q:∀x o',fT x->gm o' (n+5)->Q (x,o'::T)):W (dS 1 f0 [.ref 0] (o::T)) Q:=by
 refine vP rfl rfl h ?_;unfold f0;refine mW ?_;unfold lB;refine eA (fun r S=>∃(t:D) (e:Ob),t∈k4/\gm e (n+1)/\S=e::T/\r=[some (.ref 0),some t]) ?_ ?_
 ·walk_at"w";refine fi ho (by lia) (by lia) (by lia) fun y b a k=>?_;refine gl (i:=y) (xs:=pk) (x:=pk[y]'(by show y<7;lia)) (gG1 _) ?_;exact⟨_,b,wd _ (bS _),a,rfl,rfl⟩
 rintro r S ⟨t,e,g,d,rfl,rfl⟩;walk_at"w";refine fi d (by lia) (by lia) (by lia) fun m j c l=>?_;walk_at"w";refine fi c (by lia) (by lia) (by lia) fun x b a p=>?_;refine gl (i:=x) (xs:=mQ) (x:=mQ[x]'(by show x<4;lia)) (gG1 _) ?_;walk_at"w";have f:fT (.tup [.int (m:Nat),mQ[x]'(by show x<4;lia),t]):=⟨m,_,_,rfl,by lia,wP _ (bS _),g⟩;exact⟨_,b,[],by rw[aN],f.und,a.und,q _ b f (a.more (by lia))⟩
structure RN (e:E4)(F:List (TK×D)):Prop where
 row:∀p∈F,∃k:Ky,k.Ok/\p.1=k.tk e/\(fT p.2\/p.2 = .non)
 nd:(F.map (·.1)).Nodup
theorem RN.nil{e:E4}:RN e []:=⟨fun p a=>(by cases a),bn⟩
theorem RN.vu{e:E4}{F:List (TK×D)}(h:RN e F){p:TK×D}(hp:p∈F)(n:Nat):p.2.und n=true:=by
 obtain⟨_,_,_,a⟩:=h.row p hp;rcases a with a|a
 ·exact fz a.und
 ·rw[a];rfl
theorem RN.und{e:E4}{F:List (TK×D)}(h:RN e F)(n:Nat):(dO F).und n=true:=by
 have:D.unds n (F.map (·.2))=true:=Mi.eM fun p a=>h.vu a n;cases F with
 |nil=>rfl
 |cons _ _=>exact this
theorem RN.put{e:E4}{F:List (TK×D)}{k:Ky}{x:D}(h:RN e F)(hk:k.Ok)(hx:fT x\/x = .non):RN e (eV F (k.tk e) x):=by
 unfold eV;split
 ·refine⟨fun p c=>?_,?_⟩
  ·obtain⟨g,d,rfl⟩:=cc.mp c;obtain⟨l,h1,h2,j⟩:=h.row g d;by_cases z:g.1=k.tk e
   ·rw[if_pos z];exact⟨l,h1,h2,hx⟩
   ·rw[if_neg z];exact⟨l,h1,h2,j⟩
  ·rw [bt];have:(F.map ((fun p:TK×D=>p.1)∘fun p=>if p.1=k.tk e then (p.1,x) else p))=F.map (·.1):=by
    apply c9;intro p _;simp only[Function.comp];split<;>rfl
   rw[this];exact h.nd
 ·rename_i n;refine⟨fun p c=>?_,?_⟩
  ·rcases aG.mp c with z|z
   ·exact h.row p z
   ·simp at z;subst z;exact⟨k,hk,rfl,hx⟩
  ·rw[cC,bw];refine⟨h.nd,by simp,fun a m b f z=>?_⟩;simp at f;subst f;subst z;obtain⟨p,c,i⟩:=cc.mp m;exact n (bR.mpr ⟨p,c,decide_eq_true i⟩)
theorem Ea{S:Sto}{n:Nat}{F:List (TK×D)}{d:D}{k:TK}(h:S[n]?=some (dO F))(hk:keyT d=some k):jh d (.ref n) S=some (.bl (!(dV F k).isSome),S):=by
 cases F with
 |nil=>
  have h':S[n]?=some (.dct []):=h;simp only[jh,h',hk];rfl
 |cons p F=>
  have h':S[n]?=some (.dcT (p::F)):=h;simp only[jh,fv,h',hk,oP1]
theorem gc_same{n:Nat}{p:D×Sto}(h:p.2.length=n):gc n p=p:=by
 unfold gc;rw[<- h,bY];split<;>rfl
noncomputable def Sub(F F':List (TK×D)):Prop:=∀k d,dV F k=some d->dV F' k=some d
theorem Sub.refl(F:List (TK×D)):Sub F F:=fun _ _ h=>h
theorem Sub.trans{F G J:List (TK×D)}(a:Sub F G)(b:Sub G J):Sub F J:=fun k d h=>b k d (a k d h)
theorem Sub.put{F a:List (TK×D)}{k:TK}{v:D}(s:Sub F a)(h:(dV F k).isSome=false):Sub F (eV a k v):=fun b d e=>by
 rw[rL];split
 ·rename_i z;subst z;rw[e]at h;cases h
 ·exact s b d e
theorem AN{F:List (TK×D)}{k:TK}{a b:D}:eV (eV F k a) k b=eV F k b:=by
 by_cases h:(F.any fun p=>decide (p.1=k))=true
 ·have h2:((F.map fun p=>if p.1=k then (p.1,a) else p).any fun p=>decide (p.1=k))=true:=by
   obtain⟨p,c,e⟩:=bR.mp h;have e:=of_decide_eq_true e;exact bR.mpr ⟨(p.1,a),cc.mpr ⟨p,c,by rw[if_pos e]⟩,decide_eq_true e⟩
  unfold eV;rw[if_pos h,if_pos h2,if_pos h,bt];apply c9;intro p _;simp only[Function.comp];by_cases z:p.1=k
  ·rw[if_pos z,if_pos z,if_pos z]
  ·rw[if_neg z,if_neg z]
 ·have h2:((F++[(k,a)]).any fun p=>decide (p.1=k))=true:=bR.mpr ⟨(k,a),mA1 _ (cV.mpr rfl),decide_eq_true rfl⟩;unfold eV;rw [if_neg h,if_neg h,if_pos h2,cC];have e:F.map (fun p=>if p.1=k then (p.1,b) else p)=F:=by
   conv=>rhs;rw[<- List.map_id F]
   apply c9;intro p c;rw[if_neg fun z=>h (bR.mpr ⟨p,c,decide_eq_true z⟩)];rfl
  rw[e];simp
theorem B0{m:Nat}{w:ed}{ws:List Wk}{cs:List Nat}{e:E4}{F:List (TK×D)}{o:Ob}{n:Nat}{T:Sto}{Q:D×Sto->Prop}(h:jy m w ws cs)(Y:RN e F)(hT:T.all (Ob.und 0)=true)(ho:gm o n)(hn:n<=2^40)(hl:F.length<=10000)(q:∀l o',RN e l->l.length<=F.length+ws.length->gm o' (n+100)->Sub F l->(∀u∈ws,(dV l ((ky w ws cs u).tk e)).isSome=true)->Q (.non,o'::dO l::T)):
  W (dS 5 fK [.ref 0,webD w,eyD e,.ref 1,dU ws cs] (o::dO F::T)) Q:=by
 refine m7 rfl rfl ?_;unfold fK;refine mW ?_;unfold kw;have hf:=h.few;have U:∀F,RN e F->(dO F::T).all (Ob.und ((dO F::T).length+1))=true:=fun F Y=>by
  rw[bP,Y.und,Bool.true_and,bB];exact fun x hx=>jW (bh _) (bB.mp hT x hx)
 ((try walk_at"w");repeat(simp only[pd,fV,i8];try walk_at"w"))
 rw[ll,Int.toNat_natCast];refine⟨fN (by lia),?_⟩;refine fL (fun i r S=>∃l o' Z O,i<=ws.length/\RN e l/\l.length<=F.length+i/\gm o' (n+10*i)/\Sub F l/\(∀j u,j<i->ws[j]?=some u->(dV l ((ky w ws cs u).tk e)).isSome=true)/\S=o'::dO l::T/\r=[some (.ref 0),some (webD w),some (eyD e),some (.ref 1),some (dU ws cs),Z,O]) _ 0 _ _ ⟨F,o,_,_,by lia,Y,by lia,ho,Sub.refl F,fun j u N _=>by lia,rfl,rfl⟩ (fun _ _ _ _=>rfl) ?_ ?_
 ·rintro i d C r S ⟨a,A,Z,O,hi,f,L,y,b,g,rfl,rfl⟩;have E:=(gE1.mp C).1;rw[lM1,dq]at E;rw[bN]at *
  have V:d = .int (i:Nat):=by
   rw[gP1,cI E]at C;exact(Option.some.inj C).symm
  subst V;walk_at"w";unfold iM;obtain⟨u,G⟩:∃u,ws[i]?=some u:=⟨_,gG1 E⟩;have J:=gM1 G;obtain⟨row,er,_,hmd⟩:=h.wk u J;have hk:=h.ky u J;have eu:∀K,dQ (.tup (ee ws)) (.int (i:Nat)) K=some (fq u,K):=fun K=>by
   obtain⟨p,e,h⟩:W (dQ (.tup (ee ws)) (.int (i:Nat)) K) fun p=>p=(fq u,K):=gl (by rw[ee,gP1,G];rfl) rfl;rw[e,h]
  refine eA (fun r S=>S=A::dO a::T/\r=[some (.ref 0),some (webD w),some (eyD e),some (.ref 1),some (dU ws cs),some (.int (i:Nat)),some ((ky w ws cs u).d e)]) ?_ ?_
  ·((try walk_at"w");repeat(simp only[pd,eu,pT];try walk_at"w"))
   refine rJ G er (by lia) ?_;rw[pA er];walk_at"w";rfl
  rintro r S ⟨rfl,rfl⟩;have P:∀(M:List (TK×D)),(∀k d,dV a k=some d->dV M k=some d)->(dV M ((ky w ws cs u).tk e)).isSome=true -> ∀j v,j<i+1->ws[j]?=some v->(dV M ((ky w ws cs v).tk e)).isSome=true:=fun M h1 h2 j v N R=>by
   by_cases z:j=i
   ·subst z;rw[G]at R;cases R;exact h2
   ·obtain⟨d,hd⟩:=aQ.mp (g j v (by lia) R);rw[h1 _ _ hd];rfl
  have B:=Ea (S:=A::dO a::T) (n:=1) (F:=a) rfl ((ky w ws cs u).keyT e);cases hin:(dV a ((ky w ws cs u).tk e)).isSome with
  |true=>
   rw[hin]at B
   ((try walk_at"w");repeat(simp only[B];try walk_at"w"))
   exact⟨a,A,_,_,by lia,f,by lia,y.more (by lia),b,P a (fun _ _ h=>h) hin,rfl,rfl⟩
  |false=>
   rw[hin]at B;have s1:=F2 (e:=e) (F:=a) (k:=ky w ws cs u) (x:=.non) (n:=1) (S:=A::dO a::T) rfl (by lia);have H:=f.put hk (x:=.non) (.inr rfl);have l2:(eV a ((ky w ws cs u).tk e) D.non).length<=a.length+1:=uO;have s:∀x,(dV (eV a ((ky w ws cs u).tk e) x) ((ky w ws cs u).tk e)).isSome=true:=fun x=>by rw[rL,if_pos rfl];rfl
   have c:∀x,Sub a (eV a ((ky w ws cs u).tk e) x):=fun x=>(Sub.refl a).put hin
   ((try walk_at"w");repeat(simp only[B,s1];try walk_at"w"))
   refine fi y (by lia) (by lia) (by lia) fun t o2 I ht=>?_;walk_at"w";split
   ·refine E8 I (by lia) (U _ H) fun x o3 hx X=>?_;have s2:=F2 (e:=e) (F:=eV a ((ky w ws cs u).tk e) .non) (k:=ky w ws cs u) (x:=x) (n:=1) (S:=o3::dO (eV a ((ky w ws cs u).tk e) .non)::T) rfl (by lia)
    ((try walk_at"w");repeat(simp only[s2];try walk_at"w"))
    have e2:eV (eV a ((ky w ws cs u).tk e) .non) ((ky w ws cs u).tk e) x=eV a ((ky w ws cs u).tk e) x:=AN;rw[e2];have l3:(eV a ((ky w ws cs u).tk e) x).length<=a.length+1:=uO;exact⟨_,o3,_,_,by lia,f.put hk (.inl hx),by lia,X.more (by lia),b.trans (c x),P _ (c x) (s x),rfl,rfl⟩
   ·exact⟨_,o2,_,_,by lia,H,by lia,I.more (by lia),b.trans (c .non),P _ (c .non) (s .non),rfl,rfl⟩
 ·rintro r S ⟨a,A,Z,O,hi,f,L,y,b,g,rfl,rfl⟩;rw[lM1,dq,bN]at *
  have e1:gc (T.length+2) (D.non,A::dO a::T)=(D.non,A::dO a::T):=gc_same rfl;show Q (gc (T.length+2) (D.non,A::dO a::T));rw[e1];exact q a A f L (y.more (by lia)) b fun u G=>by
   obtain⟨j,N⟩:=bo G;exact g j u (gE1.mp N).1 N
noncomputable def isT:D->Bool
 | .tup _=>true
 |_=>false
noncomputable def dv(d:D):Option D:=if isT d=true then some d else none
noncomputable def gb(F:List (TK×D)):List (TK×D):=F.filter fun p=>isT p.2
noncomputable def uP(p:TK×D):D:=.tup [Mi.tkD p.1,p.2]
theorem fT.isT{x:D}(h:fT x):isT x=true:=by
 obtain⟨_,_,_,rfl,_⟩:=h.is;rfl
theorem j9{e:E4}{F:List (TK×D)}(h:RN e F):RW e (gb F):=by
 refine⟨fun p c=>?_,List.Sublist.nodup (List.Sublist.map _ List.filter_sublist) h.nd⟩;obtain⟨h1,h2⟩:=aA.mp c;obtain⟨k,d,b,a⟩:=h.row p h1;rcases a with a|a
 ·exact⟨k,d,b,a⟩
 ·rw[a]at h2;cases h2
theorem live_len(F:List (TK×D)):(gb F).length<=F.length:=df _ _
theorem oh:∀{F:List (TK×D)} (k:TK),(F.map (·.1)).Nodup->dV (gb F) k=(dV F k).bind dv
 |[],_,_=>rfl
 |(a,d)::F,k,nd=>by
  rw[mP1,aO]at nd;have ih:=oh (F:=F) k nd.2;unfold gb at ih ⊢;rw[da,eL];by_cases z:a=k
  ·have b:dV F k=none:=kM (by
    rw[Bool.eq_false_iff];intro y;obtain⟨p,c,e⟩:=bR.mp y;exact nd.1 (cc.mpr ⟨p,c,(of_decide_eq_true e).trans z.symm⟩))
   rw[b]at ih;rw[if_pos z];cases hd:isT d with
   |true=>rw[if_pos rfl,eL,if_pos z];simp[dv,hd]
   |false=>rw[if_neg (by simp),ih];simp[dv,hd]
  ·rw[if_neg z];cases hd:isT d with
   |true=>rw[if_pos rfl,eL,if_neg z,ih]
   |false=>rw[if_neg (by simp),ih]
theorem vz:∀(ps acc:List (TK×D)),((acc++ps).map (·.1)).Nodup->ps.foldl (fun F p=>eV F p.1 p.2) acc=acc++ps
 |[],acc,_=>by simp
 |p::ps,acc,nd=>by
  have e:eV acc p.1 p.2=acc++[p]:=by
   unfold eV;rw[if_neg];intro y;obtain⟨q,a,e⟩:=bR.mp y;rw[cC,bw]at nd;exact nd.2.2 _ (cc.mpr ⟨q,a,rfl⟩) _ (cc.mpr ⟨p,mS1,rfl⟩) (of_decide_eq_true e)
  rw[b9,e,vz ps (acc++[p]) (by rw[bG];exact nd),bG];rfl
theorem nZ:∀{F:List (TK×D)},(∀p∈F,Mi.keyT (Mi.tkD p.1)=some p.1)->iL (F.map uP)=some F
 |[],_=>rfl
 |p::F,h=>by
  rw[mP1,iL,nZ fun q a=>h q (mC1 _ a)];have:=h p mS1;simp only[uP,uX,this,oP1,oS1]
theorem RN.key{e:E4}{F:List (TK×D)}(h:RN e F){p:TK×D}(hp:p∈F):Mi.keyT (Mi.tkD p.1)=some p.1:=by
 obtain⟨k,_,h2,_⟩:=h.row p hp;rw[h2,k.tkD,k.keyT e]
theorem E9(F:List (TK×D)):Jl F=dO F:=by cases F<;>rfl
theorem AU{e:E4}{F:List (TK×D)}(h:RN e F)(n:Nat):D.unds n ((gb F).map uP)=true:=Mi.eM fun p a=>by
 have a:=(aA.mp a).1;unfold uP;simp only[D.und,D.unds,h.vu a,s0,Bool.and_self]
theorem vf:∀{F:List (TK×D)},(F.map (·.1)).Nodup -> ∀{p:TK×D},p∈F->dV F p.1=some p.2
|[],_,_,hp=>by cases hp
|y::F,nd,p,hp=>by
 rw[mP1,aO]at nd;obtain⟨a,b⟩:=y;rw[eL];rcases aF.mp hp with z|z
 ·subst z;rw[if_pos rfl]
 ·rw[if_neg (fun w=>nd.1 (cc.mpr ⟨p,z,w.symm⟩))];exact vf nd.2 z
theorem uW{e:E4}{F:List (TK×D)}{n:Nat}{r:Ev}{S:Sto}{Q:D×Sto->Prop}(c:RN e F)(o:F.length<=10000)(b:S[n]? = some (dO F))(hr:r[5]? = some (some (.ref n)))(q:Q (.ref S.length,S++[.lst ((gb F).map uP)])):W (kT 1 [5] (mV 5) (gN 0) (mB (m2 (b2 gM) (m2 (b2 dQ) (mV 1) (mV 0)) (mC D.non))) (ev (eQ (dM (mV 0) (dM (m2 (b2 dQ) (mV 1) (mV 0)) dN)))) r S) Q:=by
 have m:=(gE1.mp b).1;have s:mV 5 r S=some (.ref n,S):=by simp[mV,hr]
 have j:nE 1 [5] r=[none,some (.ref n)]:=by simp[nE,hr]
 have d:(S.set n (.dcF F))[n]?=some (.dcF F):=by rw[aI m]
 unfold kT;rw[s,oS1];dsimp only;have v:zj (dO F)=some F:=by cases F<;>rfl
 rw[b,oS1,v,oS1,dZ,j];refine gO (f:=fun q:TK×D=>Mi.tkD q.1) (fun p:TK×D=>isT p.2) uP (fun r=>∃z,r=[z,some (.ref n)]) rfl F _ ⟨_,rfl⟩ ?_ fun w _=>?_
 ·rintro p g r ⟨z,rfl⟩;have u:dQ (.ref n) (Mi.tkD p.1) (S.set n (.dcF F))=some (p.2,S.set n (.dcF F)):=by
   simp only[dQ,d];rw[c.key g,oS1,vf c.nd g];rfl
  have t:gM p.2 .non (S.set n (.dcF F))=some (.bl (isT p.2),S.set n (.dcF F)):=by
   obtain⟨k,_,_,a⟩:=c.row p g;rcases a with a|a
   ·obtain⟨_,_,_,z,_⟩:=a.is;rw[z];rfl
   ·rw[a];rfl
  ((try walk_at"w");repeat(simp only[u,t];try walk_at"w"))
  exact⟨⟨_,rfl⟩,fun _=>⟨rfl,trivial⟩⟩
 ·dsimp only;have l:=live_len F;rw [if_pos (by rw [lM1];exact aC (aC l o) (by decide)),eh,aW,List.set_set];have:S.set n (dO F)=S:=by
   apply bZ;intro i;by_cases h:n=i
   ·subst h;rw[aI m,b]
   ·rw[gS1 h]
  rw[this];exact q
theorem E3{e:E4}{F:List (TK×D)}{n:Nat}{S:Sto}{Q:D×Sto->Prop}(a:RN e F)(d:F.length<=10000)(b:S[n]?=some (.lst ((gb F).map uP)))(q:Q (.ref S.length,S++[dO (gb F)])):W (mT (.ref n) S) Q:=by
 refine W.of ?_ q;unfold mT;rw[gH b];dsimp only;rw[nZ (F:=gb F) fun p c=>a.key (aA.mp c).1,oS1,lM1,if_pos (aC (live_len F) (by lia))];have:lr (gb F)=gb F:=by
  unfold lr;rw[vz _ _ (by rw[cX];exact(j9 a).nd),cX]
 rw[this,E9]
theorem vr{α:Type}{f:α->D}{c:α->Nat}{a:α}:∀ {zs:List α},(∀ b∈zs,jB [] 51 (f a) (f b)=some (decide (c a<c b)))->(∀ b∈zs,c b≠c a)->zs.Pairwise (fun x y=>c x<c y) ->
  ∃ys:List α,wM (f a) (zs.map f)=ys.map f/\ys.Perm (a::zs)/\ys.Pairwise (fun x y=>c x<c y)
 |[],_,_,_=>⟨[a],rfl,.refl _,by simp⟩
 |b::zs,h,hn,hp=>by
  rw[ca]at hp;rw[mP1,wM];have k:=h b mS1;unfold Iw;rw[k];by_cases z:c a<c b
  ·rw[decide_eq_true z,if_pos (show(some true == some true)=true from rfl)];refine⟨a::b::zs,rfl,.refl _,ca.mpr ⟨fun y d=>?_,ca.mpr hp⟩⟩;rcases aF.mp d with rfl|d
   ·exact z
   ·exact bg z (hp.1 y d)
  ·rw[decide_eq_false z,if_neg (by decide)];obtain⟨ys,e,i,j⟩:=vr (fun x g=>h x (mC1 _ g)) (fun x g=>hn x (mC1 _ g)) hp.2;refine⟨b::ys,by rw[e];rfl,(i.cons b).trans (.swap _ _ _),ca.mpr ⟨fun y d=>?_,j⟩⟩;rcases aF.mp (i.mem_iff.mp d)with rfl|d
   ·have:=hn b mS1;lia
   ·exact hp.1 y d
theorem qL{α:Type}{f:α->D}{c:α->Nat}:∀ {ks:List α},(∀ a∈ks,∀ b∈ks,jB [] 51 (f a) (f b)=some (decide (c a<c b)))->(ks.map c).Nodup ->
  ∃zs:List α,jJ (ks.map f)=zs.map f/\zs.Perm ks/\zs.Pairwise (fun x y=>c x<c y)/\lc (zs.map f)=true
 |[],_,_=>⟨[],rfl,.refl _,.nil,rfl⟩
 |a::ks,h,hn=>by
  rw[mP1,aO]at hn;obtain⟨zs,e,o,r,_⟩:=qL (ks:=ks) (fun x j y k=>h x (mC1 _ j) y (mC1 _ k)) hn.2;obtain⟨ys,p,l,g⟩:=vr (a:=a) (zs:=zs) (fun b m=>h a mS1 b (mC1 _ (o.mem_iff.mp m))) (fun b m z=>hn.1 (cc.mpr ⟨b,o.mem_iff.mp m,z⟩)) r;have i:ys.Perm (a::ks):=l.trans (o.cons a);refine⟨ys,by rw[mP1,jJ,e,p],i,g,?_⟩;have k:∀x∈ys,∀y∈ys,jB [] 51 (f x) (f y)=some (decide (c x<c y)):=fun x j y k=>h x (i.mem_iff.mp j) y (i.mem_iff.mp k);clear p l i
  induction ys with
  |nil=>rfl
  |cons y ys ih=>
   rw[ca]at g;rw[mP1,lc,ih g.2 fun x j z q=>k x (mC1 _ j) z (mC1 _ q),bM,bB];intro d s;obtain⟨x,j,rfl⟩:=cc.mp s;unfold oi;have n:=g.1 x j;rw[k y mS1 x (mC1 _ j),k x (mC1 _ j) y mS1,decide_eq_true n,decide_eq_false (by lia)];rfl
theorem Cd{x:D}{S:Sto}{n:Nat}(h:fT x):gf S (n+3) x x=some true:=by
 have e:=h.eta.1;generalize dm x=a at e;generalize dh x=b at e;generalize dt x=c at e;subst e;have d:∀i:Int,gf S (n+2) (.int i) (.int i)=some true:=fun i=>by show some (i == i)=_;simp
 have g:gf S (n+2) (.str b) (.str b)=some true:=by show some (b == b)=_;simp
 have f:gf S (n+2) (tD c) (tD c)=some true:=by
  cases c with
  |none=>rfl
  |some t=>exact d t
 rw[G4,nq,d,oS1,nq,g,oS1,nq,f,oS1,nq];rfl
theorem Dz{e:E4}{p q:Rw}(hp:no p)(a:no q)(h:p.1.code e=q.1.code e->p=q):jB [] 51 (fu e p) (fu e q)=some (decide (p.1.code e<q.1.code e)):=by
 unfold fu;rw[Iv,nD,Ky.eq (n:=47) hp.1 a.1,oS1];by_cases z:p.1.code e=q.1.code e
 ·rw[if_pos (decide_eq_true z),nD];have:=h z;subst this;rw[Cd (n:=47) hp.2,oS1,if_pos rfl,nD];simp
 ·rw[if_neg (by rw[decide_eq_true_eq];exact z),Ky.lt (n:=47) hp.1 a.1]
theorem pl_tk:∀k:TK,pl (Mi.tkD k)=true:=fun k=>k.rec (motive_1:=fun k=>pl (Mi.tkD k)=true) (motive_2:=fun ks=>lQ (Mi.iD ks)=true) rfl (fun _=>rfl) (fun _ ih=>by rw[Mi.tkD,pl];exact ih) rfl (fun _ _ a b=>by rw[Mi.iD,lQ,a,b];rfl)
theorem AY{x:D}(h:fT x):pl x=true:=by
 have e:=h.eta.1;generalize dm x=a at e;generalize dh x=b at e;generalize dt x=c at e;subst e;cases c<;>rfl
theorem uQ{α:Type}{f:α->D}:∀{l:List α},(∀x∈l,pl (f x)=true)->lQ (l.map f)=true
 |[],_=>rfl
 |x::l,h=>by rw[mP1,lQ,h x mS1,uQ fun y a=>h y (mC1 _ a)];rfl
theorem tY{e:E4}:∀L:List Rw,∃f,mP (L.map (fu e))=some f
 |[]=>⟨_,rfl⟩
 |p::L=>by
  refine⟨false,?_⟩;have a:∀q:Rw,iS (fu e q)=some false:=fun q=>rfl;rw[mP1,mP,a];dsimp only;rw[if_pos];rw[bB];intro d b;obtain⟨q,_,rfl⟩:=cc.mp b;rw[a];rfl
theorem l0{e:E4}{F:List (TK×D)}(h:RW e F)(C:F.length<=4000):
  ∃L:List Rw,RL e F L /\ ∀(n:Nat) (S:Sto),S[n]?=some (.lst (F.map uP))->mS (.ref n) S=some (.ref S.length,S++[.lst (L.map (fu e))]):=by
 obtain⟨d,l,ok⟩:=RW.list h.row;have m:∀p∈d,p.1.Ok:=fun p g=>(ok p g).1;have nd:(d.map fun p=>p.1.code e).Nodup:=by
  have:=h.nd;rw[<- l,bt]at this;refine(db.mpr ((db.mp this).imp_of_mem fun{a b} j i q z=>?_));exact q ((uC (m a j) (m b i)).mpr z)
 have inj:∀a∈d,∀b∈d,a.1.code e=b.1.code e->a=b:=fun a j b i z=>by
  have A:=(hI (f:=fun p:Rw=>p.1.code e) (c:=b.1.code e) (a:=a) nd).mpr ⟨j,z⟩;have r:=(hI (f:=fun p:Rw=>p.1.code e) (c:=b.1.code e) (a:=b) nd).mpr ⟨i,rfl⟩;rw[A]at r;exact Option.some.inj r
 obtain⟨L,y,o,t,w⟩:=qL (f:=fu e) (c:=fun p:Rw=>p.1.code e) (ks:=d) (fun a j b i=>Dz (ok a j) (ok b i) (inj a j b i)) nd;have B:d.length=F.length:=by rw[<- l,lM1]
 have v:∀k:Ky,k.Ok->dV F (k.tk e)=(L.find? fun p=>decide (p.1.code e=k.code e)).map (·.2):=fun k x=>by
  have a1:dV F (k.tk e)=(d.find? fun p=>decide (p.1.code e=k.code e)).map (·.2):=by
   rw[<- l];unfold dV;rw[List.find?_map,Option.map_map];have:(d.find? ((fun p:TK×D=>decide (p.1=k.tk e))∘fun p:Rw=>(p.1.tk e,p.2)))=d.find? fun p=>decide (p.1.code e=k.code e):=by
    apply mY;intro p g;simp only[Function.comp];rw[bQ,decide_eq_true_eq,decide_eq_true_eq];exact uC (m p g) x
   rw[this];rfl
  rw[a1,wT (f:=fun p:Rw=>p.1.code e) o nd]
 refine⟨L,⟨t,fun p g=>ok p (o.mem_iff.mp g),by rw[o.length_eq];lia,v⟩,fun n S s=>?_⟩;have ep:F.map uP=d.map (fu e):=by
  rw[<- l,bt];apply c9;intro p _;show D.tup [Mi.tkD (p.1.tk e),p.2]=_;rw[p.1.tkD];rfl
 rw[ep]at s;obtain⟨f,u⟩:=tY (e:=e) d;unfold mS;rw[gH s];dsimp only;have g:lQ (d.map (fu e))=true:=uQ fun p g=>by
  unfold fu;rw[pl,lQ,lQ,lQ,AY (ok p g).2,<- p.1.tkD e,pl_tk];rfl
 rw[u,oS1,y,if_pos (by rw[g,w,lM1,decide_eq_true (by lia)];rfl)]
noncomputable def wX(e:E4)(F:List (TK×D))(k:Ky):D:=((dV F (k.tk e)).bind dv).getD (uc k)
theorem RL.due{e:E4}{F:List (TK×D)}{L:List Rw}(b:RL e (gb F) L)(a:RN e F){k:Ky}(hk:k.Ok):kl e L k=wX e F k:=by
 unfold kl wX;rw[<- b.lk k hk,oh _ a.nd]
theorem zh{F:List (TK×D)}{k:TK}{d:D}(h:dV F k=some d):(k,d)∈F:=by
 unfold dV at h;obtain⟨p,f,e⟩:=oM1.mp h;have c:=List.find?_some f;have g:=List.mem_of_find?_eq_some f;obtain⟨a,b⟩:=p;have c:=of_decide_eq_true c;dsimp only at e c;subst e;subst c;exact g
theorem Cb{e:E4}{F:List (TK×D)}(c:RN e F){k:Ky}(hk:k.Ok):fT (wX e F k):=by
 have b:fT (uc k):=⟨k.m,_,_,rfl,hk.m,by simp[mR],by simp[k4]⟩;unfold wX;cases h:dV F (k.tk e)with
 |none=>exact b
 |some d=>
  obtain⟨_,_,_,a⟩:=c.row _ (zh h);rcases a with a|a
  ·rw[oS1,dv,if_pos a.isT];exact a
  ·dsimp only at a;rw[a];exact b
abbrev Wh:=List Wk×List Nat
noncomputable def gR(a:Wh):D:=dU a.1 a.2
noncomputable def G9(w:ed)(e:E4)(F:List (TK×D))(a:Wh)(u:Wk):D:=wX e F (ky w a.1 a.2 u)
noncomputable def jm(m:Nat)(w:ed)(e:E4)(F:List (TK×D))(a:Wh):Wh:=(a.1.map fun u=>eD w u (G9 w e F a u),d9 m a.1 (G9 w e F a) a.2)
theorem oU{α:Type}{p q:α->Bool}:∀{l:List α},(∀x∈l,p x=q x)->l.any p=l.any q
 |[],_=>rfl
 |x::l,h=>by rw[bc,bc,h x mS1,oU fun y a=>h y (mC1 _ a)]
theorem qh{m:Nat}{ws:List Wk}{f g:Wk->D}{cs:List Nat}(h:∀u∈ws,f u=g u):d9 m ws f cs=d9 m ws g cs:=by
 have:∀s r,gG ws f s r=gG ws g s r:=fun s r=>oU fun u a=>by rw[h u a]
 unfold d9;simp only[this]
theorem lZ{m:Nat}{w:ed}{ws:List Wk}{f g:Wk->D}{cs:List Nat}(h:∀u∈ws,f u=g u):((ws.map fun u=>eD w u (f u),d9 m ws f cs):Wh)=(ws.map fun u=>eD w u (g u),d9 m ws g cs):=by
 rw[qh h]
 congr 1
 apply c9;intro u a;rw[h u a]
theorem sC{m:Nat}{w:ed}{e:E4}{F:List (TK×D)}{L:List Rw}{a:Wh}(h:jy m w a.1 a.2)(d:RL e (gb F) L)(b:RN e F):oQ m w a.1 a.2 e L=gR (jm m w e F a):=by
 have:=lZ (m:=m) (w:=w) (ws:=a.1) (cs:=a.2) (f:=ddW w a.1 a.2 e L) (g:=G9 w e F a) fun u c=>d.due b (h.ky u c);unfold oQ gR jm;rw[<- this]
theorem wf{m:Nat}{w:ed}{e:E4}{F b:List (TK×D)}{a:Wh}(s:Sub F b)(h:∀u∈a.1,(dV F ((ky w a.1 a.2 u).tk e)).isSome=true):jm m w e b a=jm m w e F a:=by
 refine lZ fun u f=>?_;obtain⟨d,c⟩:=aQ.mp (h u f);unfold G9 wX;rw[c,s _ _ c]
theorem w9{m:Nat}{ws:List Wk}{f:Wk->D}{cs:List Nat}(hm:m<=8):(d9 m ws f cs).length<=8 /\ ∀r∈d9 m ws f cs,r<m:=by
 unfold d9;refine⟨?_,fun r a=>aB.mp (aA.mp a).1⟩;refine aC (df _ _) ?_;rw[dq];exact hm
theorem xX{m:Nat}{w:ed}{ws:List Wk}{cs:List Nat}(h:jy m w ws cs){u:Wk}(d:u∈ws){x:D}(hx:fT x):∃a,w[(eD w u x).1]?=some a/\(eD w u x).2.1<=a.length/\(eD w u x).2.2<4000:=by
 have c:=hx.eta.2;obtain⟨a,b,h1,h2⟩:=h.wk u d;unfold eD;rw[b];have base:∃a,w[(u.1,u.2.1,dm x).1]?=some a/\(u.1,u.2.1,dm x).2.1<=a.length/\(u.1,u.2.1,dm x).2.2<4000:=⟨a,b,h1,c⟩;cases dt x with
 |none=>exact base
 |some t=>
  dsimp only[oS1];cases ep:a[t]? with
  |none=>exact base
  |some p=>
   obtain⟨r,e,f⟩:=h.web.to a (gM1 b) p (gM1 ep);exact⟨r,e,f,c⟩
theorem jy.step{m:Nat}{w:ed}{e:E4}{F:List (TK×D)}{a:Wh}(h:jy m w a.1 a.2)(d:RN e F):jy m w (jm m w e F a).1 (jm m w e F a).2:=by
 have hc:=w9 (m:=m) (ws:=a.1) (f:=G9 w e F a) (cs:=a.2) h.m8;refine⟨h.web,h.m8,by show(a.1.map _).length<=8;rw[lM1];exact h.few,hc.1,fun v c=>?_,hc.2⟩;obtain⟨u,b,rfl⟩:=cc.mp c;exact xX h b (Cb d (h.ky u b))
theorem uw(a:Wh)(n:Nat):(gR a).und n=true:=fz fG
theorem o4(Ws:List Wh)(n:Nat):D.unds n (Ws.map gR)=true:=Mi.eM fun a _=>uw a n
structure nK (m:Nat)(w:ed)(e:E4)(F:List (TK×D))(k:Nat)(Ws:List Wh):Prop where
 ok:∀a∈Ws,jy m w a.1 a.2/\a.1.length=k
 nx:∀(j:Nat) (a b:Wh),Ws[j]?=some a->Ws[j+1]?=some b->b=jm m w e F a /\ ∀u∈a.1,(dV F ((ky w a.1 a.2 u).tk e)).isSome=true
theorem nK.more{m:Nat}{w:ed}{e:E4}{F g:List (TK×D)}{k:Nat}{Ws:List Wh}{a:Wh}(h:nK m w e F k Ws)(s:Sub F g)(l:RN e g)(i:Ws[Ws.length-1]?=some a)(ha:∀u∈a.1,(dV g ((ky w a.1 a.2 u).tk e)).isSome=true):nK m w e g k (Ws++[jm m w e g a]):=by
 have r:=(gE1.mp i).1;have n:=gM1 i;refine⟨fun b f=>?_,fun j b c f hc=>?_⟩
 ·rcases aG.mp f with f|f
  ·exact h.ok b f
  ·rw[cV.mp f];exact⟨(h.ok a n).1.step l,by show(a.1.map _).length=k;rw[lM1];exact(h.ok a n).2⟩
 ·by_cases z:j+1<Ws.length
  ·rw[gL1 (by lia)]at f;rw[gL1 z]at hc;obtain⟨h1,h2⟩:=h.nx j b c f hc;refine⟨by rw[wf s h2];exact h1,fun u q=>?_⟩;obtain⟨d,o⟩:=aQ.mp (h2 u q);rw[s _ _ o];rfl
  ·have p:j+1=Ws.length:=by
    have:=(gE1.mp hc).1;rw[lA1,aY]at this;lia
   rw[gL1 (by lia),show j=Ws.length-1 by lia,i]at f;rw[gR1 (by lia),p,cN]at hc;cases f;have:jm m w e g a=c:=by simpa using hc
   exact⟨this.symm,ha⟩
structure uj (m:Nat)(rs cs:List Nat):Prop where
 few:rs.length<=8
 cl:cs.length<=8
 rs:∀r∈rs,r<m
 cs:∀r∈cs,r<m
noncomputable def standD(rs cs:List Nat):D:=.tup [.tup (eI rs),.tup (eI cs)]
noncomputable def fE(rs cs:List Nat):Wh:=(rs.map fun r=>(r,0,0),cs)
theorem Cp{m:Nat}{w:ed}{rs cs:List Nat}(hw:oV m w)(hm:m<=8)(h:uj m rs cs):jy m w (fE rs cs).1 (fE rs cs).2:=by
 refine⟨hw,hm,by show(rs.map _).length<=8;rw[lM1];exact h.few,h.cl,fun u b=>?_,h.cs⟩;obtain⟨r,a,rfl⟩:=cc.mp b;exact⟨_,gG1 (by rw[hw.len];exact h.rs r a),bh _,by show 0<4000;decide⟩
theorem i9(rs cs:List Nat)(n:Nat):(standD rs cs).und n=true:=fz (by simp[standD,D.und,D.unds,pO])
theorem Dn{rs cs:List Nat}{S:Sto}:dQ (standD rs cs) (.int 0) S=some (.tup (eI rs),S):=rfl
theorem Dm{rs cs:List Nat}{S:Sto}:dQ (standD rs cs) (.int 1) S=some (.tup (eI cs),S):=rfl
theorem vR{rs:List Nat}{S:Sto}{c:Option D}{Q:List D×Ev×Sto->Prop}(h:∀ b,Q (ee (fE rs []).1,b,S)):
  W (fB [] (gN 0) fQ (ev (eQ (dM (mV 0) (dM (mC (D.int 0)) (dM (mC (D.int 0)) dN))))) (eI rs) [c] S) Q:=by
 refine nC (f:=fun r:Nat=>D.int r) (fun r:Nat=>fq (r,0,0)) (fun r=>∃x,r=[x]) rfl rs _ ⟨_,rfl⟩ ?_ fun b _=>?_
 ·rintro a d r ⟨x,rfl⟩;walk_at"w";exact⟨rfl,_,rfl⟩
 ·have e:(rs.map fun r:Nat=>fq (r,0,0))=ee (fE rs []).1:=by unfold ee fE;rw[bt];rfl
  rw[e];exact h b
theorem Co{rs cs:List Nat}{S:Sto}{Q:D×Sto->Prop}(c:rs.length<=1000)(q:Q (gR (fE rs cs),S)):W (dS 1 j7 [standD rs cs] S) Q:=by
 refine kq rfl (by rw[D.unds,i9];rfl) ?_;unfold j7;refine mW ?_;unfold vU;refine eA (fun r V=>V=[]/\r=[some (standD rs cs),some (.tup (eI rs)),some (.tup (eI cs))]) ?_ ?_
 ·unfold standD;walk_at"w"
 rintro r V ⟨rfl,rfl⟩;walk_at"w";rw[ij];refine vR fun b=>?_;have a:(ee (fE rs []).1).length=rs.length:=by rw[i8];exact lM1 _
 walk_at"w";refine⟨d4 (by rw[a];lia),?_⟩;refine et (xs:=ee (fE rs []).1) rfl ?_;exact⟨uw (fE rs cs) 0,q⟩
theorem Cs{g:G1}{m:FE}{r:Ev}{S:Sto}{Q:D×Sto->Prop}(h:W (m r S) fun p=>W (g p.1 p.2) Q):W (mN (b1 g) (dM m dN) r S) Q:=by
 obtain⟨p,e,h⟩:=h;unfold mN dM dN;rw[e];exact h
theorem Ai{a:FE}{b:FA}{r:Ev}{S:Sto}{Q:List D×Sto->Prop}(h:W (a r S) fun p=>W (b r p.2) fun q=>Q (p.1::q.1,q.2)):W (dM a b r S) Q:=by
 obtain⟨p,e,q,c,h⟩:=h;unfold dM;rw[e,oS1,c];exact⟨_,rfl,h⟩
theorem IM{S:Sto}(h:S.all (Ob.und 0)=true)(n:Nat):S.all (Ob.und n)=true:=by
 rw[bB]at h ⊢;exact fun x a=>jW (bh _) (h x a)
theorem kI{e:E4}{F:List (TK×D)}(h:RN e F)(n:Nat):(Ob.lst ((gb F).map uP)).und n=true:=by rw[Ob.und];exact AU h n
theorem Cc{m:Nat}{w:ed}{e:E4}{rs cs:List Nat}{o:Ob}{n b:Nat}{Q:D×Sto->Prop}(hw:oV m w)(hm:m<=8)(hst:uj m rs cs)(ho:gm o n)(hn:n<=2^35)(hb:b<=400)(hlim:b*rs.length<=3000)(q:∀F L c o' G,RN e F->RL e (gb F) L->nK m w e F rs.length c->c.length=b+1->c[0]?=some (fE rs cs)->gm o' (n+100*b)->G.all (Ob.und 0)=true->G[2]?=some (.lst (c.map gR))->Q (.tup [mcD e L,.ref 3],o'::G)):
  W (dS 5 eP [.ref 0,webD w,eyD e,standD rs cs,.int b] [o]) Q:=by
 refine m7 rfl rfl ?_;unfold eP;refine mW ?_;unfold gQ;have X:(ee (fE rs []).1).length=rs.length:=by rw[i8];exact lM1 _
 have hfew:=hst.few;refine eA (fun r S=>r=[some (.ref 0),some (webD w),some (eyD e),some (standD rs cs),some (.int (b:Nat)),some (.ref 1),some (.ref 3),none,none,none]/\S=[o,.dct [],.lst (ee (fE rs []).1),.lst [gR (fE rs cs)]]) ?_ ?_
 ·((try walk_at"w");repeat(simp only[zb,Dn,Dm];try walk_at"w"))
  rw[ij];refine vR fun r'=>?_;walk_at"w";refine⟨d4 (by rw[X];lia),?_⟩;refine et (xs:=ee (fE rs []).1) rfl ?_
  first|rfl|exact⟨rfl,rfl⟩
 rintro r S ⟨rfl,rfl⟩;refine eA (fun r S=>∃F c o' G y v,RN e F/\F.length<=3000/\gm o' (n+100*b)/\nK m w e F rs.length c/\c.length=b+1/\c[0]?=some (fE rs cs)/\G.all (Ob.und 0)=true/\S=o'::dO F :: .lst (ee (fE rs []).1) :: .lst (c.map gR)::G/\r=[some (.ref 0),some (webD w),some (eyD e),some (standD rs cs),some (.int (b:Nat)),some (.ref 1),some (.ref 3),y,v,none]) ?_ ?_
 ·walk_at"w";rw[ll,Int.toNat_natCast];refine⟨fN (by lia),?_⟩;refine fL (fun i r S=>∃F c o' G y v,i<=b/\RN e F/\F.length<=i*rs.length/\gm o' (n+100*i)/\nK m w e F rs.length c/\c.length=i+1/\c[0]?=some (fE rs cs)/\G.all (Ob.und 0)=true/\S=o'::dO F :: .lst (ee (fE rs []).1) :: .lst (c.map gR)::G/\r=[some (.ref 0),some (webD w),some (eyD e),some (standD rs cs),some (.int (b:Nat)),some (.ref 1),some (.ref 3),y,v,none]) _ 0 _ _ ?_ (fun _ _ _ _=>rfl) ?_ ?_
  ·refine⟨[],[fE rs cs],o,[],none,none,bh _,RN.nil,bh _,ho,⟨fun a M=>?_,fun j a b M hb=>?_⟩,rfl,rfl,rfl,rfl,rfl⟩
   ·rw[cV.mp M];exact⟨Cp hw hm hst,lM1 _⟩
   ·simp at hb
  ·rintro i d A r S ⟨F,c,R,G,y,v,hi,t,Y,l,K,k,p,E,rfl,rfl⟩;have U:=(gE1.mp A).1;rw[lM1,dq]at U;rw[bN]at *
   have hd':d = .int (i:Nat):=by
    rw[gP1,cI U]at A;exact(Option.some.inj A).symm
   subst hd';have hmul:(i+1)*rs.length<=b*rs.length:=dg _ (by lia);have hmul2:(i+1)*rs.length=i*rs.length+rs.length:=by rw[Nat.add_mul,Nat.one_mul]
   obtain⟨a,M⟩:∃a,c[i]?=some a:=⟨_,gG1 (by lia)⟩;have ham:=gM1 M;obtain⟨B,hal⟩:=K.ok a ham;have P:(c.map gR)[i]?=some (gR a):=by rw[gP1,M];rfl
   walk_at"w";unfold gj;have hX:(Ob.lst (ee (fE rs []).1)).und 0=true:=by rw[Ob.und];exact jG _
   have hY:(Ob.lst (c.map gR)).und 0=true:=by rw[Ob.und];exact o4 _ 0
   refine eA (fun r S=>∃g H,RN e g/\g.length<=F.length+rs.length/\gm H (n+100*i+100)/\Sub F g/\(∀u∈a.1,(dV g ((ky w a.1 a.2 u).tk e)).isSome=true)/\S=H::dO g :: .lst (ee (fE rs []).1) :: .lst (c.map gR)::G/\r=[some (.ref 0),some (webD w),some (eyD e),some (standD rs cs),some (.int (b:Nat)),some (.ref 1),some (.ref 3),some (.int (i:Nat)),v,none]) ?_ ?_
   ·walk_at"w";refine sG (i:=i) (xs:=c.map gR) (x:=gR a) rfl P ?_;walk_at"w";refine B0 (ws:=a.1) (cs:=a.2) (T:=.lst (ee (fE rs []).1) :: .lst (c.map gR)::G) B t (by rw[bP,bP,hX,hY,E];rfl) l (by lia) (by lia) fun g H f J s z C=>?_;rw[hal]at J;exact⟨g,H,f,J,s,z,C,rfl,trivial⟩
   rintro r S ⟨g,H,f,J,s,z,C,rfl,rfl⟩;obtain⟨L2',O,_⟩:=l0 (j9 f) (aC (live_len g) (by lia));generalize h:H::dO g::Ob.lst (ee (fE rs []).1)::Ob.lst (c.map gR)::G=S2;have g1:S2[1]?=some (dO g):=by rw[<- h];rfl
   have c2:S2.all (Ob.und 0)=true:=by rw[<- h,bP,bP,bP,bP,s.und,f.und,hX,hY,E];rfl
   refine eA (fun r S=>S=S2++[.lst ((gb g).map uP),dO (gb g)]/\r=[some (.ref 0),some (webD w),some (eyD e),some (standD rs cs),some (.int (b:Nat)),some (.ref 1),some (.ref 3),some (.int (i:Nat)),some (.ref (S2.length+1)),none]) ?_ ?_
   ·unfold d6;refine dZ.mpr (Cs (uW f (by lia) g1 rfl ?_));refine E3 f (by lia) (by rw[d7];rfl) ?_;walk_at"w"
   rintro r S ⟨Z,rfl⟩;have g3:S[S2.length+1]?=some (dO (gb g)):=by rw[Z,gr];rfl
   have g4:S[3]?=some (.lst (c.map gR)):=by rw[Z,<- h];rfl
   have c3:S.all (Ob.und 0)=true:=by
    rw[Z,dk,c2,bP,bP,kI f,(j9 f).und];rfl
   unfold fx;rw[dZ];refine js ?_;walk_at"w";refine⟨3,c.map gR,rfl,g4,?_⟩
   try walk_at"w"
   refine sG (i:=i) (xs:=c.map gR) (x:=gR a) g4 P ?_
   try walk_at"w"
   refine BB (ws:=a.1) (cs:=a.2) B O g3 (IM c3 _) ?_;rw[sC B O f];walk_at"w";refine(oW g4).mpr ⟨d4 (by rw[lM1];lia),?_⟩;have I:c[c.length-1]?=some a:=by rw[k];exact M
   refine⟨g,c++[jm m w e g a],H,G++[.lst ((gb g).map uP),dO (gb g)],_,_,by lia,f,by lia,s.more (by lia),K.more z f I C,by rw[lA1,k];rfl,?_,?_,?_,rfl⟩
   ·rw[gL1 (by lia)];exact p
   ·rw[dk,E,bP,bP,kI f,(j9 f).und];rfl
   ·rw[Z,<- h];simp only[bi,c6,c4,cC,mP1,aZ]
  ·rintro r S ⟨F,c,R,G,y,v,hi,t,Y,l,K,k,p,E,rfl,rfl⟩;rw[lM1,dq,bN]at *
   exact⟨rfl,F,c,R,G,_,_,t,by lia,l,K,k,p,E,rfl,rfl⟩
 rintro r S ⟨F,c,R,G,y,v,t,Y,l,K,k,p,E,rfl,rfl⟩;obtain⟨L,rl,N⟩:=l0 (j9 t) (aC (live_len F) (by lia));have hX:(Ob.lst (ee (fE rs []).1)).und 0=true:=by rw[Ob.und];exact jG _
 have hY:(Ob.lst (c.map gR)).und 0=true:=by rw[Ob.und];exact o4 _ 0
 generalize h:R::dO F::Ob.lst (ee (fE rs []).1)::Ob.lst (c.map gR)::G=S2;have g1:S2[1]?=some (dO F):=by rw[<- h];rfl
 refine eA (fun r S=>S=S2++[.lst ((gb F).map uP),.lst (L.map (fu e))]/\r=[some (.ref 0),some (webD w),some (eyD e),some (standD rs cs),some (.int (b:Nat)),some (.ref 1),some (.ref 3),y,v,some (mcD e L)]) ?_ ?_
 ·unfold d6;refine dZ.mpr (Ag.mpr (Ai ?_));refine W.of (x:=(eyD e,S2)) rfl ?_;refine Ai (Cs (Cs (uW t (by lia) g1 rfl ?_)));dsimp only;refine W.of (N S2.length _ (by rw[d7];rfl)) ?_;dsimp only;refine Ah.mpr (et (xs:=L.map (fu e)) (by rw[d7];rfl) ?_);refine W.of (x:=([],_)) rfl ?_;refine⟨Jk,?_⟩;refine W.of (x:=_) rfl ?_;refine⟨rfl,?_,rfl⟩;simp
 rintro r S ⟨rfl,rfl⟩;have ur:=jQ (e:=e) rl.ok 0;simp only[D.und]at ur;have hg:∀V,gc 1 (D.tup [mcD e L,.ref 3],V)=(D.tup [mcD e L,.ref 3],V):=fun V=>by
  unfold gc;rw[if_neg];simp[D.und,D.unds]
 walk_at"w";show Q (gc 1 (D.tup [mcD e L,.ref 3],_));rw[hg,<- h];refine q F L c R (dO F::Ob.lst (ee (fE rs []).1)::Ob.lst (c.map gR)::(G++[.lst ((gb F).map uP),.lst (L.map (fu e))])) t rl K k p l ?_ rfl;rw[bP,bP,bP,dk,t.und,hX,hY,E,bP,bP,kI t,Ob.und,ur];rfl
theorem Ct{n k:Nat}{xs:List D}{x:D}{S:Sto}{Q:D×Sto->Prop}(h:S[n]?=some (.lst xs))(b:xs.length=k+1)(hx:xs[k]?=some x)(q:Q (x,S)):W (dQ (.ref n) (.int (-1)) S) Q:=by
 refine W.of (x:=(x,S)) ?_ q;simp only[dQ,kS,zy,h,dY,sM,vo,oS1];rw[if_neg (show¬ (0:Int) <= -1 by decide)];have e:((-1:Int)+(xs.length:Int)).toNat=k:=by lia
 have a:((xs.length:Int)+(-1:Int)).toNat=k:=by lia
 rw[if_pos (by lia)]
 first
  |rw[e,oS1,hx];rfl
  |rw[a,oS1,hx];rfl
  |simp[e,a,hx]
theorem xK{m:Nat}{w:ed}{e:E4}{F:List (TK×D)}{L:List Rw}{rs cs:List Nat}{Ws:List Wh}{b k:Nat}{S:Sto}{Q:D×Sto->Prop}(hst:uj m rs cs)(v:RN e F)(j:RL e (gb F) L)(s:nK m w e F k Ws)(h0:Ws[0]? = some (fE rs cs))(hb:b<Ws.length)(u:b<=400)(q:Q (.tup ((Ws.take (b+1)).map gR),S)):W (dS 4 iN [webD w,mcD e L,standD rs cs,.int b] S) Q:=by
 refine kq rfl (by simp[D.unds,fZ,pQ j.ok,i9];rfl) ?_;unfold iN;refine mW ?_;unfold sD;have t:=hst.few;have x:(Ws.take 1).map gR=[gR (fE rs cs)]:=by
  cases Ws with
  |nil=>cases h0
  |cons a Ws=>simp at h0;subst h0;rfl
 refine eA (fun r V=>V=[.lst ((Ws.take 1).map gR)]/\r=[some (webD w),some (mcD e L),some (standD rs cs),some (.int (b:Nat)),some (.ref 0),none]) ?_ ?_
 ·walk_at"w";refine Co (by lia) ?_;walk_at"w";exact⟨by rw[x],trivial⟩
 rintro r V ⟨rfl,rfl⟩;refine eA (fun r V=>∃g,V=[.lst ((Ws.take (b+1)).map gR)]/\r=[some (webD w),some (mcD e L),some (standD rs cs),some (.int (b:Nat)),some (.ref 0),g]) ?_ ?_
 ·walk_at"w";rw[ll,Int.toNat_natCast];refine⟨fN (by lia),?_⟩;refine fL (fun i r V=>∃g,i<=b/\V=[.lst ((Ws.take (i+1)).map gR)]/\r=[some (webD w),some (mcD e L),some (standD rs cs),some (.int (b:Nat)),some (.ref 0),g]) _ 0 _ _ ⟨_,bh _,rfl,rfl⟩ (fun _ _ _ _=>rfl) ?_ ?_
  ·rintro i d o r V ⟨g,hi,rfl,rfl⟩;have p:=(gE1.mp o).1;rw[lM1,dq]at p;rw[bN]at *
   obtain⟨a,n⟩:∃a,Ws[i]?=some a:=⟨_,gG1 (by lia)⟩;obtain⟨c,hc⟩:∃c,Ws[i+1]?=some c:=⟨_,gG1 (by lia)⟩;obtain⟨h,y⟩:=s.ok a (gM1 n);obtain⟨z,_⟩:=s.nx i a c n hc;have f:((Ws.take (i+1)).map gR).length=i+1:=by rw[lM1,aR];lia
   have l:((Ws.take (i+1)).map gR)[i]?=some (gR a):=by rw[gP1,aT (by lia),n];rfl
   walk_at"w";unfold mz fx;rw[dZ];refine js ?_;walk_at"w";refine⟨0,_,rfl,rfl,?_⟩
   ((try walk_at"w");repeat(simp only[EZ];try walk_at"w"))
   refine Ct rfl f l ?_;walk_at"w";refine Fe (ws:=a.1) (cs:=a.2) h j.inc j.ok j.len ?_;rw[sC h j v,<- z];walk_at"w";refine(oW rfl).mpr ⟨d4 (by rw[f];lia),?_⟩;refine⟨_,by lia,?_,rfl⟩;rw[cD (i:=i+1),hc,cC];rfl
  ·rintro r V ⟨g,hi,rfl,rfl⟩;rw[lM1,dq,bN];exact⟨rfl,_,rfl,rfl⟩
 rintro r V ⟨g,rfl,rfl⟩;walk_at"w";refine et (xs:=(Ws.take (b+1)).map gR) rfl ?_;exact⟨by rw[D.und];exact o4 _ 0,q⟩
theorem IJ(xs:List D)(k:Nat):Mi.sx xs none (some (k:Int))=xs.take k:=by
 unfold Mi.sx;rw[HT.yc,HT.AI,bX,Nat.sub_zero];by_cases h:k<=xs.length
 ·rw[bA h]
 ·rw[Nat.min_eq_right (by lia),bY,b8 (by lia)]
theorem Hi{m:FE}{hi:FO}{r:Ev}{S:Sto}{n k:Nat}{xs:List D}{Q:D×Sto->Prop}(hm:m r S=some (.ref n,S))(a:hi r S=some (some (k:Int),S))(h:S[n]?=some (.lst xs))(q:Q (.ref S.length,S++[.lst (xs.take k)])):W (wB m mG hi r S) Q:=by
 rw[<- IJ]at q;refine W.of ?_ q;unfold wB;rw[hm,oS1];dsimp only;rw[show mG r S=some (none,S)from rfl,oS1];dsimp only;rw[a,oS1];simp only[x4,gH h,oP1,if_true]
theorem Hm{m:FA}{k:Nat}{r:Ev}{S S1:Sto}{Q:D×Sto->Prop}(hm:m r S=some ([.int (k:Nat)],S1))(hk:k<=1000)(q:Q (.ref S1.length,S1++[.lst (gB 0 k)])):W (za m r S) Q:=by
 refine W.of ?_ q;unfold za;rw[hm,oS1];dsimp only;rw[if_pos (by
  unfold uL;simp only[bA1,decide_eq_true_eq];lia),Int.toNat_natCast]
theorem xI{c:FT}{b:FS}{Q:Fl×Ev×Sto->Prop}(I:Nat->Ev->Sto->Prop)(step:∀k r S,I k r S->W (c r S) fun p=>if p.1=true then 0<k/\W (b r p.2) fun q=>q.1 = .nx/\I (k-1) q.2.1 q.2.2 else Q (.nx,r,p.2)):
  ∀(a k:Nat) (r:Ev) (S:Sto),k<a->I k r S->W (qo c b a r S) Q
 |0,k,r,S,hf,_=>by lia
 |a+1,k,r,S,hf,hi=>by
  rw[qo];dsimp only;rw[dZ];obtain⟨⟨t,m⟩,e,h⟩:=step k r S hi;refine⟨_,e,?_⟩;dsimp only at h ⊢;cases t with
  |true=>
   rw[if_pos rfl]at h ⊢;obtain⟨n,⟨f,j,i⟩,l,d,g⟩:=h;dsimp only at d g;subst d;rw[l,oS1];exact xI I step a (k-1) j i (by lia) g
  |false=>
   rw[if_neg (by decide)]at h ⊢;exact eh.mpr h
theorem yR(rs:List Nat)(i:Nat):(eI rs).eraseIdx i=eI (rs.eraseIdx i):=by
 unfold eI;simp[cH,List.map_take,List.map_drop]
theorem tq{m most n:Nat}{o:Ob}{T:Sto}{Q:D×Sto->Prop}(Z:0<m)(hm:m<=8)(Y:0<most)(O:most<=8)(ho:gm o n)(hn:n<=2^40)(U:T.all (Ob.und (T.length+1))=true)(q:∀rs f o',uj m rs f->rs≠[]->rs.length<=most->gm o' (n+100)->Q (standD rs f,o'::T)):W (dS 3 ff [.ref 0,.int m,.int most] (o::T)) Q:=by
 refine vP rfl rfl U ?_;unfold ff;refine mW ?_;unfold iC;have tl:∀(a b:Ob),(a::(T++[b]))[T.length+1]?=some b:=fun a b=>by rw[gC1,d7];rfl
 have ts:∀(a b c:Ob),(a::(T++[b])).set (T.length+1) c=a::(T++[c]):=fun a b c=>by rw[c6,cZ _ _ (nR1 _),cN];rfl
 refine eA (fun r V=>V=o::(T++[.lst (eI (List.range m))])/\r=[some (.ref 0),some (.int (m:Nat)),some (.int (most:Nat)),some (.ref (T.length+1)),none]) ?_ ?_
 ·unfold d6;rw[dZ];refine Hm (k:=m) (S1:=o::T) rfl (by lia) ?_;rw[ll];exact W.of rfl ⟨rfl,rfl,rfl⟩
 rintro r V ⟨rfl,rfl⟩;refine eA (fun r V=>∃rs o',rs≠[]/\rs.length<=most/\rs.length<=m/\(∀x∈rs,x<m)/\gm o' (n+50)/\V=o'::(T++[.lst (eI rs)])/\r=[some (.ref 0),some (.int (m:Nat)),some (.int (most:Nat)),some (.ref (T.length+1)),none]) ?_ ?_
 ·refine xI (fun k r V=>∃rs o',rs.length=k+1/\k+1<=m/\(∀x∈rs,x<m)/\gm o' (n+2*(m-(k+1)))/\V=o'::(T++[.lst (eI rs)])/\r=[some (.ref 0),some (.int (m:Nat)),some (.int (most:Nat)),some (.ref (T.length+1)),none]) ?_ 100000 (m-1) _ _ (by lia) ⟨List.range m,o,by rw[dq];lia,by lia,fun x L=>aB.mp L,ho.more (by lia),rfl,rfl⟩;rintro k r V ⟨rs,N,F,S,l,u,rfl,rfl⟩;unfold gK;walk_at"w";refine et (tl N (.lst (eI rs))) ?_;walk_at"w";refine fi u (by lia) (by lia) (by lia) fun t C g M=>?_;walk_at"w";rw[io,F];by_cases z:1+t<k+1
  ·rw[if_pos (by rw[decide_eq_true_eq];push_cast;lia)];refine⟨by lia,?_⟩;unfold gJ fx;rw[dZ];refine js ?_;walk_at"w";refine⟨T.length+1,eI rs,rfl,tl _ _,?_⟩
   try walk_at"w"
   refine et (tl C (.lst (eI rs))) ?_
   try walk_at"w"
   rw[io,F];refine fi g (by lia) (by push_cast;lia) (by push_cast;lia) fun i p h hi=>?_
   try walk_at"w"
   have w:i<rs.length:=by rw[F];lia
   refine Fg (xs:=eI rs) (x:=.int (rs[i]'(w):Nat)) (tl _ _) (by unfold eI;rw[gP1,gG1 w];rfl) (by lia) ?_;rw[ts,yR];refine⟨rs.eraseIdx i,p,by rw[cF w];lia,by lia,fun x L=>l x (List.mem_of_mem_eraseIdx L),h.more (by lia),rfl,trivial⟩
  ·rw[if_neg (by rw[decide_eq_true_eq];push_cast;lia)];exact⟨rs,C,fun z=>(by rw[z]at F;cases F),by lia,by lia,l,g.more (by lia),rfl,trivial⟩
 rintro r V ⟨rs,N,K,s,R,l,u,rfl,rfl⟩;refine eA (fun r V=>∃(a:Nat) (o':Ob),a<2/\gm o' (n+51)/\V=o'::(T++[.lst (eI rs)])/\r=[some (.ref 0),some (.int (m:Nat)),some (.int (most:Nat)),some (.ref (T.length+1)),some (.int (a:Nat))]) ?_ ?_
 ·walk_at"w";refine fi u (by lia) (by lia) (by lia) fun t C g M=>?_;exact⟨t,C,by lia,g,rfl,rfl⟩
 rintro r V ⟨a,C,ha,g,rfl,rfl⟩;walk_at"w";refine et (tl _ _) ?_;walk_at"w";rw[Int.toNat_natCast];refine⟨fN (by lia),?_⟩;refine jg (fun i G r V=>∃f p x,i<=m/\G=eI f/\f.length<=i/\(∀y∈f,y<m)/\gm p (n+51+i)/\V=p::(T++[.lst (eI rs)])/\r=[x,some (.int (a:Nat)),some (.ref 0)]) _ 0 [] _ _ ⟨[],C,_,bh _,rfl,nR1 _,fun y B=>(by cases B),g,rfl,rfl⟩ (fun _ _ _ _ _=>rfl) ?_ ?_
 ·rintro i d v G r V ⟨f,p,x,hi,rfl,H,j,h,rfl,rfl⟩;have A:=(gE1.mp v).1;rw[fI]at A;rw[bN]at *
  have I:d = .int (i:Nat):=by
   rw[ll,gP1,cI A]at v;exact(Option.some.inj v).symm
  subst I;walk_at"w";refine fi h (by lia) (by lia) (by lia) fun t P E M=>?_;have X:∀J,jk (.int (a:Int)) (.int (t:Int)) J=some (.int ((a:Int)*(t:Int)),J):=fun J=>by
   simp only[jk];rw[if_pos (n6 (by lia) (by lia))]
  ((try walk_at"w");repeat(simp only[X];try walk_at"w"))
  split
  ·exact ⟨f++[i],P,_,by lia,by simp [eI],by rw [lA1];simp;lia,fun y B=>by
    rcases aG.mp B with B|B
    ·exact j y B
    ·rw[cV.mp B];exact A,E.more (by lia),rfl,rfl⟩
  ·exact⟨f,P,_,by lia,rfl,by lia,j,E.more (by lia),rfl,rfl⟩
 ·rintro xs r V ⟨f,p,x,hi,e,H,j,h,rfl,rfl⟩;rw[cX]at e;subst e;rw[fI,bN]at *
  walk_at"w";refine⟨d4 (by rw[io];lia),?_⟩;refine et (xs:=eI f) (by rw[gC1,gr];rfl) ?_;exact⟨standD rs f,p,[.lst (eI rs),.lst (eI f)],by simp[standD],i9 rs f 0,h.und,q rs f p ⟨by lia,by lia,l,j⟩ K s (h.more (by lia))⟩
noncomputable def EH(Ws:List Wh):List D:=Ws.map fun a=>.int (a.2.length:Nat)
noncomputable def mx(Ws:List Wh):Int:=nB (Ws.map fun a=>(a.2.length:Int))
theorem ow:∀b:List Wh,ox (EH b)=some (b.map fun a=>(a.2.length:Int))
 |[]=>rfl
 |a::b=>by
  show ox (.int (a.2.length:Nat)::EH b)=_;rw[ox,ow b];rfl
theorem Af{Ws:List Wh}{n:Nat}{S:Sto}{Q:D×Sto->Prop}(h:S[n]?=some (.lst (EH Ws)))(a:Ws≠[])(q:Q (.int (mx Ws),S)):W (oz (.ref n) S) Q:=by
 refine W.of ?_ q;unfold oz;rw[gH h];dsimp only;rw[ow,oS1,if_neg (by simpa using a)];rfl
theorem Em{m:Nat}{w:ed}{e:E4}{F:List (TK×D)}{L:List Rw}{rs cs:List Nat}{Ws:List Wh}{b k:Nat}{S:Sto}{Q:D×Sto->Prop}(hst:uj m rs cs)(g:RN e F)(d:RL e (gb F) L)(h:nK m w e F k Ws)(h0:Ws[0]? = some (fE rs cs))(hb:b<Ws.length)(c:b<=400)(q:Q (.int (mx (Ws.take (b+1))),S)):W (dS 4 fJ [webD w,mcD e L,standD rs cs,.int b] S) Q:=by
 refine kq rfl (by simp[D.unds,fZ,pQ d.ok,i9];rfl) ?_;unfold fJ;refine mW ?_;unfold kr e9;rw[dZ];refine Cs ?_;rw[ji];walk_at"w";refine xK hst g d h h0 hb c ?_;rw[ij];dsimp only;refine nC (f:=gR) (fun a:Wh=>D.int (a.2.length:Nat)) (fun r=>∃x y,r=[x,y]) rfl _ _ ⟨_,_,rfl⟩ ?_ fun j _=>?_
 ·rintro a i r ⟨x,y,rfl⟩;unfold gR dU;walk_at"w";refine⟨?_,_,_,rfl⟩;rw[io]
 ·walk_at"w";refine⟨d4 (by rw[lM1,aR];lia),?_⟩;refine Af (Ws:=Ws.take (b+1)) rfl ?_ ⟨rfl,q⟩;intro z;have:=congrArg List.length z;rw[aR,bd]at this;lia
theorem GW{N c:D}{k':Int}{m:Nat}{w:ed}{e:E4}{F:List (TK×D)}{L:List Rw}{rs cs:List Nat}{Ws:List Wh}{b f k j:Nat}{i:Option D}{S:Sto}{Q:Fl×Ev×Sto->Prop}(hst:uj m rs cs)(J:RN e F)(s:RL e (gb F) L)(u:nK m w e F k Ws)(h0:Ws[0]? = some (fE rs cs))(hb:f<Ws.length)(g:f<=400)(t:S[j]? = some (.lst (Ws.map gR)))(q:∀G y,Q (.nx,[some N,some (.int k'),some (.ref 0),some (webD w),some c,some (standD rs cs),some (.int b),some (mcD e L),some (.ref j),some (.int f),y],S++G)):
  W (pI [some N,some (.int k'),some (.ref 0),some (webD w),some c,some (standD rs cs),some (.int b),some (mcD e L),some (.ref j),some (.int f),i] S) Q:=by
 unfold pI;generalize n:mx (Ws.take (f+1))=v;refine eA (fun r V=>V=S/\r=[some N,some (.int k'),some (.ref 0),some (webD w),some c,some (standD rs cs),some (.int b),some (mcD e L),some (.ref j),some (.int f),some (.int v)]) ?_ ?_
 ·walk_at"w";refine Em hst J s u h0 hb g ?_;rw[n];walk_at"w"
 rintro r V ⟨rfl,rfl⟩;have o:∀r V,r[10]?=some (some (.int v))->mI .int (mV 10) r V=some (.bl true,V):=fun r V h=>by unfold mI mV;rw[h];rfl
 have B:∀r V,r[10]?=some (some (.int v))->mI .bool (mV 10) r V=some (.bl false,V):=fun r V h=>by unfold mI mV;rw[h];rfl
 refine eA (fun r d=>d=V/\r=[some N,some (.int k'),some (.ref 0),some (webD w),some c,some (standD rs cs),some (.int b),some (mcD e L),some (.ref j),some (.int f),some (.int v)]) ?_ ?_
 ·have C:=o [some N,some (.int k'),some (.ref 0),some (webD w),some c,some (standD rs cs),some (.int b),some (mcD e L),some (.ref j),some (.int f),some (.int v)] V rfl;have H:=B [some N,some (.int k'),some (.ref 0),some (webD w),some c,some (standD rs cs),some (.int b),some (mcD e L),some (.ref j),some (.int f),some (.int v)] V rfl;generalize mI .int (mV 10)=M1 at *
  generalize mI .bool (mV 10)=M2 at *
  ((try walk_at"w");repeat(simp only[C,H];try walk_at"w"))
 rintro r d ⟨rfl,rfl⟩;have key:W (wB (mV 8) mG (rr (m2 (b2 fM) (mV 9) (mC (D.int 1)))) [some N,some (.int k'),some (.ref 0),some (webD w),some c,some (standD rs cs),some (.int b),some (mcD e L),some (.ref j),some (.int f),some (.int v)] d) fun p=>p=(.ref d.length,d++[.lst ((Ws.take (f+1)).map gR)]):=by
  refine Hi (k:=f+1) rfl ?_ t ?_
  ·rfl
  ·rw[List.map_take]
 obtain⟨p,I,rfl⟩:=key;generalize wB (mV 8) mG (rr (m2 (b2 fM) (mV 9) (mC (D.int 1))))=M at *
 have l:Ws.take (f+1)≠[]:=by
  intro z;have:=congrArg List.length z;rw[aR,bd]at this;lia
 ((try walk_at"w");repeat(simp only[I];try walk_at"w"))
 refine et (xs:=(Ws.take (f+1)).map gR) (by rw[d7];rfl) ?_;refine nC (f:=gR) (fun a:Wh=>D.int (a.2.length:Nat)) (fun r=>∃x,r=[x]) (gp (by rw[d7];rfl)) _ _ ⟨_,rfl⟩ ?_ fun O _=>?_
 ·rintro a K r ⟨x,rfl⟩;have A:∀S,dQ (gR a) (.int 1) S=some (.tup (eI a.2),S):=fun S=>rfl
  ((try walk_at"w");repeat(simp only[A,fV];try walk_at"w"))
  refine⟨?_,_,rfl⟩;rw[io]
 ·walk_at"w";refine⟨d4 (by rw[lM1,aR];lia),?_⟩;refine Af (Ws:=Ws.take (f+1)) (by rw[gr];rfl) l ?_;rw[n];walk_at"w";have E:(v == v)=true:=by simp
  rw[E];walk_at"w";exact q _ _
theorem Db(ns:List Int)(k:Int)(h0:0<=k)(hk:k<63):W (pH [some (.rol (ns.map D.int)),some (.int k),none,none,none,none,none,none,none,none,none] []) fun p=>p.1 = .nx /\ ∃Y,p.2.1=some (.rol (ns.map D.int))::Y/\Y.length=10:=by
 unfold pH;generalize Z:D.rol (ns.map D.int)=N;refine eA (fun r S=>∃o,gm o 0/\S=[o]/\r=[some N,some (.int k),some (.ref 0),none,none,none,none,none,none,none,none]) ?_ ?_
 ·obtain⟨o,e,h⟩:=BZ ns k h0 hk;rw[Z]at e
  ((try walk_at"w");repeat(simp only[e];try walk_at"w"))
  exact⟨o,h,rfl,trivial⟩
 rintro r S ⟨o,h,rfl,rfl⟩;refine eA (fun r S=>∃(m:Nat) (w:ed) (e:E4) (o:Ob),0<m/\m<=8/\oV m w/\gm o 200/\S=[o]/\r=[some N,some (.int k),some (.ref 0),some (webD w),some (eyD e),none,none,none,none,none,none]) ?_ ?_
 ·walk_at"w";refine FD (T:=[]) h (by lia) rfl fun m w n v E C g=>?_;walk_at"w";refine E1 (T:=[]) g (by lia) rfl fun a b c d o3 M=>?_;exact⟨m,w,(a,b,c,d),o3,v,E,C,M.more (by lia),rfl,rfl⟩
 rintro r S ⟨m,w,e,o,v,E,C,h,rfl,rfl⟩;refine eA (fun r S=>∃(rs j:List Nat) (o:Ob),uj m rs j/\rs.length<=4/\gm o 400/\S=[o]/\r=[some N,some (.int k),some (.ref 0),some (webD w),some (eyD e),some (standD rs j),none,none,none,none,none]) ?_ ?_
 ·((try walk_at"w");repeat(simp only[vg];try walk_at"w"))
  rw[C.len];refine tq (T:=[]) (most:=4) v E (by lia) (by lia) h (by lia) rfl fun rs j n l hne hl g=>?_;exact⟨rs,j,n,l,hl,g.more (by lia),rfl,rfl⟩
 rintro r S ⟨rs,j,o,l,H,h,rfl,rfl⟩;refine eA (fun r S=>∃(b:Nat) (o:Ob),b<=30/\gm o 401/\S=[o]/\r=[some N,some (.int k),some (.ref 0),some (webD w),some (eyD e),some (standD rs j),some (.int (b:Nat)),none,none,none,none]) ?_ ?_
 ·walk_at"w";refine fi (T:=[]) h (by lia) (by lia) (by lia) fun t n g Q=>?_;exact⟨t,n,by lia,g,rfl,rfl⟩
 rintro r S ⟨b,o,hb,h,rfl,rfl⟩;have B:b*rs.length<=3000:=aC (Nat.mul_le_mul hb H) (by decide);refine eA (fun r S=>∃F L q o G,RN e F/\RL e (gb F) L/\nK m w e F rs.length q/\q.length=b+1/\q[0]?=some (fE rs j)/\gm o 50000/\G[2]?=some (.lst (q.map gR))/\S=o::G/\r=[some N,some (.int k),some (.ref 0),some (webD w),some (eyD e),some (standD rs j),some (.int (b:Nat)),some (mcD e L),some (.ref 3),none,none]) ?_ ?_
 ·walk_at"w";refine Cc C E l h (by lia) (by lia) B fun F L q n G O I J z s g hG h2=>?_;walk_at"w";exact⟨F,L,q,n,G,O,I,J,z,s,g.more (by lia),h2,rfl,rfl⟩
 rintro r S ⟨F,L,q,o,G,O,I,J,z,s,h,A,rfl,rfl⟩;unfold iE;rw[dZ];walk_at"w";rw[show((b:Int)+1)=((b+1:Nat):Int) by push_cast;rfl];refine fi h (by lia) (by push_cast;lia) (by push_cast;lia) fun t n g Q=>?_;walk_at"w";have ht2:t<b+1:=by push_cast at Q;lia
 generalize R:n::(G++[Ob.lst [D.int b,D.int 0,D.int t,D.int b]])=S;have X:S[3]?=some (.lst (q.map gR)):=by
  rw[<- R,gC1,gL1 (gE1.mp A).1];exact A
 have P:S[G.length+1]?=some (.lst ([b,0,t,b].map fun i:Nat=>D.int i)):=by
  rw[<- R,gC1,d7];rfl
 refine et P ?_;refine fL (fun i r V=>∃x K u,V=S++x/\r=[some N,some (.int k),some (.ref 0),some (webD w),some (eyD e),some (standD rs j),some (.int (b:Nat)),some (mcD e L),some (.ref 3),K,u]) _ 0 _ _ ⟨[],_,_,by simp,rfl⟩ (fun i r V ⟨x,_,_,hV,_⟩=>by rw[hV];exact gp (by rw[gL1 (gE1.mp P).1];exact P)) ?_ ?_
 ·rintro i d U r V ⟨x,K,u,rfl,rfl⟩;rw [gP1] at U;obtain ⟨f,hf,rfl⟩:=oM1.mp U;have hfb:f<=b:=by
   have:=gM1 hf;simp at this;lia
  walk_at"w";refine GW l O I J s (by lia) (by lia) (by rw[gL1 (gE1.mp X).1];exact X) fun G2 y=>?_;exact⟨rfl,x++G2,_,_,by rw[bG],rfl⟩
 ·rintro r V ⟨x,K,u,rfl,rfl⟩;exact⟨rfl,_,rfl,rfl⟩
theorem truth(ns:List Int)(M:ns.length<=63):∃S,m_law [.rol (ns.map D.int)] []=some (.bl true,S):=by
 have key:W (m_law [.rol (ns.map D.int)] []) fun p=>p.1 = .bl true:=by
  unfold m_law;refine mW ?_;unfold Ac;have I:(D.rol (ns.map D.int)).und 0=true:=by simp[D.und,kC]
  have B:=fun k J G=>Db ns k J G;generalize A:D.rol (ns.map D.int)=N at *
  have c:eS N []=some (.int ns.length,[]):=by rw[<- A];simp[eS,dY]
  refine eA (fun r S=>S=[]/\r=[some N,none,none,none,none,none,none,none,none,none,none]) ?_ ?_
  ·simp only [gz,mP1,aZ,lC1,bd,Nat.reduceAdd,Nat.reduceSub,F5,bi,cX,iE,dZ,CW,dM,mN,mC,mV,dN,b1,b2,B3,B2,c,eh,oS1,de,F6];have E:∃ t:Nat,t<=4/\(if (if (ns.length:Int)<4 then (ns.length:Int) else 4)>1 then (if (ns.length:Int)<4 then (ns.length:Int) else 4) else 1)=(t:Int):=by
    by_cases h1:(ns.length:Int)<4
    ·rw[if_pos h1];by_cases h2:(ns.length:Int)>1
     ·rw[if_pos h2];exact⟨ns.length,by lia,rfl⟩
     ·rw[if_neg h2];exact⟨1,by lia,rfl⟩
    ·rw[if_neg h1];exact⟨4,by lia,by decide⟩
   obtain⟨t,L,te⟩:=E;rw[te,Int.toNat_natCast];refine⟨fN (by lia),?_⟩;refine fL (fun _ r S=>S=[]/\r=[some N,none,none,none,none,none,none,none,none,none,none]) _ 0 _ _ ⟨rfl,rfl⟩ (fun _ _ _ _=>rfl) ?_ ?_
   ·rintro i d F r S ⟨rfl,rfl⟩;obtain ⟨k,e,C,K⟩:=rF (gM1 F);subst e;simp only [gN,c6,c4,eh];obtain ⟨⟨f,r2,O⟩,H,w,y,b,j⟩:=B k C (by lia);dsimp only at w b;subst w;subst b;obtain ⟨n,q,l,g,u,m,o,v,s,a,z⟩:∃ n q l g u m o v s a,y=[n,q,l,g,u,m,o,v,s,a]:=by
     match y,j with
     |[n,q,l,g,u,m,o,v,s,a],_=>exact⟨_,_,_,_,_,_,_,_,_,_,rfl⟩
    subst z;refine W.of (x:=(.nx,[some N,none,none,none,none,none,none,none,none,none,none],[])) ?_ ⟨rfl,rfl,rfl⟩;unfold uY oe;simp[fA,jL,D.und,I,H]
   ·rintro r S ⟨rfl,rfl⟩;exact⟨rfl,rfl,rfl⟩
  ·rintro r S ⟨rfl,rfl⟩;simp only[e9,mC,oS1,eh]
 obtain⟨⟨d,S⟩,e,h⟩:=key;dsimp only at h;exact⟨S,by rw[e,h]⟩
end Law
end
open PySem PySem.W PyProof.Rows
def PySem.W.Fast.tw11042184590610028872 := ()
def PySem.W.Fast.tw7651302735322393561 := ()
def PySem.W.Fast.tw11682241667489670207 := ()
def PySem.W.Fast.tw5374088785349920553 := ()
def PySem.W.Fast.tw10897098882267476490 := ()
def PySem.W.Fast.tw17679547895805501514 := ()
def PySem.W.Fast.tw7359930215488939129 := ()
def PySem.W.Fast.tw11577881324435044446 := ()
def PySem.W.Fast.tw769371736033020060 := ()
def PySem.W.Fast.tw11414645052282282383 := ()
def PySem.W.Fast.tw16375146924351387783 := ()
def PySem.W.Fast.tw9680271005742241930 := ()
def PySem.W.Fast.tw12598576063574702504 := ()
def PySem.W.Fast.tw4724302091757863026 := ()
def PySem.W.Fast.tw124765757833711930 := ()
def PySem.W.Fast.tw5934574583858997325 := ()
def PySem.W.Fast.tw8852150805237816136 := ()
def PySem.W.Fast.tw6875495290324571692 := ()
def PySem.W.Fast.tw8705303085855314040 := ()
def PySem.W.Fast.tw4396383640538833500 := ()
def PySem.W.Fast.tw13404279589022107097 := ()
def PySem.W.Fast.tw8700878505493778521 := ()
def PySem.W.Fast.tw4908024294131160043 := ()
def PySem.W.Fast.tw9221056127486952750 := ()
def PySem.W.Fast.tw16841945608850648859 := ()
def PySem.W.Fast.tw15512001430017903787 := ()
def PySem.W.Fast.tw16781239079194576183 := ()
def PySem.W.Fast.tw2257386196643015900 := ()
def PySem.W.Fast.tw14065633549545221288 := ()
def PySem.W.Fast.tw9351575268960680363 := ()
def PySem.W.Fast.tw1330741583633959750 := ()
def PySem.W.Fast.tw431198989946341347 := ()
def PySem.W.Fast.tw5333867035476981830 := ()
def PySem.W.Fast.tw10116459633556691040 := ()
def PySem.W.Fast.tw18426168336188685538 := ()
def PySem.W.Fast.tw13160601316318163137 := ()
def PySem.W.Fast.tw18168030442438607890 := ()
def PySem.W.Fast.tw9687421615645677991 := ()
def PySem.W.Fast.tw7798724390733952434 := ()
def PySem.W.Fast.tw8632898293374195130 := ()
def PySem.W.Fast.tw2902280849527537990 := ()
def PySem.W.Fast.tw1587974181268103430 := ()
def PySem.W.Fast.tw13234546369422564390 := ()
def PySem.W.Fast.tw7785075958140210919 := ()
def PySem.W.Fast.tw6525111641749663175 := ()
def PySem.W.Fast.tw10022914121031667179 := ()
def PySem.W.Fast.tw5191370289452409598 := ()
def PySem.W.Fast.tw15797194445109098743 := ()
def PySem.W.Fast.tw13244467692734600179 := ()
def PySem.W.Fast.tw1667941766693758703 := ()
def PySem.W.Fast.tw15397806839863109650 := ()
set_option maxRecDepth 100000 in
set_option maxHeartbeats 0 in
theorem PySem.Challenge.cw_ringmeet_k31_most_chalk_holds : PySem.Challenge.rw_ringmeet_k31_most_chalk.Holds := by
 w_on;refine PySem.W.holds_law (by decide+kernel) fun d=>?_;k_head;(case hw=>w_witness2)
 k_fill
 refine Mi.walk_m (l:=PySem.Challenge.rw_ringmeet_k31_most_chalk) (m:=Law.m_law) (k:=6) (x:="_law_script") rfl rfl ⟨rfl,by decide,by decide,rfl⟩ (fun w h Y=>PySem.W.kIn_of Y) Law.truth ?F
 case F=>
  intro w mg f h e G b;refine' Law.all_mk e G b ?a1 ?a2 ?a3 ?a4 ?a5 ?a6 ?a7 ?a8 ?a9 ?a10 ?a11 ?a12 ?a13 ?a14 ?a15 ?a16 ?a17 ?a18 ?a19 ?a20 ?a21 ?a22 ?a23 ?a24 ?a25 ?e_PARTS ?h1 ?h2 ?h5 ?h8 ?h11 ?z
  all_goals try (refine' Mi.GY ?a ?l ?c ?k;(case a=>k_is);(case l=>k_is);(case c=>k_is);(case k=>k_is))
  (case e_PARTS=>k_is)
  (case h1=>k_is)
  (case h2=>k_is)
  (case h5=>k_is)
  (case h8=>k_is)
  (case h11=>k_is)
  (case z=>exact ⟨by k_is,by k_is,by k_is,by k_is,by k_is,by k_is,by k_is,by k_is,by k_is,by k_is,by k_is,by k_is,by k_is,by k_is,trivial⟩)

