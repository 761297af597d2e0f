import PyProof.Rows.All
import Wide.All
import OpenK.AllK
import Wide.FinOn
import Lean
import PyProof.EqAt
import PyProof.EqKinds
import PyProof.TupleCall
import PySem.Challenge.RW_ringmeet_k29_walks_by_beats
set_option Elab.async false
set_option compiler.extract_closed false
set_option linter.all false
set_option maxRecDepth 100000
set_option maxHeartbeats 4000000
open List renaming getElem?_eq_some_iff → gE1, getElem?_append_left → gL1, getElem?_eq_getElem → gG1, mem_of_getElem? → gM1, getElem?_set_ne → gS1, length_append → lA1, length_map → lM1, getElem?_cons_succ → gC1, mem_cons_of_mem → mC1, mem_cons_self → mS1, getElem?_map → gP1, getElem?_append_right → gR1, size_toArray → sT1, map_cons → mP1, length_cons → lC1, length_replicate → lR1, mem_append_right → mA1
open Option renaming bind_eq_some_iff → oB1, map_eq_some_iff → oM1, bind_some → oS1, map_some → oP1
open Nat renaming le_refl → nR1, lt_of_lt_of_le → nL1, ne_of_lt → nN1, ne_of_gt → nG1
open Bool renaming and_eq_true → bA1, false_eq_true → bF1
open Array renaming getElem?_eq_getElem → aG1, getElem?_toList → aT1
open PySem.W renaming Frag → Fg1, nsIn → wN1, keepIn → wK1, codeIn → wC1, fnOf → wF1, mg_of → wM1
open PySem.Heap renaming get?_push_of_some → hP1, get?_push_size → hS1, lt_size → hL1, size_push → hZ1, get?_update_ne → hU1, get?_update_self → hW1
open PySem renaming wpAny_bind → wB1, wpAny_pure → wP1, wpAny_setField_rec → wS1, wpAny_newObj_type → wO1, codeAny_builtin → wD1, wpAny_call_entry → wE1
open List renaming take_nil → av, drop_nil → aw, mem_filter → aA, mem_range → aB, filterMap_cons → aE, mem_cons → aF, mem_append → aG, mem_append_left → aH, getElem?_set_self → aI, mem_filterMap → aL, append_nil → aM, nodup_cons → aN, replicate → aO, length_take → aQ, getElem?_replicate → aR, getElem?_take_of_lt → aS, take_sublist → aT, filterMap_map → aU, length_drop → aV, length_set → aW, length_singleton → aY, map_nil → aZ, find?_cons → bc, any_cons → bd, length_nil → bf, cons_append → bj, prefix_rfl → bn, reverse_cons → bo, nodup_nil → bq, getElem?_of_mem → br, map_map → bv, prefix_append → bw, nodup_append → bB, all_eq_true → bD, drop_drop → bF, forIn_cons → bG, lookup_cons → bH, append_assoc → bI, getD_eq_getElem?_getD → bL, zipIdx_cons → bM, not_mem_nil → bN, all_cons → bR, any_eq_true → bT, getElem_mem → bU, zip_cons_cons → bV, drop_eq_getElem_cons → bW, cons_prefix_cons → bY, drop_zero → bZ, take_length → b4, ext_getElem? → b5, getElem?_eq_none → b6, findIdx?_eq_some_iff_getElem → b8, take_of_length_le → ca, foldl_cons → cb, length_reverse → cc, pairwise_cons → cf, mem_map → ci, getElem?_toArray → cm, mapM_toArray → cq, all_toArray → cr, length_eq_zero_iff → cu, pairwise_iff_getElem → cw, pairwise_append → cC, getElem?_drop → cD, drop_sublist → cE, pairwise_lt_range → cF, map_append → cG, take_succ → cH, length_eraseIdx_of_lt → cJ, take_append_drop → cK, eraseIdx_eq_take_drop_succ → cM, getElem?_range → cN, mem_of_mem_take → cO, mem_of_mem_drop → cP, contains_iff_mem → cR, forall_mem_nil → cS, perm_append_comm → cT, take_succ_cons → cU, take_zero → cV, extract_eq_take_drop → cX, mem_singleton → cY, mem_reverse → cZ, nil_append → c4, set_append_right → c6, set_cons_zero → c7, flatten_cons → c8, set_cons_succ → c9, length_pos_iff → da, flatten_append → db, take_left → de, map_congr_left → dg, filter_cons → di, pairwise_map → dj, getElem?_cons_zero → dk, length_filter_le → dq, zipWith → dw, zipWith_cons_cons → dy, all_append → dz, length_range → dA
open Option renaming some → ay, isSome_iff_exists → aP, isSome_map → bg, getD_some → b9
open Nat renaming lt_irrefl → az, le_trans → aC, le_of_lt → aD, le_succ → aX, le_of_not_lt → a0, lt_trans → bh, zero_le → bi, add_assoc → bm, le_add_right → bt, add_sub_cancel_left → bu, not_lt_zero → bA, min_eq_left → bC, lt_succ_self → bE, lt_of_le_of_lt → bJ, le_of_succ_le → bK, zero_add → bP, lt_or_ge → bX, lt_succ_of_lt → cI, sub_self → cQ, mul_le_mul_right → dr
open Array renaming length_toList → aJ, perm_iff_toList_perm → cg, mem_toList_iff → cj, mem_of_getElem? → ck, getElem?_eq_none → cv, toList_append → cy, toList_push → cA, toList_extract → cB, getElem_mem → cW, toList_reverse → c5
open Bool renaming false_ne_true → aK, and_true → bO, or_eq_true → bQ, eq_iff_iff → bS, not_true → b7, not_false → cp, and_self → df
open PySem renaming Value → dB, Shared → dD, Addr → dE, Program → dF, Around → dG, World → dH, mainGlobals → dI, starEach → dJ, sizeLine → dL, wpAny → dM, Heap → dN, FuncData → dP, Stmt → dQ, Scope → dR
open Option renaming some → Z, none → Y
open Bool renaming true → M, false → J
theorem Mi.O{α}{a:α}:a=a:=rfl
open Mi (O)
theorem Mi.al{p:Prop}[Decidable p]:(decide p=true)=p:=decide_eq_true_eq
theorem Mi.ak{c:Prop}{h:Decidable c}(a:c){α:Sort _}{t e:α}:ite c t e=t:=if_pos a
theorem Mi.aj{c:Prop}{h:Decidable c}(a:¬c){α:Sort _}{t e:α}:ite c t e=e:=if_neg a
theorem Mi.ai{p:Prop}[Decidable p]:¬p→decide p=false:=decide_eq_false
theorem Mi.ah{p:Prop}[Decidable p]:p→decide p=true:=decide_eq_true
open List renaming range → af
open Mi (al ak aj ai ah)
noncomputable section
namespace L2
open PySem PySem.Spec PyProof.Rows
abbrev Key:=Sum Int Str
noncomputable def oM:Key->dB->Bool
 | .inl k,v=>Value.isInt k v
 | .inr x,v=>Value.isStrOf x v
noncomputable def IK(w:dH):Key->Int
 | .inl k=>hashInt k
 | .inr x=>hashStr w x
theorem eY:∀{k:Key} {v:dB},oM k v=M->(∃i t,k=Sum.inl i/\v=Value.int i t)\/(∃x t,k=Sum.inr x/\v=Value.str x t)
 | .inl i,v,h=>by
  obtain⟨t,e⟩:=Value.isInt_shape (k:=i) (v:=v) h;exact .inl ⟨i,t,O,e⟩
 | .inr x,v,h=>by
  obtain⟨t,e⟩:=Value.isStrOf_shape (x:=x) (v:=v) h;exact .inr ⟨x,t,O,e⟩
theorem wV(i:Int)(t:Tok):oM (.inl i) (.int i t)=M:=by simp[oM,Value.isInt]
theorem wU(x:Str)(t:Tok):oM (.inr x) (.str x t)=M:=by simp[oM,Value.isStrOf]
theorem Fa(a b:Int):decide ((Sum.inl a:Key)=Sum.inl b)=(a == b):=by
 by_cases e:a=b
 ·subst e;simp
 ·have h:¬ (Sum.inl a:Key)=Sum.inl b:=λq=>e (Sum.inl.inj q);rw[ai h];exact(beq_eq_false_iff_ne.mpr e).symm
theorem E6(a b:Str):decide ((Sum.inr a:Key)=Sum.inr b)=decide (a=b):=by
 by_cases e:a=b
 ·subst e;simp
 ·have h:¬ (Sum.inr a:Key)=Sum.inr b:=λq=>e (Sum.inr.inj q);rw[ai h,ai e]
theorem E9(a:Int)(b:Str):decide ((Sum.inl a:Key)=Sum.inr b)=J:=ai (λq=>nomatch q)
theorem E7(a:Str)(b:Int):decide ((Sum.inr a:Key)=Sum.inl b)=J:=ai (λq=>nomatch q)
noncomputable def eW(prog:dF)(w:dH):PySem.KeyKind prog w Key where
 is:=oM
 hash:=IK w
 inj:=λv a b ha hb=>by
  rcases eY ha with⟨i,t,rfl,rfl⟩|⟨x,t,rfl,rfl⟩
  ·rcases eY hb with⟨j,u,rfl,e⟩|⟨y,u,rfl,e⟩
   ·injection e with e1 _;rw[e1]
   ·exact nomatch e
  ·rcases eY hb with⟨j,u,rfl,e⟩|⟨y,u,rfl,e⟩
   ·exact nomatch e
   ·injection e with e1 _;rw[e1]
 byValue:=λk v h=>by
  rcases eY h with⟨i,t,rfl,rfl⟩|⟨x,t,rfl,rfl⟩<;>rfl
 pyHash:=λhv h=>by
  rcases eY hv with⟨i,t,rfl,rfl⟩|⟨x,t,rfl,rfl⟩
  ·exact wpAny_pyHash_int h
  ·exact wpAny_pyHash_str h
 eqBool:=λhu hv h=>by
  rcases eY hu with⟨i,t,rfl,rfl⟩|⟨x,t,rfl,rfl⟩
  ·rcases eY hv with⟨j,u,rfl,rfl⟩|⟨y,u,rfl,rfl⟩
   ·rw[Fa]at h;exact wpAny_eqBool_int h
   ·rw[E9]at h;exact SeqAt.EqAt.int_str i t y u _ _ _ _ h
  ·rcases eY hv with⟨j,u,rfl,rfl⟩|⟨y,u,rfl,rfl⟩
   ·rw[E7]at h;exact SeqAt.EqAt.str_int x t j u _ _ _ _ h
   ·rw[E6]at h;exact wpAny_eqBool_str h
 «strs» :=λk x t v h=>by
  rcases eY h with⟨i,u,rfl,e⟩|⟨y,u,rfl,e⟩
  ·exact nomatch e
  ·injection e with e1 _;subst e1;cases v<;>rfl
theorem rZ(prog:dF)(w:dH)(i:Int)(t:Tok):(eW prog w).is (.inl i) (.int i t)=M:=wV i t
theorem rY(prog:dF)(w:dH)(x:Str)(t:Tok):(eW prog w).is (.inr x) (.str x t)=M:=wU x t
end L2
namespace L2
open PySem PySem.Spec PyProof.Rows
inductive V where
 |non|bl (b:Bool)|int (i:Int)|str (x:Str)|byt (b:Array UInt8)|flt (b:UInt64)|ref (a:dE)|ty (n:String)
 deriving DecidableEq
noncomputable def d7:V->dB->Prop
 | .non,u=>u=Value.none
 | .bl b,u=>u=Value.bool b
 | .int i,u=>∃t,u=Value.int i t
 | .str x,u=>∃t,u=Value.str x t
 | .byt b,u=>∃t,u=Value.bytes b t
 | .flt b,u=>∃t,u=Value.float b t
 | .ref a,u=>u=Value.ref a
 | .ty n,u=>u=Value.type n
abbrev ei:List V->List dB->Prop:=Paired d7
theorem ei.length{xs:List V}{a:List dB}(r:ei xs a):xs.length=a.length:=Paired.length r
theorem ei.get:∀{xs:List V} {a:List dB} {i:Nat} {x:V},ei xs a->xs[i]?=Z x -> ∃u,a[i]?=Z u/\d7 x u:=by
 intro xs a i x h e
 induction h generalizing i with
 |nil=>cases e
 |cons r t ih=>cases i with
  |zero=>cases e;exact⟨_,O,r⟩
  |succ i=>exact ih (i:=i) e
theorem ei.set{x:V}{u:dB}(r:d7 x u):∀{xs:List V} {a:List dB} (i:Nat),ei xs a->ei (xs.set i x) (a.set i u):=by
 intro xs a i h
 induction h generalizing i with
 |nil=>exact .nil
 |cons q t ih=>cases i with
  |zero=>exact .cons r t
  |succ i=>exact .cons q (ih i)
theorem ei.append:∀{xs ys:List V} {a ws:List dB},ei xs a->ei ys ws->ei (xs++ys) (a++ws):=by
 intro xs ys a ws h s
 induction h with
 |nil=>exact s
 |cons r t ih=>exact .cons r ih
theorem ei.take:∀{xs:List V} {a:List dB} (n:Nat),ei xs a->ei (xs.take n) (a.take n):=by
 intro xs a n h
 induction h generalizing n with
 |nil=>rw[av,av];exact .nil
 |cons r t ih=>cases n with
  |zero=>exact .nil
  |succ n=>exact .cons r (ih n)
theorem ei.drop:∀{xs:List V} {a:List dB} (n:Nat),ei xs a->ei (xs.drop n) (a.drop n):=by
 intro xs a n h
 induction h generalizing n with
 |nil=>rw[aw,aw];exact .nil
 |cons r t ih=>cases n with
  |zero=>exact .cons r t
  |succ n=>exact ih n
noncomputable def l5:Option V->Option dB->Prop
 |some v,Z u=>d7 v u
 |none,Y=>True
 |_,_=>False
noncomputable def KV{κ:Type}:List (κ×V)->List (κ×dB)->Prop:=Paired λ(p:κ×V) (q:κ×dB)=>p.1=q.1/\d7 p.2 q.2
noncomputable def kV:Key->V
 | .inl i=>.int i
 | .inr x=>.str x
inductive HO where
 /-- a list -/
 |lst (xs:List V)
 /-- a tuple (never changes) -/
 |tup (xs:List V)
 /-- a dict whose keys are ints and texts; one whose keys are tuples of ints and texts (the empty one is both) -/
 |dK (kvs:List (Key×V))|dT (kvs:List (List Key×V))
 /-- a set of ints: its members, its size -/
 |set (S:Int->Bool) (n:Nat)
 /-- an instance of the class at C, its dict at dx, its attributes -/
 |ins (C dx:dE) (fs:List (Str×V))
 /-- the dict of the instance at x -/
 |own (x:dE)
 /-- the dict of an exception -/
 |xd (fs:List (Str×V))
 /-- a bound method, f of x -/
 |met (f x:dE)
 /-- a range object lo, lo + 1, .. below hi -/
 |rng (lo hi:Int)
 /-- a thing that is known to the object (the script; a dict while a loop walks it): read, never written while it is so -/
 |frz (o:Obj) (u:HO)
 /-- a code object's table -/
 |tbl (ps:Array dB)
 /-- any other thing, by what is true of its one object (a def of one's own: SetO a S n := HO.ext λh => ..) -/
 |ext (φ:dN->Prop)
abbrev Hp:=dE->Option HO
noncomputable def upd(H:Hp)(a:dE)(o:HO):Hp:=λb=>if b=a then Z o else H b
theorem d4{H:Hp}{a:dE}{o:HO}:upd H a o a=Z o:=by unfold upd;rw[ak O]
theorem dY{H:Hp}{a b:dE}{o:HO}(h:b≠a):upd H a o b=H b:=by unfold upd;rw[aj h]
theorem GE{H:Hp}{a b:dE}{o u:HO}(h:H a=Z o)(h':H b=Z u)(d:o≠u):a≠b:=by
 intro e;subst e;rw[h]at h';exact d (Option.some.inj h')
theorem eD{H:Hp}{a b:dE}{o:HO}(h:H a=Z o)(h':H b=Y):a≠b:=by
 intro e;subst e;rw[h]at h';cases h'
section
variable(P:dF) (w:dH)
noncomputable def eN(H:Hp)(h:dN)(a:dE):HO->Prop
 | .lst xs=>xs.length<=dL /\ ∃(its:List dB) (n:Nat),ei xs its/\h.get? a=Z {cls:=.type "list",data:=.seq its.toArray n}
 | .tup xs=>xs.length<=dL /\ ∃its:List dB,ei xs its/\IsTup h a its.toArray
 | .dK kvs=>kvs.length<=dL/\(a == sysModules)=J /\ ∃vs,KV kvs vs/\h.DictOf (eW P w) a vs
 | .dT kvs=>kvs.length<=dL/\(a == sysModules)=false /\ ∃ xs:List (List Key×dE×dB),
   Paired (λ(p:List Key×V) (q:List Key×dE×dB)=>p.1=q.1/\H q.2.1=Z (.tup (p.1.map kV))/\d7 p.2 q.2.2) kvs xs /\
   ∃o es ep,h.get? a=Z o/\o.ExactDict/\o.data = .dict es ep/\es.toList=xs.map (entryOfKey (tupleKind (eW P w)))/\(xs.map (·.1)).Nodup
 | .set S n=>h.SetOf (intKind P w) a S n
 | .ins C dx fs=>H dx=some (.own a)/\fs.length<=1000/\dx≠a/\h.get? a=some (PySem.W.instObj C dx) /\
   ∃mA,h.Ns1 dx mA/\(∀f,l5 (fs.lookup f) (mA f))/\PySem.Within mA (fs.map (·.1))
 | .own _=>∃o,h.get? a=Z o
 | .xd fs=>∃mA,h.Ns1 a mA /\ ∀f,l5 (fs.lookup f) (mA f)
 | .rng lo hi=>∃t u v,h.get? a=Z {cls:=.type "range",data:=.fields #[.int lo t,.int hi u,.int 1 v]}
 | .frz o u=>h.get? a=Z o/\eN H h a u
 | .tbl ps=>h.get? a=Z {cls:=.none,data:=.fields ps}
 | .met f x=>h.get? a=Z (PySem.W.methodObj (.ref f) (.ref x))
 | .ext φ=>φ h/\(∃o,h.get? a=Z o) /\ ∀h1 h2:dN,φ h1->(∀o,h1.get? a=Z o->h2.get? a=Z o)->φ h2
noncomputable def kS(H:Hp)(h:dN):Prop:=∀a o,H a=Z o->eN P w H h a o
end
section
variable{P:dF}{w:dH}{H H':Hp}{h h':dN}{a:dE}{o:HO}
theorem eN.lt(x:eN P w H h a o):a<h.objs.size:=by
 cases o with
 |lst xs=>obtain⟨_,_,_,_,e⟩:=x;exact hL1 e
 |tup xs=>obtain⟨_,_,_,p⟩:=x;exact p.lt
 |dK kvs=>obtain⟨_,_,_,_,o,_,_,e,_⟩:=x;exact hL1 e
 |dT kvs=>obtain⟨_,_,_,_,o,_,_,e,_⟩:=x;exact hL1 e
 |set S n=>obtain⟨o,_,_,_,e,_⟩:=x;exact hL1 e
 |ins C dx fs=>obtain⟨_,_,_,e,_⟩:=x;exact hL1 e
 |own y=>obtain⟨_,e⟩:=x;exact hL1 e
 |xd fs=>obtain⟨_,⟨_,_,_,e,_⟩,_⟩:=x;exact hL1 e
 |rng lo hi=>obtain⟨_,_,_,e⟩:=x;exact hL1 e
 |frz b u=>obtain⟨e,_⟩:=x;exact hL1 e
 |tbl ps=>exact hL1 (show h.get? a=Z _ from x)
 |met f y=>exact hL1 (show h.get? a=Z _ from x)
 |ext φ=>obtain⟨_,⟨_,e⟩,_⟩:=x;exact hL1 e
theorem Paired.mapP{α β:Type}{F G:α->β->Prop}:∀{l₁:List α} {l₂:List β},Paired F l₁ l₂->(∀a b,F a b->G a b)->Paired G l₁ l₂:=by
 intro a b h f
 induction h with
 |nil=>exact .nil
 |cons r t ih=>exact .cons (f _ _ r) ih
theorem eN.stay(x:eN P w H h a o)(k:∀ b u,(b=a\/H b=Z (.own a))->h.get? b=Z u->h'.get? b=Z u)(ho:∀b,H b=Z (.own a)->H' b=Z (.own a))(ht:∀b xs,H b=Z (.tup xs)->H' b=Z (.tup xs)):eN P w H' h' a o:=by
 induction o with
 |lst xs=>obtain⟨z,i,n,r,e⟩:=x;exact⟨z,i,n,r,k _ _ (.inl O) e⟩
 |tup xs=>obtain⟨z,i,r,g,e,c⟩:=x;exact⟨z,i,r,g,k _ _ (.inl O) e,c⟩
 |dK kvs=>obtain⟨z,y,vs,r,g,es,ep,e,c⟩:=x;exact⟨z,y,vs,r,g,es,ep,k _ _ (.inl O) e,c⟩
 |dT kvs=>
  obtain⟨z,y,xs,r,g,es,ep,e,c⟩:=x;exact⟨z,y,xs,Paired.mapP r λp q z=>⟨z.1,ht _ _ z.2.1,z.2.2⟩,g,es,ep,k _ _ (.inl O) e,c⟩
 |set S n=>obtain⟨g,es,ep,t,e,c⟩:=x;exact⟨g,es,ep,t,k _ _ (.inl O) e,c⟩
 |ins C dx fs=>
  obtain⟨d,z,ne,e,mA,⟨j,es,ep,l,c⟩,r⟩:=x;exact⟨ho _ d,z,ne,k _ _ (.inl O) e,mA,⟨j,es,ep,k _ _ (.inr d) l,c⟩,r⟩
 |own y=>obtain⟨g,e⟩:=x;exact⟨g,k _ _ (.inl O) e⟩
 |xd fs=>obtain⟨mA,⟨j,es,ep,e,c⟩,r⟩:=x;exact⟨mA,⟨j,es,ep,k _ _ (.inl O) e,c⟩,r⟩
 |rng lo hi=>obtain⟨t,u,v,e⟩:=x;exact⟨t,u,v,k _ _ (.inl O) e⟩
 |frz g u ih=>obtain⟨e,q⟩:=x;exact⟨k _ _ (.inl O) e,ih q⟩
 |tbl ps=>
  have e:h.get? a=Z {cls:=.none,data:=.fields ps}:=x;show h'.get? a=Z {cls:=.none,data:=.fields ps};exact k a _ (.inl O) e
 |met f y=>
  have e:h.get? a=Z (PySem.W.methodObj (.ref f) (.ref y)):=x;show h'.get? a=Z (PySem.W.methodObj (.ref f) (.ref y));exact k a _ (.inl O) e
 |ext φ=>obtain⟨p,⟨o,e⟩,st⟩:=x;exact⟨st _ _ p λo q=>k _ _ (.inl O) q,⟨o,k _ _ (.inl O) e⟩,st⟩
theorem kS.lt(x:kS P w H h)(e:H a=Z o):a<h.objs.size:=(x a o e).lt
theorem kS.fresh(x:kS P w H h)(e:h.objs.size<=a):H a=Y:=by
 cases q:H a with
 |none=>rfl
 |some u=>exact absurd (nL1 (x.lt q) e) (az _)
theorem kS.kept(x:kS P w H h)(k:∀b u,h.get? b=Z u->h'.get? b=Z u):kS P w H h':=λa o e=>
 (x a o e).stay (λb u _ q=>k b u q) (λ_ q=>q) λ_ _ q=>q
theorem kS.laid(x:kS P w H h)(k:∀b u,h.get? b=Z u->h'.get? b=Z u)(hp:h.objs.size<=a)(new:eN P w (upd H a o) h' a o):kS P w (upd H a o) h':=λb u e=>by
 have d:=x.fresh hp;by_cases f:b=a
 ·subst f;rw[d4]at e;cases e;exact new
 ·rw[dY f]at e;exact(x b u e).stay (λc v _ q=>k c v q) (λc q=>by rw[dY (eD q d)];exact q) λc xs q=>by rw[dY (eD q d)];exact q
end
noncomputable def Rd(H:Hp)(a:dE)(u:HO):Prop:=H a=Z u \/ ∃o,H a=Z (.frz o u)
theorem Rd.ok{P:dF}{w:dH}{H:Hp}{h:dN}{a:dE}{u:HO}(r:Rd H a u)(x:kS P w H h):eN P w H h a u:=by
 rcases r with r|⟨o,r⟩
 ·exact x a u r
 ·obtain⟨_,q⟩:=x a _ r;exact q
noncomputable def Mut:Option HO->Prop
 |some (.lst _)=>True
 |some (.dK _)=>True
 |some (.dT _)=>True
 |some (.set _ _)=>True
 |some (.ins _ _ _)=>True
 |some (.ext _)=>True
 |_=>False
section
variable{P:dF}{w:dH}{H:Hp}{h h':dN}{x e:dE}{o':HO}
theorem kS.write(ok:kS P w H h)(mu:Mut (H x))(he:e=x\/H e=Z (.own x))(k:∀ b u,b≠e->h.get? b=Z u->h'.get? b=Z u)(i:∃ u,h'.get? e=Z u)(new:eN P w (upd H x o') h' x o'):kS P w (upd H x o') h':=λb u q=>by
 have d:∀c y,H c=Z (.own y)->c≠x:=λc y r z=>by subst z;rw[r]at mu;exact mu
 have f:∀c xs,H c=Z (.tup xs)->c≠x:=λc xs r z=>by subst z;rw[r]at mu;exact mu
 by_cases g:b=x
 ·subst g;rw[d4]at q;cases q;exact new
 ·rw[dY g]at q;by_cases a:b=e
  ·have j:H b=some (.own x):=by
    rcases he with z|z
    ·exact absurd (a.trans z) g
    ·rw[a];exact z
   rw[q]at j;cases j;obtain⟨v,l⟩:=i;exact⟨v,by rw[a];exact l⟩
  ·refine(ok b u q).stay (λc v hc r=>k c v ?_ r) (λc r=>by rw[dY (d c b r)];exact r) λc xs r=>by rw[dY (f c xs r)];exact r
   rcases hc with rfl|hc
   ·exact a
   ·rintro rfl;rcases he with z|z
    ·exact d c b hc z
    ·rw[hc]at z;cases z;exact g O
end
structure Un (fs ex:List dE)(H H':Hp)(h h':dN):Prop where
 keep:∀b o,h.get? b=some o->H b=none->b∉fs->b∉ex->h'.get? b=some o
 slot:∀b o,h.get? b=some o->H b=none->b∈fs->b∉ex -> ∃sl,h'.get? b=some {o with slots:=sl}
 free:∀b o,h.get? b=some o->H b=none->b∉ex->H' b=none
 there:∀b o,h.get? b=some o->b∉ex -> ∃o',h'.get? b=some o'
 tups:∀b xs,H b=some (.tup xs)->H' b=some (.tup xs)
 frzs:∀b o u,H b=some (.frz o u)->H' b=some (.frz o u)
 tbls:∀b ps,H b=some (.tbl ps) -> ∃more,H' b=some (.tbl (ps++more))
section
variable{fs fs' ex ex':List dE}{H H1 H2:Hp}{h h1 h2 h':dN}{a x e:dE}{o:HO}
theorem Un.any(u:Un fs ex H H1 h h1){b:dE}{a:Obj}(q:h.get? b=Z a)(n:H b=Y)(hx:b∉ex):∃sl,h1.get? b=Z {a with slots:=sl}:=by
 by_cases c:b∈fs
 ·exact u.slot b a q n c hx
 ·exact⟨a.slots,u.keep b a q n c hx⟩
theorem Un.kept(k:∀b u,h.get? b=Z u->h'.get? b=Z u):Un fs ex H H h h':=
 ⟨λb a q _ _ _=>k b a q,λb a q _ _ _=>⟨a.slots,k b a q⟩,λ_ _ _ n _=>n,λb a q _=>⟨a,k b a q⟩,λ_ _ q=>q,λ_ _ _ q=>q,λ_ ps q=>⟨#[],by rw[q];simp⟩⟩
theorem Un.refl:Un fs ex H H h h:=Un.kept λ_ _ q=>q
theorem Un.laid(k:∀b u,h.get? b=Z u->h'.get? b=Z u)(hp:h.objs.size<=a)(hn:H a=Y):Un fs ex H (upd H a o) h h' where
 keep:=λb u q _ _ _=>k b u q
 slot:=λb u q _ _ _=>⟨u.slots,k b u q⟩
 free:=λb u q n _=>by rw[dY (nN1 (nL1 (hL1 q) hp))];exact n
 there:=λb u q _=>⟨u,k b u q⟩
 tups:=λb xs q=>by rw[dY (eD q hn)];exact q
 frzs:=λb u xs q=>by rw[dY (eD q hn)];exact q
 tbls:=λb ps q=>⟨#[],by rw[dY (eD q hn),q];simp⟩
theorem Un.write(mu:Mut (H x))(he:e=x\/H e=Z (.own x))(k:∀b u,b≠e->h.get? b=Z u->h'.get? b=Z u)(c:∃u,h'.get? e=Z u):Un fs ex H (upd H x o) h h':=by
 have g:∀b,H b=Y->b≠x:=λb n z=>by subst z;rw[n]at mu;exact mu
 have f:∀b,H b=Y->b≠e:=λb n z=>by
  subst z;rcases he with r|r
  ·exact g b n r
  ·rw[n]at r;cases r
 have d:∀b u,H b=Z u -> ¬ Mut (Z u)->b≠x:=λb u q nm z=>by subst z;rw[q]at mu;exact nm mu
 refine⟨λb u q n _ _=>k b u (f b n) q,λb u q n _ _=>⟨u.slots,k b u (f b n) q⟩,λb u q n _=>by rw[dY (g b n)];exact n,λb u q _=>?_,
  λb xs q=>by rw[dY (d b _ q λz=>z)];exact q,λb u xs q=>by rw[dY (d b _ q λz=>z)];exact q,λb ps q=>⟨#[],by rw[dY (d b _ q λz=>z),q];simp⟩⟩
 by_cases a:b=e
 ·subst a;exact c
 ·exact⟨u,k b u a q⟩
end
noncomputable def trk(h:dN)(H:Hp):List dE:=(af h.objs.size).filter λa=>(H a).isSome
noncomputable def qp(h:dN)(H:Hp):dN:=PySem.W.hideAll h (trk h H)
theorem w9(h:dN)(H:Hp):(qp h H).objs.size=h.objs.size:=PySem.W.hideAll_size _ _
theorem zV{h:dN}{H:Hp}{b:dE}{o:Obj}(e:h.get? b=Z o)(n:H b=Y):(qp h H).get? b=Z o:=
 PySem.W.hideAll_get _ e λa=>by
  have q:(H b).isSome=M:=(aA.mp a).2;rw[n]at q;simp at q
theorem BG{h:dN}{H:Hp}{b:dE}{o:Obj}(e:(qp h H).get? b=Z o):h.get? b=Z o/\H b=Y:=by
 have a:h.get? b=Z o:=PySem.W.of_hideAll (trk h H) e;refine⟨a,?_⟩;cases q:H b with
 |none=>rfl
 |some x=>
  have c:b∈trk h H:=aA.mpr ⟨aB.mpr (hL1 a),by simp[q]⟩;have z:(qp h H).get? b=Y:=PySem.W.hideAll_none (trk h H) c;rw[z]at e;cases e
noncomputable def CK(g h:dN)(L:dE):List (dE×Obj):=(af h.objs.size).filterMap λa=>if a=L\/(g.get? a).isSome=M then Y else(h.get? a).map λo=>(a,o)
noncomputable def rest(g h:dN)(L d:dE):List (dE×Obj):=(CK g h L).filter λp=>decide (p.1≠d)
end L2
namespace L2
open PySem PySem.Spec PyProof.Rows
structure Mod (K:Fg1)(mg:Str->Option dB)(base:dN):Prop where
 kin:K.In base
 glob:base.Ns dI mg
 blt:∃mb,base.Ns builtinsNs mb /\ ∀x:Str,x≠"__name__"->mb x=bootBuiltins x
 nolimit:base.NoLimit
structure Cx where
 prog:dF
 w:dH
 K:Fg1
 mg:Str->Option dB
 base:dN
 A:dG
 N:List Str
 s₀:dD
 H₀:Hp
 env:Env
 outer:List Env
 stack:List Env
 ex:List dE
 fn:Str->Bool
 calm:Bool
 pn:List (dE×Obj)
 xe:dB->dD->Prop
noncomputable def frs(l:List Env):List dE:=l.filterMap (·.frame)
abbrev Cx.fs(X:Cx):List dE:=frs X.outer
noncomputable def Vis(sc:dR)(x:Str):Prop:=sc.names.lookup x=Z .local\/sc.names.lookup x=Z .cell\/sc.names.lookup x=Z .free
noncomputable def uQ(sc:dR)(x:Str):Prop:=sc.names.lookup x=Z .local\/sc.names.lookup x=Z .cell
noncomputable def Jc(env:Env)(h:dN)(m:Str->Option dB)(x:Str)(u:dB):Prop:=
 (env.kindOf x=Z .local/\m x=Z u)\/((env.kindOf x=Z .cell\/env.kindOf x=Z .free) /\ ∃c,env.cells.lookup x=Z c/\h.IsCell c (Z u))
structure Cx.Ok (X:Cx):Prop where
 mod:Mod X.K X.mg X.base
 kind:X.env.scope.kind = .function
 glob:X.env.globals=dI
 blt:X.env.builtins=builtinsNs
 above:X.s₀.heap.objs.size<=X.env.locals
 inj:∀x y c,X.env.cells.lookup x=some c->X.env.cells.lookup y=some c->x=y
 has:∀x,(X.env.kindOf x=some .cell\/X.env.kindOf x=some .free) -> ∃c,X.env.cells.lookup x=some c
 cab:∀x c,X.fn x=true->X.env.cells.lookup x=some c->X.s₀.heap.objs.size<=c
 hd:X.calm=true->X.A.handled=none
 frames:X.A.frames=some X.stack
 stk:X.stack=X.outer\/(X.stack=X.env::X.outer/\X.env.frame=some X.env.locals)
 exf:∀b∈X.ex,b≠X.env.locals /\ ∀x c,X.env.cells.lookup x=some c->c≠b
 bs:∀b o,X.base.get? b=some o->X.s₀.heap.get? b=some o/\X.H₀ b=none
 bsz:X.base.objs.size<=X.s₀.heap.objs.size
 noex:∀b o,X.base.get? b=some o->b∉X.ex
 exfs:∀b∈X.ex,b∉X.fs
 funs:X.s₀.heap.FunFrames X.base X.outer
 frf:∀b∈X.fs,X.H₀ b=none
structure Inv (X:Cx)(ag:List (dE×Obj))(σ:List (Option V))(H:Hp)(s:dD):Prop where
 ok:X.Ok
 os:s.os=X.s₀.os
 bare:AllBare s.gens
 base:Un X.fs X.ex X.H₀ H X.s₀.heap s.heap
 loc:∃m,s.heap.Ns X.env.locals m /\ ∀(i:Nat) (x:Str) (v:V),X.N[i]?=some x->σ[i]?=some (some v)->Vis X.env.scope x -> ∃u,d7 v u/\Jc X.env s.heap m x u
 cell:∀x c,X.env.cells.lookup x=some c -> ∃v,s.heap.IsCell c v
 free:H X.env.locals=none
 freeC:∀x c,X.env.cells.lookup x=some c->H c=none
 pin:∀p∈X.pn++ag,s.heap.get? p.1=some p.2/\H p.1=none/\p.1≠X.env.locals/\p.1∉X.fs /\ ∀v,p.2.data ≠ .cell v
 hok:kS X.prog X.w H s.heap
 len:σ.length=X.N.length
section
variable{X:Cx}{ag:List (dE×Obj)}{σ:List (Option V)}{H H':Hp}{s:dD}{h':dN}
theorem Cx.Ok.nofr(ok:X.Ok){b:dE}{o:Obj}(e:X.base.get? b=Z o):b∉X.fs:=λa=>by
 have:=(ok.funs.mem a).1;rw[e]at this;cases this
theorem Inv.bs(I:Inv X ag σ H s):∀b o,X.base.get? b=Z o->s.heap.get? b=Z o/\H b=Y:=λb o e=>
 ⟨I.base.keep b o (I.ok.bs b o e).1 (I.ok.bs b o e).2 (I.ok.nofr e) (I.ok.noex b o e),I.base.free b o (I.ok.bs b o e).1 (I.ok.bs b o e).2 (I.ok.noex b o e)⟩
theorem Inv.bk(I:Inv X ag σ H s):∀b o,X.base.get? b=Z o->s.heap.get? b=Z o:=λb o e=>(I.bs b o e).1
theorem Inv.mod(I:Inv X ag σ H s):Mod X.K X.mg X.base:=I.ok.mod
theorem Inv.kIn(I:Inv X ag σ H s):X.K.In s.heap:=I.ok.mod.kin.keeps I.bk
theorem Inv.lt(I:Inv X ag σ H s):X.env.locals<s.heap.objs.size:=let ⟨_,hn,_⟩:=I.loc;hn.lt
theorem Inv.sz(I:Inv X ag σ H s):X.s₀.heap.objs.size<=s.heap.objs.size:=aC I.ok.above (aD I.lt)
theorem Inv.nofs(I:Inv X ag σ H s){a:dE}(h:s.heap.objs.size<=a):a∉X.fs:=λc=>by
 obtain⟨_,o,b,_⟩:=I.ok.funs.mem c;exact absurd (nL1 (hL1 b) (aC I.sz h)) (az _)
theorem Inv.cne(I:Inv X ag σ H s):∀x c,X.env.cells.lookup x=Z c->c≠X.env.locals:=λx c e z=>by
 obtain⟨v,o,f,d⟩:=I.cell x c e;obtain⟨m,⟨o',es,ep,b,a,_⟩,_⟩:=I.loc;rw[z,b]at f;cases f;rw[a]at d;cases d
theorem Inv.funs(I:Inv X ag σ H s):s.heap.FunFrames X.base X.outer:=by
 have all:∀(l:List Env),(∀b∈frs l,b∈X.fs)->X.s₀.heap.FunFrames X.base l->s.heap.FunFrames X.base l:=by
  intro l
  induction l with
  |nil=>intro _ _;trivial
  |cons m r ih=>
   intro f n;obtain⟨i,⟨L,o,d,g,j,h⟩,k⟩:=n;have a:L∈X.fs:=f L (by unfold frs;rw[aE,d];exact mS1);obtain⟨sl,e⟩:=I.base.slot L o j (I.ok.frf L a) a λz=>I.ok.exfs L z a;exact⟨i,⟨L,_,d,g,e,h⟩,ih (λb c=>f b (by unfold frs;rw[aE,d];exact mC1 _ c)) k⟩
 exact all X.outer (λ_ c=>c) I.ok.funs
theorem Inv.stack(I:Inv X ag σ H s):s.heap.FunFrames X.base X.stack:=by
 rcases I.ok.stk with e|⟨e,b⟩
 ·rw[e];exact I.funs
 ·rw[e];obtain⟨m,a,_⟩:=I.loc;refine .cons (by rw[I.ok.kind];decide) b a ?_ I.funs;exact Heap.get?_none_of_le (aC I.ok.bsz I.ok.above)
theorem Inv.stkSub(I:Inv X ag σ H s):∀b∈frs X.stack,b∈X.env.locals::X.fs:=λb a=>by
 rcases I.ok.stk with e|⟨e,c⟩
 ·rw[e]at a;exact mC1 _ a
 ·rw[e]at a;unfold frs at a;rw[aE,c]at a;exact a
theorem Inv.stkFree(I:Inv X ag σ H s):∀b∈frs X.stack,H b=Y:=λb a=>by
 rcases aF.mp (I.stkSub b a)with e|a
 ·rw[e];exact I.free
 ·obtain⟨_,o,c,_⟩:=I.ok.funs.mem a;exact I.base.free b o c (I.ok.frf b a) λz=>I.ok.exfs b z a
theorem Inv.step{g':Array GenState}{t':Nat}{d':Drawn}{ch:List dE}(I:Inv X ag σ H s)(j:∀b∈ch,(b∈X.ex\/X.s₀.heap.objs.size<=b)/\b≠X.env.locals/\(∀x c,X.env.cells.lookup x=some c->c≠b) /\ ∀p∈X.pn++ag,p.1≠b)(keep:∀b o,b≠X.env.locals->b∉X.fs->b∉ch->s.heap.get? b=some o->H b=none->h'.get? b=some o)(slot:∀b o,b≠X.env.locals->b∈X.fs->b∉ch->s.heap.get? b=some o->H b=none -> ∃sl,h'.get? b=some {o with slots:=sl})(f:∀b o,b∉ch->s.heap.get? b=some o->H b=none->H' b=none)(y:∀b o,b∉ch->s.heap.get? b=some o -> ∃o',h'.get? b=some o')(D:∀b xs,H b=some (.tup xs)->H' b=some (.tup xs))(G:∀b o u,H b=some (.frz o u)->H' b=some (.frz o u))(F:∀b ps,H b=some (.tbl ps) -> ∃more,H' b=some (.tbl (ps++more)))(ns:∀m,s.heap.Ns X.env.locals m->h'.Ns X.env.locals m)(am:kS X.prog X.w H' h')(hg:AllBare g'):
  Inv X ag σ H' {s with heap:=h',gens:=g',drawn:=d',toks:=t'}:=by
 have E:∀b o,X.s₀.heap.get? b=Z o->b≠X.env.locals:=λb o e=>nN1 (nL1 (hL1 e) I.ok.above);have w:∀b o,X.s₀.heap.get? b=Z o->b∉X.ex->b∉ch:=λb o e a A=>by
  rcases(j b A).1 with z|z
  ·exact a z
  ·exact absurd (nL1 (hL1 e) z) (az _)
 have h:∀x c,X.env.cells.lookup x=Z c -> ∀v,s.heap.IsCell c v->h'.IsCell c v:=λx c e v ⟨o,B,K⟩=>by
  have g:c∉ch:=λz=>(j c z).2.2.1 x c e O;by_cases hc:c∈X.fs
  ·obtain⟨sl,q⟩:=slot c o (I.cne x c e) hc g B (I.freeC x c e);exact⟨_,q,K⟩
  ·exact⟨o,keep c o (I.cne x c e) hc g B (I.freeC x c e),K⟩
 refine⟨I.ok,I.os,hg,⟨λb o e n A a=>?_,λb o e n A a=>?_,λb o e n a=>?_,λb o e a=>?_,λb xs e=>D b xs (I.base.tups b xs e),λb o xs e=>G b o xs (I.base.frzs b o xs e),λb ps e=>?_⟩,?_,λx c e=>?_,?_,λx c e=>?_,λp ao=>?_,am,I.len⟩
 ·exact keep b o (E b o e) A (w b o e a) (I.base.keep b o e n A a) (I.base.free b o e n a)
 ·obtain⟨sl,t⟩:=I.base.slot b o e n A a;obtain⟨L,C⟩:=slot b _ (E b o e) A (w b o e a) t (I.base.free b o e n a);exact⟨L,C⟩
 ·obtain⟨o',t⟩:=I.base.there b o e a;exact f b o' (w b o e a) t (I.base.free b o e n a)
 ·obtain⟨o',t⟩:=I.base.there b o e a;exact y b o' (w b o e a) t
 ·obtain⟨m1,t⟩:=I.base.tbls b ps e;obtain⟨m2,C⟩:=F b _ t;exact⟨m1++m2,by rw[C,Array.append_assoc]⟩
 ·obtain⟨m,P,Q⟩:=I.loc;refine⟨m,ns m P,λi x v t C au=>?_⟩;obtain⟨u,r,l⟩:=Q i x v t C au;refine⟨u,r,?_⟩;rcases l with l|⟨k,c,e,z⟩
  ·exact .inl l
  ·exact .inr ⟨k,c,e,h x c e _ z⟩
 ·obtain⟨v,z⟩:=I.cell x c e;exact⟨v,h x c e v z⟩
 ·obtain⟨m,⟨o,_,_,B,_⟩,_⟩:=I.loc;exact f _ o (λz=>(j _ z).2.1 O) B I.free
 ·obtain⟨v,o,B,K⟩:=I.cell x c e;exact f c o (λz=>(j c z).2.2.1 x c e O) B (I.freeC x c e)
 ·obtain⟨e,n,ne,N,d⟩:=I.pin p ao;have g:p.1∉ch:=λz=>(j p.1 z).2.2.2 p ao O;exact⟨keep p.1 p.2 ne N g e n,f p.1 p.2 g e n,ne,N,d⟩
theorem Inv.un{t':Nat}(I:Inv X ag σ H s)(u:Un X.fs [] H H' s.heap h')(g:kS X.prog X.w H' h'):Inv X ag σ H' {s with heap:=h',toks:=t'}:=by
 obtain⟨m,⟨o,es,ep,h,r⟩,_⟩:=id I.loc;obtain⟨sl,j⟩:=u.any h I.free (by simp);exact I.step (g':=s.gens) (d':=s.drawn) (ch:=[]) (λ_ z=>nomatch z) (λb o _ d _ e n=>u.keep b o e n d (by simp)) (λb o _ d _ e n=>u.slot b o e n d (by simp)) (λb o _ e n=>u.free b o e n (by simp)) (λb o _ e=>u.there b o e (by simp)) u.tups u.frzs u.tbls (λl k=>by
  obtain⟨o',f,c,a,i⟩:=k;rw[h]at a;cases a;exact⟨_,f,c,j,i⟩) g I.bare
theorem Inv.call{g':Array GenState}{t':Nat}{d':Drawn}{ch:List dE}(I:Inv X ag σ H s)(u:Un (frs X.stack) ch H H' s.heap h')(i:kS X.prog X.w H' h')(hg:AllBare g')(a:∀b∈ch,(b∈X.ex\/X.s₀.heap.objs.size<=b)/\b≠X.env.locals/\(∀x c,X.env.cells.lookup x=some c->c≠b) /\ ∀p∈X.pn++ag,p.1≠b):
  Inv X ag σ H' {s with heap:=h',gens:=g',drawn:=d',toks:=t'}:=by
 obtain⟨m,⟨o,es,ep,j,r⟩,_⟩:=id I.loc;obtain⟨sl,g⟩:=u.any j I.free λz=>(a _ z).2.1 O;exact I.step (ch:=ch) a (λb o g l hc e n=>u.keep b o e n (λz=>(aF.mp (I.stkSub b z)).elim g l) hc) (λb o _ _ hc e n=>u.any e n hc) (λb o hc e n=>u.free b o e n hc) (λb o hc e=>u.there b o e hc) u.tups u.frzs u.tbls (λt q=>by
  obtain⟨o',h,f,d,k⟩:=q;rw[j]at d;cases d;exact⟨_,h,f,g,k⟩) i hg
theorem Inv.turned{t':Nat}{it:dE}(I:Inv X ag σ H s)(k:∀ b o,b≠it->s.heap.get? b=Z o->h'.get? b=Z o)(hn:H it=Y)(d:it≠X.env.locals)(h1:it∈X.ex\/X.s₀.heap.objs.size<=it)(h2:∀x c,X.env.cells.lookup x=Z c->c≠it)(g:∀p∈X.pn++ag,p.1≠it):Inv X ag σ H {s with heap:=h',toks:=t'}:=by
 have a:∀b u,H b=Z u->b≠it:=λb u e z=>by rw[z,hn]at e;cases e
 refine I.step (g':=s.gens) (d':=s.drawn) (ch:=[it]) (λb h=>?_) (λb o _ _ hc e _=>k b o (λz=>hc (by simp[z])) e) (λb o _ _ hc e _=>⟨o.slots,k b o (λz=>hc (by simp[z])) e⟩) (λ_ _ _ _ n=>n)
  (λb o hc e=>⟨o,k b o (λz=>hc (by simp[z])) e⟩) (λ_ _ e=>e) (λ_ _ _ e=>e) (λb ps e=>⟨#[],by rw[e];simp⟩) (λm i=>?_) (λb u e=>?_) I.bare
 ·have e:b=it:=by simpa using h
  subst e;exact⟨h1,d,h2,g⟩
 ·obtain⟨o,es,ep,f,r⟩:=i;exact⟨o,es,ep,k _ o (Ne.symm d) f,r⟩
 ·refine(I.hok b u e).stay (λc v hc q=>k c v ?_ q) (λ_ q=>q) λ_ _ q=>q;rcases hc with z|z
  ·rw[z];exact a b u e
  ·exact a c _ z
theorem Inv.tok(I:Inv X ag σ H s)(t:Nat):Inv X ag σ H {s with toks:=t}:=I.un (h':=s.heap) (t':=t) Un.refl I.hok
theorem Inv.kept{t':Nat}(I:Inv X ag σ H s)(k:∀b u,s.heap.get? b=Z u->h'.get? b=Z u):Inv X ag σ H {s with heap:=h',toks:=t'}:=I.un (Un.kept k) (I.hok.kept k)
theorem Inv.laid{a:dE}{o:HO}{t':Nat}(I:Inv X ag σ H s)(k:∀ b u,s.heap.get? b=some u->h'.get? b=some u)(hp:s.heap.objs.size<=a)(new:eN X.prog X.w (upd H a o) h' a o):
  Inv X ag σ (upd H a o) {s with heap:=h',toks:=t'}:=I.un (Un.laid k hp (I.hok.fresh hp)) (I.hok.laid k hp new)
theorem Inv.write{x e:dE}{o:HO}{t':Nat}(I:Inv X ag σ H s)(mu:Mut (H x))(he:e=x\/H e=Z (.own x))(k:∀ b u,b≠e->s.heap.get? b=Z u->h'.get? b=Z u)(a:∃ u,h'.get? e=Z u)(new:eN X.prog X.w (upd H x o) h' x o):Inv X ag σ (upd H x o) {s with heap:=h',toks:=t'}:=I.un (Un.write mu he k a) (I.hok.write mu he k a new)
theorem Inv.pins_of{a:List (dE×Obj)}(I:Inv X ag σ H s)(h:∀p∈a,s.heap.get? p.1=Z p.2/\H p.1=Y/\p.1≠X.env.locals/\p.1∉X.fs /\ ∀v,p.2.data ≠ .cell v):Inv X a σ H s:=
 ⟨I.ok,I.os,I.bare,I.base,I.loc,I.cell,I.free,I.freeC,λp b=>(aG.mp b).elim (λz=>I.pin p (aH _ z)) (h p),I.hok,I.len⟩
theorem rW{N:List Str}(hN:N.Nodup){i j:Nat}{x:Str}(a:N[i]?=Z x)(b:N[j]?=Z x):i=j:=by
 obtain⟨h1,d⟩:=gE1.mp a;obtain⟨h2,c⟩:=gE1.mp b;exact(List.getElem_inj hN).mp (d.trans c.symm)
theorem wA{ao:Model}{A:dG}{E:dB->dD->Prop}{i:Nat}{x:Str}{v:V}{u:dB}{Q:Unit->dD->Prop}(I:Inv X ag σ H s)(hN:X.N.Nodup)(hi:X.N[i]? = Z x)(hx:uQ X.env.scope x)(r:d7 v u)(h:∀s',Inv X ag (σ.set i (Z v)) H s'->(∃a,Heap.SameBut a s.heap s'.heap/\(a=X.env.locals\/X.env.cells.lookup x=Z a))->Q () s')(hf:X.fn x=M\/X.env.scope.names.lookup x=Z .local:=by first|exact .inl rfl|exact .inr rfl|assumption):dM ao A (storeName X.env x u) Q E s:=by
 obtain⟨m,wq,hl⟩:=id I.loc;have K:(X.env.scope.kind == .class||(X.env.scope.kind == .module&&X.env.locals != X.env.globals))=J:=by rw[I.ok.kind];rfl
 have w:i<σ.length:=by rw[I.len];exact(gE1.mp hi).1
 have cne:=I.cne;have tracked:∀{a:dE} {h':dN},(∃o,s.heap.get? a=Z o/\H a=Y)->Heap.SameBut a s.heap h'->kS X.prog X.w H h':=λ{a h'} ha f b ob e=>by
  obtain⟨_,_,l⟩:=ha;refine(I.hok b ob e).stay (λc au hc q=>(f.2 c ?_).trans q) (λ_ q=>q) λ_ _ q=>q;rintro rfl;rcases hc with rfl|hc
  ·rw[l]at e;cases e
  ·rw[l]at hc;cases hc
 rcases hx with B|B
 ·refine wpAny_storeName_local B wq (λh' T f=>?_) K;obtain⟨oL,_,_,U,_⟩:=id wq;refine h _ ⟨I.ok,I.os,I.bare,⟨λb o e n D hx=>?_,λb o e n D hx=>?_,I.base.free,λb o e hx=>?_,I.base.tups,I.base.frzs,I.base.tbls⟩,⟨_,T,λj y v' g t S=>?_⟩,λy c e=>?_,I.free,I.freeC,λp aq=>?_,tracked ⟨oL,U,I.free⟩ f,by simpa using I.len⟩ ⟨_,f,.inl O⟩
  ·exact(f.2 b (nN1 (nL1 (hL1 e) I.ok.above))).trans (I.base.keep b o e n D hx)
  ·obtain⟨sl,g⟩:=I.base.slot b o e n D hx;exact⟨sl,(f.2 b (nN1 (nL1 (hL1 e) I.ok.above))).trans g⟩
  ·obtain⟨o',g⟩:=I.base.there b o e hx;exact⟨o',(f.2 b (nN1 (nL1 (hL1 e) I.ok.above))).trans g⟩
  ·by_cases C:j=i
   ·subst C;rw[hi]at g;cases g;rw[aI w]at t;cases t;exact⟨u,r,.inl ⟨B,by simp⟩⟩
   ·rw[gS1 (Ne.symm C)]at t;obtain⟨W,R,q⟩:=hl j y v' g t S;refine⟨W,R,?_⟩;rcases q with⟨k,e⟩|⟨k,c,e,z⟩
    ·refine .inl ⟨k,?_⟩;have:y≠x:=λe=>C (rW hN g (e ▸ hi));simp[this,e]
    ·exact .inr ⟨k,c,e,z.sameBut f (cne y c e)⟩
  ·obtain⟨au,z⟩:=I.cell y c e;exact⟨au,z.sameBut f (cne y c e)⟩
  ·obtain⟨e,n,ne,nf,d⟩:=I.pin p aq;exact⟨(f.2 p.1 ne).trans e,n,ne,nf,d⟩
 ·have F:X.fn x=true:=by
   rcases hf with z|z
   ·exact z
   ·rw[z]at B;cases B
  obtain⟨c,hc⟩:=I.ok.has x (.inl B);obtain⟨au,z⟩:=I.cell x c hc;refine wpAny_storeName_cell I.ok.kind B hc z (λh' L f=>?_);obtain⟨oc,N,G⟩:=id z;refine h {s with heap:=h'} ⟨I.ok,I.os,I.bare,⟨λb o e n D hx=>?_,λb o e n D hx=>?_,I.base.free,λb o e hx=>?_,I.base.tups,I.base.frzs,I.base.tbls⟩,⟨m,wq.sameBut f (Ne.symm (cne x c hc)),λj y v' g t S=>?_⟩,λy P e=>?_,I.free,I.freeC,λp aq=>?_,tracked ⟨oc,N,I.freeC x c hc⟩ f,by simpa using I.len⟩ ⟨c,f,.inr hc⟩
  ·exact(f.2 b (nN1 (nL1 (hL1 e) (I.ok.cab x c F hc)))).trans (I.base.keep b o e n D hx)
  ·obtain⟨sl,g⟩:=I.base.slot b o e n D hx;exact⟨sl,(f.2 b (nN1 (nL1 (hL1 e) (I.ok.cab x c F hc)))).trans g⟩
  ·obtain⟨o',g⟩:=I.base.there b o e hx;exact⟨o',(f.2 b (nN1 (nL1 (hL1 e) (I.ok.cab x c F hc)))).trans g⟩
  ·by_cases C:j=i
   ·subst C;rw[hi]at g;cases g;rw[aI w]at t;cases t;exact⟨u,r,.inr ⟨.inl B,c,hc,L⟩⟩
   ·rw[gS1 (Ne.symm C)]at t;obtain⟨W,R,q⟩:=hl j y v' g t S;refine⟨W,R,?_⟩;rcases q with q|⟨k,P,e,z'⟩
    ·exact .inl q
    ·refine .inr ⟨k,P,e,z'.sameBut f ?_⟩;rintro rfl;exact C (rW hN g (I.ok.inj _ _ _ e hc ▸ hi))
  ·by_cases am:P=c
   ·subst am;exact⟨_,L⟩
   ·obtain⟨w2,z2⟩:=I.cell y P e;exact⟨w2,z2.sameBut f am⟩
  ·obtain⟨e,n,ne,nf,d⟩:=I.pin p aq;refine⟨(f.2 p.1 ?_).trans e,n,ne,nf,d⟩;intro q;rw[q,N]at e;have q':oc=p.2:=Option.some.inj e;exact d au (by rw[<- q'];exact G)
theorem iL{ao:Model}{A:dG}{E:dB->dD->Prop}{i:Nat}{x:Str}{v:V}{u:dB}{Q:Unit->dD->Prop}(I:Inv X ag σ H s)(hN:X.N.Nodup)(hi:X.N[i]? = Z x)(hx:uQ X.env.scope x)(r:d7 v u)(h:∀s',Inv X ag (σ.set i (Z v)) H s'->Q () s')(hf:X.fn x=M\/X.env.scope.names.lookup x=Z .local:=by first|exact .inl rfl|exact .inr rfl|assumption):dM ao A (storeName X.env x u) Q E s:=
 wA I hN hi hx r (λs' a _=>h s' a) hf
theorem Inv.call'{s':dD}{ch:List dE}(I:Inv X ag σ H s)(ho:s'.os=s.os)(u:Un (frs X.stack) ch H H' s.heap s'.heap)(d:kS X.prog X.w H' s'.heap)(hg:AllBare s'.gens)(a:∀b∈ch,(b∈X.ex\/X.s₀.heap.objs.size<=b)/\b≠X.env.locals/\(∀x c,X.env.cells.lookup x=Z c->c≠b) /\ ∀p∈X.pn++ag,p.1≠b):Inv X ag σ H' s':=by
 obtain⟨h',h,f,g,o'⟩:=s';have e:o'=s.os:=ho;subst e;exact I.call (g':=h) (t':=g) (d':=f) u d hg a
end
abbrev XK:=dB->Option dE->Hp->Prop
abbrev St:=List (Option V)
abbrev VK:=V->Hp->Prop
abbrev TE:=St->Hp->VK->Prop
abbrev TT:=St->Hp->(Bool->Hp->Prop)->Prop
abbrev TA:=St->Hp->(List V->Hp->Prop)->Prop
structure ju where
 nx:St->Hp->Prop
 rt:VK
 bk:St->Hp->Prop:=λ_ _=>False
 ct:St->Hp->Prop:=λ_ _=>False
abbrev TS:=ju->St->Hp->Prop
noncomputable def EP(X:Cx)(ag:List (dE×Obj))(σ:St)(Q:VK)(u:dB)(s':dD):Prop:=∃v H',Inv X ag σ H' s'/\d7 v u/\Q v H'
noncomputable def TP(X:Cx)(ag:List (dE×Obj))(σ:St)(Q:Bool->Hp->Prop)(b:Bool)(s':dD):Prop:=∃H',Inv X ag σ H' s'/\Q b H'
noncomputable def AP(X:Cx)(ag:List (dE×Obj))(σ:St)(Q:List V->Hp->Prop)(us:List dB)(s':dD):Prop:=∃vs H',Inv X ag σ H' s'/\ei vs us/\Q vs H'
noncomputable def SP(X:Cx)(ag:List (dE×Obj))(D:ju)(f:Flow)(s':dD):Prop:=
 match f with
 | .next=>∃ σ' H',Inv X ag σ' H' s'/\D.nx σ' H'
 | .brk=>∃ σ' H',Inv X ag σ' H' s'/\D.bk σ' H'
 | .cont=>∃ σ' H',Inv X ag σ' H' s'/\D.ct σ' H'
 | .ret u=>∃v σ' H',Inv X ag σ' H' s'/\d7 v u/\D.rt v H'
noncomputable def PE(X:Cx)(e:Expr)(t:TE):Prop:=
 ∀(ag:List (dE×Obj)) (s:dD) (σ:St) (H:Hp) (Q:VK),Inv X ag σ H s->t σ H Q->dM (model X.prog X.w) X.A (eval e X.env) (EP X ag σ Q) X.xe s
noncomputable def PT(X:Cx)(e:Expr)(t:TT):Prop:=
 ∀(ag:List (dE×Obj)) (s:dD) (σ:St) (H:Hp) (Q:Bool->Hp->Prop),Inv X ag σ H s->t σ H Q->dM (model X.prog X.w) X.A (isTrue e X.env (eval e X.env)) (TP X ag σ Q) X.xe s
noncomputable def PW(X:Cx)(e:Expr)(t:TT):Prop:=
 ∀(whole:Sem dB) (ag:List (dE×Obj)) (s:dD) (σ:St) (H:Hp) (Q:Bool->Hp->Prop),Inv X ag σ H s->t σ H Q->dM (model X.prog X.w) X.A (isTrue e X.env whole) (TP X ag σ Q) X.xe s
theorem PW.pt{X:Cx}{e:Expr}{t:TT}(h:PW X e t):PT X e t:=h _
noncomputable def PA(X:Cx)(es:List Expr)(t:TA):Prop:=
 ∀(pos:Pos) (ag:List (dE×Obj)) (s:dD) (σ:St) (H:Hp) (Q:List V->Hp->Prop),Inv X ag σ H s->t σ H Q->dM (model X.prog X.w) X.A (spliced (backTo pos (dJ es X.env))) (AP X ag σ Q) X.xe s
noncomputable def PS(X:Cx)(st:dQ)(t:TS):Prop:=
 ∀(ag:List (dE×Obj)) (s:dD) (σ:St) (H:Hp) (D:ju),Inv X ag σ H s->t D σ H->dM (model X.prog X.w) X.A (exec st X.env) (SP X ag D) X.xe s
noncomputable def tH(X:Cx)(st:List dQ)(t:TS):Prop:=
 ∀(ag:List (dE×Obj)) (s:dD) (σ:St) (H:Hp) (D:ju),Inv X ag σ H s->t D σ H->dM (model X.prog X.w) X.A (execs st X.env) (SP X ag D) X.xe s
theorem fg{α:Type}{t:Sem α}{Q b:α->dD->Prop}{ao:Model}{A:dG}{E:dB->dD->Prop}{s:dD}(h:dM ao A t Q E s)(c:∀a s,Q a s->b a s):dM ao A t b E s:=wpAny_mono h c λ_ _ x=>x
end L2
namespace L2
open PySem PySem.Spec PyProof.Rows
section
variable{X:Cx}
theorem Kr{a b:Expr}{ta tb:TE}(ha:PE X a ta)(hb:PE X b tb){ag:List (dE×Obj)}{s:dD}{σ:St}{H:Hp}{R:V->V->Hp->Prop}(I:Inv X ag σ H s)(h:ta σ H fun x H1=>tb σ H1 fun y H2=>R x y H2){α:Type}{Q:α->dD->Prop}{f:dB->dB->Sem α}(hf:∀v u e x y H2,Inv X ag σ H2 e->d7 x v->d7 y u->R x y H2->dM (model X.prog X.w) X.A (f v u) Q X.xe e):
  dM (model X.prog X.w) X.A (eval a X.env) (λv c=>dM (model X.prog X.w) X.A (eval b X.env) (λu d=>dM (model X.prog X.w) X.A (f v u) Q X.xe d) X.xe c) X.xe s:=by
 refine fg (ha ag s σ H _ I h) λv g ⟨x,H1,m,i,l⟩=>?_;refine fg (hb ag g σ H1 _ m l) λu e ⟨y,H2,k,r2,j⟩=>?_;exact hf v u e x y H2 k i r2 j
noncomputable def F1(i:Nat):TE:=fun σ H Q=>∃v,σ[i]?=Z (Z v)/\Q v H
noncomputable def tC(v:V):TE:=λ_ H Q=>Q v H
theorem yZ {i:Nat}{x:Str}{pos:Pos}(hN:X.N[i]?=Z x)(hv:Vis X.env.scope x)(hd:(x == ("__debug__":Str))=J:=by decide)(hcd:(x == ("__classdict__":Str))=J:=by decide):PE X (.Name x pos) (F1 i):=by
 intro ag s σ H Q I h;obtain⟨v,e,h⟩:=h;obtain⟨m,f,j⟩:=I.loc;obtain⟨u,r,l⟩:=j i x v hN e hv;have b:EP X ag σ Q u s:=⟨v,H,I,r,h⟩;rcases l with⟨d,g⟩|⟨d,c,hc,a⟩
 ·exact wpAny_Name (wpAny_loadName_local I.ok.kind d f g b) hd
 ·rcases d with d|d
  ·exact wpAny_Name (wpAny_loadName_cell I.ok.kind d hc a b) hd
  ·exact wpAny_Name (wpAny_loadName_free I.ok.kind d hc a b hcd) hd
theorem Ef{i j pos}:PE X (.Constant (.int i) j pos) (tC (.int i)):=λ_ _ _ H _ I h=>wpAny_Constant_int ⟨.int i,H,I.tok _,⟨_,O⟩,h⟩
theorem Gv{b j pos}:PE X (.Constant (.bool b) j pos) (tC (.bl b)):=λ_ _ _ H _ I h=>Constant_bool ⟨.bl b,H,I,O,h⟩
theorem Ed{j pos}:PE X (.Constant .none j pos) (tC .non):=λ_ _ _ H _ I h=>Constant_none ⟨.non,H,I,O,h⟩
theorem Ec{x j pos}:PE X (.Constant (.str x) j pos) (tC (.str x)):=λ_ _ _ H _ I h=>Calls.Constant_str ⟨.str x,H,I.tok _,⟨_,O⟩,h⟩
noncomputable def Gl(X:Cx)(x:Str):Prop:=X.env.kindOf x=Z .globalImplicit
theorem vD {E:dB->dD->Prop}{ag:List (dE×Obj)}{s:dD}{σ:St}{H:Hp}{x:Str}{u:dB}{pos:Pos}{Q:dB->dD->Prop}(I:Inv X ag σ H s)(hg:Gl X x)(hm:X.mg x=some u)(h:Q u s)
  (hd:(x == ("__debug__":Str))=J:=by decide):dM (model X.prog X.w) X.A (eval (.Name x pos) X.env) Q E s:=
 Calls.Name_function_global I.ok.kind hg (Calls.loadGlobal_global (by rw[I.ok.glob];exact I.mod.glob.keeps I.bk) hm h) hd
theorem jE {E:dB->dD->Prop}{ag:List (dE×Obj)}{s:dD}{σ:St}{H:Hp}{x:Str}{u:dB}{pos:Pos}{Q:dB->dD->Prop}(I:Inv X ag σ H s)(hg:Gl X x)(hm:X.mg x=none)(hv:bootBuiltins x=some u)(h:Q u s)
  (hn:x≠"__name__":=by decide) (hd:(x == ("__debug__":Str))=J:=by decide):dM (model X.prog X.w) X.A (eval (.Name x pos) X.env) Q E s:=by
 obtain⟨a,h1,h2⟩:=I.mod.blt;exact Calls.Name_function_global I.ok.kind hg (Calls.loadGlobal_builtin (by rw[I.ok.glob];exact I.mod.glob.keeps I.bk) hm (by rw[I.ok.blt];exact h1.keeps I.bk) ((h2 x hn).trans hv) h) hd
theorem By {x:Str}{v:V}{u:dB}{pos:Pos}(hg:Gl X x)(hm:X.mg x=Z u)(r:d7 v u)(hd:(x == ("__debug__":Str))=J:=by decide):PE X (.Name x pos) (tC v):=
 λ_ _ _ H _ I h=>vD I hg hm ⟨v,H,I,r,h⟩ hd
variable{a b:Expr}{ta tb:TE}{pos:Pos}
noncomputable def tB(t:TE):TT:=fun σ H Q=>t σ H λx H1=>∃c,x = .bl c/\Q c H1
variable{tA tB':TT}{rest:List Expr}
noncomputable def Ir(t u:TT):TT:=fun σ H Q=>t σ H λc H1=>if c=M then u σ H1 Q else Q J H1
noncomputable def JH(t u:TT):TT:=fun σ H Q=>t σ H λc H1=>if c=M then Q M H1 else u σ H1 Q
noncomputable def Ih(t:TT):TT:=fun σ H Q=>t σ H λc H1=>Q (!c) H1
theorem Bi(ha:PT X a tA):PW X (.BoolOp .And [a] pos) tA:=by
 intro d ag s σ H Q I h;refine isTrue_and (fg (ha ag s σ H Q I h) λc b e=>?_);cases c with
 |true=>exact isTrue_and_nil e
 |false=>exact e
theorem DU(ha:PT X a tA):PW X (.BoolOp .Or [a] pos) tA:=by
 intro d ag s σ H Q I h;refine isTrue_or (fg (ha ag s σ H Q I h) λc b e=>?_);cases c with
 |false=>exact isTrue_or_nil e
 |true=>exact e
theorem DV(ha:PT X a tA)(hb:PW X (.BoolOp .And (b::rest) pos) tB'):PW X (.BoolOp .And (a::b::rest) pos) (Ir tA tB'):=by
 intro g ag s σ H Q I h;refine isTrue_and (fg (ha ag s σ H _ I h) λc f ⟨H1,d,e⟩=>?_);cases c with
 |true=>exact hb g ag f σ H1 Q d e
 |false=>exact⟨H1,d,e⟩
theorem Gn(ha:PT X a tA)(hb:PW X (.BoolOp .Or (b::rest) pos) tB'):PW X (.BoolOp .Or (a::b::rest) pos) (JH tA tB'):=by
 intro g ag s σ H Q I h;refine isTrue_or (fg (ha ag s σ H _ I h) λc f ⟨H1,d,e⟩=>?_);cases c with
 |true=>exact⟨H1,d,e⟩
 |false=>exact hb g ag f σ H1 Q d e
theorem DX(ha:PT X a tA):PT X (.UnaryOp .Not a pos) (Ih tA):=by
 intro ag s σ H Q I h;exact isTrue_not (ha ag s σ H (λc H1=>Q (!c) H1) I h)
noncomputable def JJ(t:TT)(ta tb:TE):TE:=fun σ H Q=>t σ H λc H1=>if c=M then ta σ H1 Q else tb σ H1 Q
theorem y1{c:Expr}(hc:PT X c tA)(ha:PE X a ta)(hb:PE X b tb):PE X (.IfExp c a b pos) (JJ tA ta tb):=by
 intro ag s σ H Q I h;refine wpAny_IfExp (fg (hc ag s σ H _ I h) λd e ⟨H1,f,g⟩=>?_);cases d with
 |true=>exact ha ag e σ H1 Q f g
 |false=>exact hb ag e σ H1 Q f g
end
end L2
namespace L2
open PySem PySem.Spec PyProof.Rows
noncomputable def lU(K:Fg1)(H:Hp)(a:dE)(xs:List V):Prop:=
 Rd H a (.lst xs) \/
  ∃(o:Obj) (its:Array dB) (n:Nat),K.lookup a=Z o/\o.cls = .type "list"/\o.dict=Y/\o.data = .seq its n/\its.size<=dL/\ei xs its.toList
noncomputable def jm(K:Fg1)(H:Hp)(a:dE)(xs:List V):Prop:=
 Rd H a (.tup xs) \/
  ∃(o:Obj) (its:Array dB) (n:Nat),K.lookup a=Z o/\o.cls = .type "tuple"/\o.data = .seq its n/\its.size<=dL/\ei xs its.toList
noncomputable def I0:dB->Option V
 | .none=>Z .non
 | .bool b=>Z (.bl b)
 | .int i _=>Z (.int i)
 | .str x _=>Z (.str x)
 | .bytes b _=>Z (.byt b)
 | .float b _=>Z (.flt b)
 | .ref a=>Z (.ref a)
 | .type n=>Z (.ty n)
 |_=>Y
theorem d7.abs{x:V}{u:dB}(r:d7 x u):I0 u=Z x:=by
 cases x with
 |non=>cases r;rfl
 |bl _=>cases r;rfl
 |int _=>obtain⟨t,rfl⟩:=r;rfl
 |str _=>obtain⟨t,rfl⟩:=r;rfl
 |byt _=>obtain⟨t,rfl⟩:=r;rfl
 |flt _=>obtain⟨t,rfl⟩:=r;rfl
 |ref _=>cases r;rfl
 |ty _=>cases r;rfl
theorem d7.inj{x y:V}{u:dB}(r:d7 x u)(q:d7 y u):x=y:=Option.some.inj (r.abs.symm.trans q.abs)
theorem ei.inj:∀{xs ys:List V} {a:List dB},ei xs a->ei ys a->xs=ys:=by
 intro xs ys a h g
 induction h generalizing ys with
 |nil=>cases g;rfl
 |cons r t ih=>cases g with
  |cons c b=>rw[r.inj c,ih b]
section
variable{X:Cx}{ag:List (dE×Obj)}{σ:St}{H:Hp}{s:dD}{a:dE}{xs ys:List V}
theorem lU.of{K:Fg1}(h:H a=Z (.lst xs)):lU K H a xs:=.inl (.inl h)
theorem jm.of{K:Fg1}(h:H a=Z (.tup xs)):jm K H a xs:=.inl (.inl h)
theorem Inv.list(I:Inv X ag σ H s)(h:lU X.K H a xs):∃b:List dB,ei xs b/\PlainL s.heap a b.toArray/\xs.length<=dL:=by
 rcases h with h|⟨o,b,n,d,hc,c,f,g,r⟩
 ·obtain⟨z,b,n,r,e⟩:=h.ok I.hok;exact⟨b,r,⟨_,n,e,O,O,O⟩,z⟩
 ·refine⟨b.toList,r,⟨o,n,I.kIn a o d,hc,c,by simpa using f⟩,?_⟩;have e:=r.length;simp only[aJ]at e;lia
theorem Inv.tuple(I:Inv X ag σ H s)(h:jm X.K H a xs):∃b:List dB,ei xs b/\IsTup s.heap a b.toArray/\xs.length<=dL:=by
 rcases h with h|⟨o,b,n,d,hc,c,f,r⟩
 ·obtain⟨z,b,r,p⟩:=h.ok I.hok;exact⟨b,r,p,z⟩
 ·refine⟨b.toList,r,⟨o,I.kIn a o d,hc,n,by simpa using c⟩,?_⟩;have e:=r.length;simp only[aJ]at e;lia
theorem Inv.list_inj(I:Inv X ag σ H s)(h:lU X.K H a xs)(h':lU X.K H a ys):xs=ys:=by
 obtain⟨b,r,⟨o,n,e,_,_,d⟩,_⟩:=I.list h;obtain⟨its',g,⟨o',j,f,_,_,c⟩,_⟩:=I.list h';rw[e]at f;cases f;rw[d]at c;injection c with i _;have:b=its':=by simpa using congrArg Array.toList i
 subst this;exact r.inj g
theorem Inv.tuple_inj(I:Inv X ag σ H s)(h:jm X.K H a xs)(h':jm X.K H a ys):xs=ys:=by
 obtain⟨b,r,⟨o,e,_,n,d⟩,_⟩:=I.tuple h;obtain⟨its',g,⟨o',f,_,j,c⟩,_⟩:=I.tuple h';rw[e]at f;cases f;rw[d]at c;injection c with i _;have:b=its':=by simpa using congrArg Array.toList i
 subst this;exact r.inj g
end
abbrev Cx.wish(X:Cx)(E:dB->dD->Prop):Cx:={X with xe:=E}
abbrev Cx.nox(X:Cx):Cx:=X.wish λ_ _=>False
theorem Cx.Ok.wish{X:Cx}(ok:X.Ok)(E:dB->dD->Prop):(X.wish E).Ok:=
 ⟨ok.mod,ok.kind,ok.glob,ok.blt,ok.above,ok.inj,ok.has,ok.cab,ok.hd,ok.frames,ok.stk,ok.exf,ok.bs,ok.bsz,ok.noex,ok.exfs,ok.funs,ok.frf⟩
theorem Cx.Ok.unwish{X:Cx}{E:dB->dD->Prop}(ok:(X.wish E).Ok):X.Ok:=
 ⟨ok.mod,ok.kind,ok.glob,ok.blt,ok.above,ok.inj,ok.has,ok.cab,ok.hd,ok.frames,ok.stk,ok.exf,ok.bs,ok.bsz,ok.noex,ok.exfs,ok.funs,ok.frf⟩
section
variable{X:Cx}{ag:List (dE×Obj)}{σ:St}{H:Hp}{s:dD}{E:dB->dD->Prop}
theorem Inv.wish(I:Inv X ag σ H s)(E:dB->dD->Prop):Inv (X.wish E) ag σ H s:=⟨I.ok.wish E,I.os,I.bare,I.base,I.loc,I.cell,I.free,I.freeC,I.pin,I.hok,I.len⟩
theorem Inv.unwish(I:Inv (X.wish E) ag σ H s):Inv X ag σ H s:=⟨I.ok.unwish,I.os,I.bare,I.base,I.loc,I.cell,I.free,I.freeC,I.pin,I.hok,I.len⟩
theorem SP.unwish{D:ju}{f:Flow}{s':dD}(h:SP (X.wish E) ag D f s'):SP X ag D f s':=by
 cases f with
 |next=>obtain⟨a,H',I,q⟩:=h;exact⟨a,H',I.unwish,q⟩
 |brk=>obtain⟨a,H',I,q⟩:=h;exact⟨a,H',I.unwish,q⟩
 |cont=>obtain⟨a,H',I,q⟩:=h;exact⟨a,H',I.unwish,q⟩
 |ret u=>obtain⟨v,a,H',I,r,q⟩:=h;exact⟨v,a,H',I.unwish,r,q⟩
theorem tH.nox{st:List dQ}{t:TS}(h:tH X.nox st t):tH X st t:=λag s σ H D I a=>
 wpAny_mono (h ag s σ H D (I.wish _) a) (λ_ _ q=>q.unwish) λ_ _ z=>False.elim z
end
section
variable{X:Cx}{st:dQ}{rest:List dQ}{t u:TS}{e:Expr}{te:TE}{pos:Pos}
noncomputable def F7:TS:=λD σ H=>D.nx σ H
noncomputable def Ic(t u:TS):TS:=λD σ H=>t {D with nx:=u D} σ H
theorem Bm:tH X [] F7:=λ_ _ σ H _ I h=>wpAny_execs_nil ⟨σ,H,I,h⟩
theorem yP(h1:PS X st t)(h2:tH X rest u):tH X (st::rest) (Ic t u):=by
 intro ag s σ H D I h;refine wpAny_execs_cons (fg (h1 ag s σ H {D with nx:=u D} I h) λf b q=>?_);cases f with
 |next=>
  obtain⟨a,H',c,q⟩:=q;exact h2 ag b a H' D c q
 |ret v=>exact q
 |brk=>exact q
 |cont=>exact q
theorem Bl(h1:PS X st t):tH X [st] t:=by
 intro ag s σ H D I h;refine wpAny_execs_cons (fg (h1 ag s σ H D I h) λf a q=>?_);cases f with
 |next=>exact wpAny_execs_nil q
 |ret v=>exact q
 |brk=>exact q
 |cont=>exact q
theorem Inv.quiet{ag:List (dE×Obj)}{σ:St}{H:Hp}{s:dD}(I:Inv X ag σ H s):interactive X.env=J:=by simp[interactive,I.ok.kind]
noncomputable def Ga(te:TE):TS:=λD σ H=>te σ H λ_ H1=>D.nx σ H1
theorem Bn(he:PE X e te)(hs:swapsWith e Y pos.line X.env=pure J:=by rfl):PS X (.Expr e pos) (Ga te):=by
 intro ag s σ H D I h;exact wpAny_Expr_any (fg (he ag s σ H _ I h) λv c ⟨x,H1,a,d,b⟩=>⟨σ,H1,a,b⟩) I.quiet hs
noncomputable def Ie(te:TE):TS:=λD σ H=>te σ H D.rt
theorem D0(he:PE X e te):PS X (.Return (Z e) pos) (Ie te):=by
 intro ag s σ H D I h;exact wpAny_Return_some (fg (he ag s σ H _ I h) λv d ⟨x,H1,b,a,c⟩=>⟨x,σ,H1,b,a,c⟩)
noncomputable def Io(c:TT)(t u:TS):TS:=λD σ H=>c σ H λb H1=>if b=M then t D σ H1 else u D σ H1
theorem Go{c:Expr}{a b:List dQ}{tc:TT}(hc:PT X c tc)(ha:tH X a t)(hb:tH X b u):PS X (.If c a b pos) (Io tc t u):=by
 intro ag s σ H D I h;refine wpAny_If (fg (hc ag s σ H _ I h) λd e ⟨H1,f,g⟩=>?_);cases d with
 |true=>exact ha ag e σ H1 D f g
 |false=>exact hb ag e σ H1 D f g
end
abbrev TG:=V->St->Hp->(St->Hp->Prop)->Prop
abbrev Dg:=List V->St->Hp->(St->Hp->Prop)->Prop
noncomputable def PG(X:Cx)(target:Expr)(t:TG):Prop:=
 ∀(ag:List (dE×Obj)) (s:dD) (σ:St) (H:Hp) (v:V) (u:dB) (Q:St->Hp->Prop),Inv X ag σ H s->d7 v u->t v σ H Q ->
  dM (model X.prog X.w) X.A (assign target X.env u) (λ_ s'=>∃ σ' H',Inv X ag σ' H' s'/\Q σ' H') X.xe s
noncomputable def FF(X:Cx)(ts:List Expr)(t:Dg):Prop:=
 ∀(ag:List (dE×Obj)) (s:dD) (σ:St) (H:Hp) (vs:List V) (us:List dB) (Q:St->Hp->Prop),Inv X ag σ H s->ei vs us->t vs σ H Q ->
  dM (model X.prog X.w) X.A (assignInOrder ((assignEach ts X.env).map (·.2)) us) (λ_ s'=>∃ σ' H',Inv X ag σ' H' s'/\Q σ' H') X.xe s
abbrev FC:=V->V->V->Hp->(Hp->Prop)->Prop
noncomputable def uP(X:Cx)(t:FC):Prop:=
 ∀(ag:List (dE×Obj)) (s:dD) (σ:St) (H:Hp) (o i v:V) (ov iv u:dB) (Q:Hp->Prop),Inv X ag σ H s->d7 o ov->d7 i iv->d7 v u->t o i v H Q ->
  dM (model X.prog X.w) X.A (setItem ov iv u) (λ_ s'=>∃H',Inv X ag σ H' s'/\Q H') X.xe s
abbrev Ja:=V->V->Hp->VK->Prop
noncomputable def H7(X:Cx)(op:Operator)(t:Ja):Prop:=
 ∀(ag:List (dE×Obj)) (s:dD) (σ:St) (H:Hp) (x y:V) (v u:dB) (Q:VK),Inv X ag σ H s->d7 x v->d7 y u->t x y H Q ->
  dM (model X.prog X.w) X.A (inplaceOp op v u) (EP X ag σ Q) X.xe s
section
variable{X:Cx}{pos:Pos}
noncomputable def vP(i:Nat):TG:=λv σ H Q=>Q (σ.set i (Z v)) H
theorem vi{i:Nat}{x:Str}(hN:X.N.Nodup)(hi:X.N[i]?=Z x)(hx:uQ X.env.scope x)(hf:X.fn x=M\/X.env.scope.names.lookup x=Z .local:=by first|exact .inl rfl|exact .inr rfl|assumption):PG X (.Name x pos) (vP i):=by
 intro ag s σ H v u Q I r h;exact wpAny_assign_Name (iL I hN hi hx r (λs' a=>⟨_,H,a,h⟩) hf)
noncomputable def IR:Dg:=λvs σ H Q=>vs=[]/\Q σ H
noncomputable def G9(t:TG)(u:Dg):Dg:=λvs σ H Q=>∃v r,vs=v::r/\t v σ H fun σ' H'=>u r σ' H' Q
theorem Bx:FF X [] IR:=by
 intro ag s σ H vs a Q I r h;obtain⟨e,h⟩:=h;subst e;cases r;exact assignInOrder_nil ⟨σ,H,I,h⟩
theorem yY{e:Expr}{es:List Expr}{t:TG}{u:Dg}(h1:PG X e t)(h2:FF X es u)(hs:(assignEach (e::es) X.env).map (·.2)=assign e X.env::(assignEach es X.env).map (·.2):=by rfl):FF X (e::es) (G9 t u):=by
 intro ag s σ H vs j Q I r h;obtain⟨v,i,d,h⟩:=h;subst d;cases r with
 |cons r c=>
  rw[hs];refine assignInOrder_cons (fg (h1 ag s σ H _ _ _ I r h) λ_ b ⟨a,H1,g,f⟩=>?_);exact h2 ag b a H1 _ _ Q g c f
noncomputable def gTup(K:Fg1)(n:Nat)(t:Dg):TG:=λv σ H Q=>∃a xs,v = .ref a/\jm K H a xs/\xs.length=n/\t xs σ H Q
theorem D9{es:List Expr}{k:Nat}{t:Dg}{n:Nat}(hc:X.calm=M)(h:FF X es t)(hn:(assignEach es X.env).length=n:=by rfl)(hst:(assignEach es X.env).findIdx? (·.1)=Y:=by rfl):PG X (.Tuple es k pos) (gTup X.K n t):=by
 intro ag s σ H v u Q I r c;obtain⟨a,xs,f,i,j,c⟩:=c;subst f;cases r;obtain⟨g,d,m,q⟩:=I.tuple i;refine assign_Tuple_tuple (I.ok.hd hc) m (by simp[hn,<- j,d.length]) hst λh' l=>?_;have p:Inv X ag σ H {s with heap:=h'}:=I.kept (t':=s.toks) λb o e=>l b o (nN1 (hL1 e)) e;exact h ag _ σ H xs _ Q p (by simpa using d) c
noncomputable def gSub(to ti:TE)(t:FC):TG:=λv σ H Q=>to σ H λo H1=>ti σ H1 λi H2=>t o i v H2 λH3=>Q σ H3
theorem Ea{o i:Expr}{to ti:TE}{t:FC}(ho:PE X o to)(hi:PE X i ti)(hs:uP X t)(ha:∀v,assign (.Subscript o i pos) X.env v=(do
   let a<-holding [v] (eval o X.env)
   let b<-holding [v,a] (eval i X.env)
   standAt pos
   holding [v,a,b] (setItem a b v)
   release [v,a,b] []):=by intro _;rfl):PG X (.Subscript o i pos) (gSub to ti t):=by
 intro ag s σ H v u Q I r h;rw[ha];refine wB1 (wpAny_holding (fg (ho ag s σ H _ I h) λa c ⟨x,H1,m,d,k⟩=>?_));refine wB1 (wpAny_holding (fg (hi ag c σ H1 _ m k) λb e ⟨y,H2,f,r2,l⟩=>?_));refine wB1 (wpAny_standAt (wB1 (wpAny_holding (fg (hs ag e σ H2 x y v a b u _ f d r2 r l) λ_ p ⟨j,g,n⟩=>?_))));exact wpAny_release ⟨σ,j,g,n⟩
noncomputable def yq(te:TE)(g:TG):TS:=λD σ H=>te σ H λx H1=>g x σ H1 D.nx
theorem D4{tg e:Expr}{te:TE}{g:TG}(he:PE X e te)(hg:PG X tg g)(hs:swapsWithSole [tg] e pos.line X.env=pure J:=by rfl)(hw:swappedStores [tg] e X.env=pure Y:=by rfl)(h1:(assignEach [tg] X.env).map (·.2)=[assign tg X.env]:=by rfl):PS X (.Assign [tg] e pos) (yq te g):=by
 intro ag s σ H D I h;refine wpAny_Assign_stores (fg (he ag s σ H _ I h) λv a ⟨x,H1,d,b,c⟩=>?_) hs hw;rw[h1];exact fg (hg ag a σ H1 x v _ d b c) λ_ f q=>q
theorem DZ{i:Nat}{x:Str}{e:Expr}{te:TE}{pos':Pos}(hN:X.N.Nodup)(hi:X.N[i]? = some x)(hx:uQ X.env.scope x)(he:PE X e te)(hs:swapsWith e (some (.Name x pos')) pos.line X.env=pure false:=by rfl)(hf:X.fn x=true\/X.env.scope.names.lookup x=some .local:=by first | exact .inl rfl | exact .inr rfl | assumption):
  PS X (.Assign [.Name x pos'] e pos) (yq te (vP i)):=by
 intro ag s σ H D I h;refine wpAny_Assign_Name (fg (he ag s σ H _ I h) λv f ⟨y,H1,d,a,c⟩=>?_) hs;exact iL d hN hi hx a (λg b=>⟨_,H1,b,c⟩) hf
noncomputable def Ig(i j:Nat)(ta:TA):TS:=λD σ H=>ta σ H λvs H1=>∃v w,vs=[v,w]/\D.nx ((σ.set i (Z v)).set j (Z w)) H1
theorem D1{i j:Nat}{x y:Str}{a b:Expr}{ta:TA}{f k pt:Pos}{kt k2 pt2}(hc:X.calm=true)(hN:X.N.Nodup)(hi:X.N[i]? = some x)(z:X.N[j]? = some y)(m:i≠j)(hx:X.env.scope.names.lookup x=some .local)(hy:X.env.scope.names.lookup y=some .local)(ha:PA X [a,b] ta)(hw:swappedStores [.Tuple [.Name x f,.Name y k] kt pt] (.Tuple [a,b] k2 pt2) X.env=pure (some [x,y]))(hs:swapsWithSole [.Tuple [.Name x f,.Name y k] kt pt] (.Tuple [a,b] k2 pt2) pos.line X.env=pure false:=by rfl):
  PS X (.Assign [.Tuple [.Name x f,.Name y k] kt pt] (.Tuple [a,b] k2 pt2) pos) (Ig i j ta):=by
 intro ag s σ H D I h;rw[exec_Assign_arm];refine wB1 (wpAny_standAt ?_);rw[hs];refine wB1 (wP1 ?_);rw[aj (by decide)];refine wB1 (Tuple_ (fg (ha _ ag s σ H _ I h) λE c ⟨vs,H1,B,u,g⟩=>?_));obtain⟨v,w,t,g⟩:=g;subst t;obtain⟨d,u2,rfl,C,n⟩:∃d u2,E=[d,u2]/\d7 v d/\d7 w u2:=by
  cases u with
  |cons p q=>
   cases q with
   |cons A G=>
    cases G;exact⟨_,_,O,p,A⟩
 refine wO1 ?_ (by show 2<=dL;decide);have am:Inv X ag σ H1 {c with heap:=c.heap.push {cls:=.type "tuple",data:=.seq [d,u2].toArray}}:=B.kept (t':=c.toks) λb o e=>hP1 _ e;rw[hw];refine wB1 (wP1 ?_);show dM (model X.prog X.w) X.A (do rule "assign.swapped-stores";let items<-unpackItems (.ref c.heap.objs.size) 2 Y;assignInOrder [λv=>bindName X.env y v,λv=>bindName X.env x v] items.reverse;pure Flow.next) _ _ _;refine wB1 (wpAny_rule (wB1 (unpackItems_tuple (items:= #[d,u2]) (I.ok.hd hc) (IsTup.new c.heap _) λh' l=>?_)));have F:=am.kept (h':=h') (t':=c.toks) λb o e=>l b o (nN1 (hL1 e)) e;show dM _ _ (assignInOrder [λv=>bindName X.env y v,λv=>bindName X.env x v] [u2,d] >>= λ_=>pure Flow.next) _ _ _;refine wB1 (assignInOrder_cons (wpAny_bindName (iL F hN z (.inl hy) n (λL K=>?_) (.inr hy))));refine assignInOrder_cons (wpAny_bindName (iL K hN hi (.inl hx) C (λao r=>assignInOrder_nil (wP1 ?_)) (.inr hx)));rw[List.set_comm _ _ (Ne.symm m)]at r;exact⟨_,H1,r,g⟩
noncomputable def Iq(i:Nat)(te:TE)(ti:Ja):TS:=λD σ H=>∃x,σ[i]?=Z (Z x)/\te σ H λy H1=>ti x y H1 λz H2=>D.nx (σ.set i (Z z)) H2
theorem D3{i:Nat}{x:Str}{e:Expr}{te:TE}{op:Operator}{ti:Ja}{pos':Pos}(hN:X.N.Nodup)(hi:X.N[i]? = some x)(hx:uQ X.env.scope x)(he:PE X e te)(ho:H7 X op ti)(hf:X.fn x=true\/X.env.scope.names.lookup x=some .local:=by first | exact .inl rfl | exact .inr rfl | assumption):
  PS X (.AugAssign (.Name x pos') op e pos) (Iq i te ti):=by
 intro ag s σ H D I h;obtain⟨v,o,h⟩:=h;obtain⟨m,E,G⟩:=I.loc;have g:Vis X.env.scope x:=by rcases hx with k|k;exact .inl k;exact .inr (.inl k)
 obtain⟨u,r,l⟩:=G i x v hi o g;refine wpAny_AugAssign_Name ?_;have j:dM (model X.prog X.w) X.A (eval e X.env) (λw f=>dM (model X.prog X.w) X.A (inplaceOp op u w) (λr d=>dM (model X.prog X.w) X.A (storeName X.env x r) (λ_=>SP X ag D .next) X.xe d) X.xe f) X.xe s:=by
  refine fg (he ag s σ H _ I h) λw n ⟨y,H1,A,p,q⟩=>?_;refine fg (ho ag n σ H1 v y u w _ A r p q) λz K ⟨L,H2,F,r2,B⟩=>?_;exact iL F hN hi hx r2 (λam C=>⟨_,H2,C,B⟩) hf
 rcases l with⟨a,t⟩|⟨a,c,hc,b⟩
 ·exact wpAny_loadName_local I.ok.kind a E t j
 ·rcases a with a|a
  ·exact wpAny_loadName_cell I.ok.kind a hc b j
  ·rcases hx with k|k
   ·have:X.env.scope.names.lookup x=Z .free:=a;rw[k]at this;cases this
   ·have:X.env.scope.names.lookup x=Z .free:=a;rw[k]at this;cases this
noncomputable def yo(c:TT)(tb:TS):TS:=λD σ H=>∃W:Nat->St->Hp->Prop,(∃m,W m σ H) /\ ∀m σ H,W m σ H ->
 c σ H λb H1=>if b=M then∃N:St->Hp->Prop,(∀ σ' H',N σ' H' -> ∃m',m'<m/\W m' σ' H')/\tb {D with nx:=N,ct:=N,bk:=D.nx} σ H1 else D.nx σ H1
theorem yQ{c:Expr}{e:List dQ}{tc:TT}{tb:TS}(hp:PassesOwn (model X.prog X.w) X.A X.env X.xe)(hc:PT X c tc)(hb:tH X e tb):PS X (.While c e [] pos) (yo tc tb):=by
 intro ag s σ H D I h;obtain⟨W,⟨y,x⟩,i⟩:=h;refine wpAny_While (codeAny_whileLoop (λn s'=>∃g H',Inv X ag g H' s'/\W n g H') ?_ y ⟨σ,H,I,x⟩);rintro n w ⟨d,H1,z,B⟩;refine wpAny_passesOwn hp (fg (hc ag w d H1 _ z (i n d H1 B)) λb A ⟨H2,u,l⟩=>?_);cases b with
 |true=>
  obtain⟨N,t,l⟩:=l;rw[ak O];refine wpAny_passesOwn hp (fg (hb ag A d H2 _ u l) λf C k=>?_);cases f with
  |next=>
   obtain⟨a,j,q,o⟩:=k;obtain⟨p,m,r⟩:=t a j o;exact⟨p,m,a,j,q,r⟩
  |cont=>
   obtain⟨a,j,q,o⟩:=k;obtain⟨p,m,r⟩:=t a j o;exact⟨p,m,a,j,q,r⟩
  |brk=>exact k
  |ret v=>exact k
 |false=>
  rw[aj aK];exact wpAny_execs_nil ⟨d,H2,u,l⟩
end
structure It where
 go:Nat->Hp->Prop
 yld:Nat->Hp->V->Hp->Prop
 stop:Nat->Hp->Prop
noncomputable def js(X:Cx)(ag:List (dE×Obj))(H:Hp)(b:dE):Prop:=
 H b=Y/\b≠X.env.locals/\b∉X.fs/\(b∈X.ex\/X.s₀.heap.objs.size<=b)/\(∀x c,X.env.cells.lookup x=Z c->c≠b) /\ ∀p∈X.pn++ag,p.1≠b
theorem Inv.fpOk{X:Cx}{ag:List (dE×Obj)}{σ:St}{H H':Hp}{s:dD}{b:dE}(I:Inv X ag σ H s)(hb:s.heap.objs.size<=b)(hn:H' b=Y):js X ag H' b:=by
 refine⟨hn,nG1 (nL1 I.lt hb),I.nofs hb,.inr (aC I.sz hb),λx c e z=>?_,λp a z=>?_⟩
 ·obtain⟨v,q⟩:=I.cell x c e;exact absurd (nL1 q.lt (by rw[z];exact hb)) (az _)
 ·exact absurd (nL1 (hL1 (I.pin p a).1) (by rw[z];exact hb)) (az _)
structure tu (P:dF)(w:dH)(K:Fg1)(tg:Expr)(am:It)(fp:List dE)(it:dE)(tn:Nat->dN->Prop):Prop where
 mem:it∈fp
 obj:∀i h,tn i h -> ∀b∈fp,∃o,h.get? b=some o /\ ∀v,o.data ≠ .cell v
 keep:∀i h h',tn i h->(∀b∈fp,∀o,h.get? b=some o->h'.get? b=some o)->tn i h'
 item:∀(X:Cx),X.prog=P->X.w=w->X.K=K->X.calm=true -> ∀(i:Nat) (ag:List (dE×Obj)) (s:dD) (σ:St) (H:Hp) (E:dB->dD->Prop),Inv X ag σ H s->(∀b∈fp,js X ag H b)->tn i s.heap->am.go i H ->
  dM (model P w) X.A (pyNext (.ref it)) (λr s1=>∃u,r=some u /\
   dM (model P w) X.A (letOwnedTupleGo tg (.ref it) u) (λ_ s2=>∃x H',Inv X ag σ H' s2/\d7 x u/\am.yld i H x H'/\tn (i+1) s2.heap /\ ∀b∈fp,H' b=none) E s1) E s
 done:∀(X:Cx),X.prog=P->X.w=w->X.K=K->X.calm=true -> ∀(i:Nat) (ag:List (dE×Obj)) (s:dD) (σ:St) (H:Hp) (E:dB->dD->Prop),Inv X ag σ H s->(∀b∈fp,js X ag H b)->tn i s.heap->am.stop i H ->
  dM (model P w) X.A (pyNext (.ref it)) (λr s1=>r=none/\Inv X ag σ H s1) E s
 self:∀(A:dG) (i:Nat) (s:dD) (Q:dB->dD->Prop) (E:dB->dD->Prop),tn i s.heap->Q (.ref it) s->dM (model P w) A (pyIter (.ref it)) Q E s
abbrev TI:=St->Hp->(It->Hp->Prop)->Prop
noncomputable def Jy(X:Cx)(ag:List (dE×Obj))(σ:St)(tg:Expr)(R:It->Hp->Prop)(itv:dB)(s2:dD):Prop:=
 ∃(it:dE) (fp:List dE) (tn:Nat->dN->Prop) (am:It) (H':Hp),itv = .ref it/\Inv X ag σ H' s2/\tu X.prog X.w X.K tg am fp it tn/\tn 0 s2.heap/\(∀b∈fp,js X ag H' b)/\R am H'
noncomputable def PI(X:Cx)(tg iter:Expr)(wi:TI):Prop:=
 ∀(ag:List (dE×Obj)) (s:dD) (σ:St) (H:Hp) (R:It->Hp->Prop),Inv X ag σ H s->wi σ H R ->
  dM (model X.prog X.w) X.A (eval iter X.env) (λv s1=>dM (model X.prog X.w) X.A (pyIter v) (Jy X ag σ tg R) X.xe s1) X.xe s
theorem vN {ao:Model}{A:dG}{E:dB->dD->Prop}{s:dD}{tg:Expr}{it:dE}{u:dB}{o:Obj}{n:String}{vs:Array dB}{Q:Unit->dD->Prop}(ho:s.heap.get? it=some o)(hc:o.cls = .type n)(hd:o.data = .fields vs)
   (hn:["enumerate","zip","dict_itemiterator","dict_reverseitemiterator","odict_iterator","itertools.zip_longest","itertools.pairwise"].contains n=J) (a:Q () s):dM ao A (letOwnedTupleGo tg (.ref it) u) Q E s:=by
 unfold letOwnedTupleGo;cases tg <;> first
   |exact wP1 a
   | (cases u<;>first
       |exact wP1 a
       | (refine wB1 (wpAny_load ho ?_)
          rw[hc,hd];show dM ao A (if(["enumerate","zip","dict_itemiterator","dict_reverseitemiterator","odict_iterator","itertools.zip_longest","itertools.pairwise"].contains n&&vs[0]? == Z (rawInt _))=M then _ else _) Q E s;rw[aj (by intro h;rw[hn,Bool.false_and]at h;cases h)];exact wP1 a))
noncomputable def JC(K:Fg1)(a:dE):It:=
 ⟨λi H=>∃xs x,lU K H a xs/\xs[i]?=Z x,λi H x H'=>H'=H /\ ∀xs,lU K H a xs->xs[i]?=Z x,λi H=>∃xs,lU K H a xs/\xs.length<=i⟩
noncomputable def JB(K:Fg1)(a:dE):It:=
 ⟨λi H=>∃xs x,jm K H a xs/\xs[i]?=Z x,λi H x H'=>H'=H /\ ∀xs,jm K H a xs->xs[i]?=Z x,λi H=>∃xs,jm K H a xs/\xs.length<=i⟩
noncomputable def HE(lo:Int)(n:Nat):It:=⟨λi _=>i<n,λi H x H'=>H'=H/\x = .int (lo+i),λi _=>n<=i⟩
theorem wx{P:dF}{w:dH}{K:Fg1}{tg:Expr}(a it:dE):tu P w K tg (JC K a) [it] it (λi h=>h.IsListIter it a i) where
 mem:=by simp
 obj:=λi h st b f=>by
  have e:b=it:=by simpa using f
  subst e;obtain⟨o,e,c,d⟩:=st;exact⟨o,e,λv z=>by rw[d]at z;cases z⟩
 keep:=λi h h' st k=>st.at λo e=>k it (by simp) o e
 item:=by
  intro X m y A hc i ag s σ H E I g st F;subst m y A;obtain⟨xs,x,j,q⟩:=F;obtain⟨l,C,p,L⟩:=I.list j;obtain⟨u,R,G⟩:=C.get q;obtain⟨B,t,am,r,n,D⟩:=g it (by simp);refine wpAny_pyNext_list_item st p.isList (x:=u) (by simpa using R) λh' st' Q=>?_;have ao:Inv X ag σ H {s with heap:=h'}:=I.turned (t':=s.toks) (λb o f e=>(Q.2 b f).trans e) B t r n D;obtain⟨o,e,c,d⟩:=id st';exact⟨u,O,vN (s:={s with heap:=h'}) e c d (by decide) ⟨x,H,ao,G,⟨O,λys au=>by rw[I.list_inj au j];exact q⟩,st',λb f=>(g b f).1⟩⟩
 done:=by
  intro X m y A hc i ag s σ H E I g st F;subst m y A;obtain⟨xs,j,q⟩:=F;obtain⟨l,C,p,L⟩:=I.list j;obtain⟨B,t,am,r,n,D⟩:=g it (by simp);have S:=C.length;exact wpAny_pyNext_list_end (I.ok.hd hc) st p.isList (by simp;lia) λh' N=>⟨O,I.turned (t':=s.toks) (λb o f e=>N b o f e) B t r n D⟩
 self:=λ_ _ _ _ _ st h=>wpAny_pyIter_listiter st h
theorem tU{P:dF}{w:dH}{K:Fg1}{tg:Expr}(a it:dE):tu P w K tg (JB K a) [it] it (λi h=>h.IsTupleIter it a i) where
 mem:=by simp
 obj:=λi h st b g=>by
  have e:b=it:=by simpa using g
  subst e;obtain⟨o,e,c,d⟩:=st;exact⟨o,e,λv z=>by rw[d]at z;cases z⟩
 keep:=λi h h' st k=>st.at λo e=>k it (by simp) o e
 item:=by
  intro X m y A hc i ag s σ H E I j st F;subst m y A;obtain⟨xs,x,l,q⟩:=F;obtain⟨f,C,p,L⟩:=I.tuple l;obtain⟨u,R,G⟩:=C.get q;obtain⟨B,t,am,r,n,D⟩:=j it (by simp);refine wpAny_pyNext_tuple_item st (show s.heap.IsTuple a f.toArray from p) (x:=u) (by simpa using R) λh' st' Q=>?_;have ao:Inv X ag σ H {s with heap:=h'}:=I.turned (t':=s.toks) (λb o g e=>(Q.2 b g).trans e) B t r n D;obtain⟨o,e,c,d⟩:=id st';exact⟨u,O,vN (s:={s with heap:=h'}) e c d (by decide) ⟨x,H,ao,G,⟨O,λys au=>by rw[I.tuple_inj au l];exact q⟩,st',λb g=>(j b g).1⟩⟩
 done:=by
  intro X m y A hc i ag s σ H E I j st F;subst m y A;obtain⟨xs,l,q⟩:=F;obtain⟨f,C,p,L⟩:=I.tuple l;obtain⟨B,t,am,r,n,D⟩:=j it (by simp);have S:=C.length;exact wpAny_pyNext_tuple_end (I.ok.hd hc) st (show s.heap.IsTuple a f.toArray from p) (by simp;lia) λh' N=>⟨O,I.turned (t':=s.toks) (λb o g e=>N b o g e) B t r n D⟩
 self:=λ_ _ _ _ _ st h=>wpAny_pyIter_tupleiter st h
theorem tV{P:dF}{w:dH}{K:Fg1}{tg:Expr}(it:dE)(lo:Int)(n:Nat):tu P w K tg (HE lo n) [it] it (λi h=>IsRangeIter h it (lo+(i:Nat)*1) ((n:Int)-(i:Nat)) 1) where
 mem:=by simp
 obj:=λi h st b a=>by
  have e:b=it:=by simpa using a
  subst e;exact⟨_,st,λv z=>by
   have C:Data.fields _=Data.cell v:=z;cases C⟩
 keep:=λi h h' st k=>k it (by simp) _ st
 item:=by
  intro X g q d hc i ag s σ H E I c st m;subst g q d;obtain⟨r,p,x,l,j,f⟩:=c it (by simp);have W:=Walks.range (prog:=X.prog) (w:=X.w) (I.ok.hd hc) it lo 1 n;refine W.item i s _ _ m st λv h' tk u st' B=>?_;obtain⟨t,rfl⟩:=u;have y:Inv X ag σ H {s with heap:=h',toks:=tk}:=I.turned (λb o a e=>B b o (by simpa using a) e) r p l j f;refine⟨_,O,vN (s:={s with heap:=h',toks:=tk}) (n:="range_iterator") st' O O (by decide) ⟨.int (lo+i),H,y,⟨t,?_⟩,⟨O,O⟩,st',λb a=>(c b a).1⟩⟩;rw[Int.mul_one]
 done:=by
  intro X g q d hc i ag s σ H E I c st m;subst g q d;obtain⟨r,p,x,l,j,f⟩:=c it (by simp);exact wpAny_pyNext_range_end (I.ok.hd hc) st (by have:n<=i:=m;lia) λh' A=>⟨O,I.turned (t':=s.toks) (λb o a e=>A b o a e) r p l j f⟩
 self:=λ_ _ _ _ _ st h=>wpAny_pyIter_rangeiter st h
end L2
namespace L2
open PySem PySem.Spec PyProof.Rows
section
variable{X:Cx}{tg:Expr}
noncomputable def G0(K:Fg1)(tl:TE):TI:=fun σ H R=>tl σ H λx H1=>∃a,x = .ref a/\(∃xs,lU K H1 a xs)/\R (JC K a) H1
noncomputable def IQ(K:Fg1)(tl:TE):TI:=fun σ H R=>tl σ H λx H1=>∃a,x = .ref a/\(∃xs,jm K H1 a xs)/\R (JB K a) H1
theorem Bv{l:Expr}{tl:TE}(m:PE X l tl):PI X tg l (G0 X.K tl):=by
 intro ag s σ H R I h;refine fg (m ag s σ H _ I h) λv c ⟨x,H1,d,f,j⟩=>?_;obtain⟨a,e,⟨xs,k⟩,q⟩:=j;subst e;cases f;obtain⟨g,r,p,n⟩:=d.list k;refine wpAny_pyIter_list p.isList ?_;refine⟨c.heap.objs.size,[c.heap.objs.size],_,_,H1,O,d.kept (t':=c.toks) λb o e=>hP1 _ e,wx a _,⟨_,hS1 _ O,O,O⟩,λb i=>?_,q⟩;have e:b=c.heap.objs.size:=by simpa using i
 subst e;exact d.fpOk (nR1 _) (d.hok.fresh (nR1 _))
theorem D7{l:Expr}{tl:TE}(m:PE X l tl):PI X tg l (IQ X.K tl):=by
 intro ag s σ H R I h;refine fg (m ag s σ H _ I h) λv c ⟨x,H1,d,g,j⟩=>?_;obtain⟨a,e,⟨xs,k⟩,q⟩:=j;subst e;cases g;obtain⟨f,r,p,n⟩:=d.tuple k;refine wpAny_pyIter_tuple (show c.heap.IsTuple a f.toArray from p) ?_;refine⟨c.heap.objs.size,[c.heap.objs.size],_,_,H1,O,d.kept (t':=c.toks) λb o e=>hP1 _ e,tU a _,⟨_,hS1 _ O,O,O⟩,λb i=>?_,q⟩;have e:b=c.heap.objs.size:=by simpa using i
 subst e;exact d.fpOk (nR1 _) (d.hok.fresh (nR1 _))
theorem rF{ag:List (dE×Obj)}{σ:St}{H:Hp}{s:dD}{R:It->Hp->Prop}{E:dB->dD->Prop}{lo hi:Int}{t u v:Tok}{tk:Nat}(I:Inv X ag σ H s)(h1: -(2^62)<=lo)(h2:lo<2^62)(f: -(2^62)<=hi)(d:hi<2^62)(q:R (HE lo (hi-lo).toNat) H):dM (model X.prog X.w) X.A (pyIter (.ref s.heap.objs.size)) (Jy X ag σ tg R) E {s with heap:=s.heap.push {cls:=.type "range",data:=.fields #[.int lo t,.int hi u,.int 1 v]},toks:=tk}:=by
 refine wpAny_pyIter_range (IsRange.new ..) (small_one h1 h2 f d) ?_;have a:Inv X ag σ H {s with heap:=s.heap.push {cls:=.type "range",data:=.fields #[.int lo t,.int hi u,.int 1 v]},toks:=tk}:=I.kept λb o e=>hP1 _ e;refine⟨(s.heap.push {cls:=.type "range",data:=.fields #[.int lo t,.int hi u,.int 1 v]}).objs.size,[(s.heap.push {cls:=.type "range",data:=.fields #[.int lo t,.int hi u,.int 1 v]}).objs.size],_,_,H,O,
  a.kept (t':=tk) λb o e=>hP1 _ e,tV _ lo (hi-lo).toNat,?_,λb g=>?_,q⟩
 ·have c:lo+((0:Nat):Int)*1=lo:=by simp
  have h:(((hi-lo).toNat:Nat):Int)-((0:Nat):Int)=Builtin.Range.rangeSize lo hi 1:=by rw[rangeSize_one];split<;>lia
  show IsRangeIter _ _ (lo+((0:Nat):Int)*1) ((((hi-lo).toNat:Nat):Int)-((0:Nat):Int)) 1;rw[c,h];exact hS1 _ O
 ·have e:b=(s.heap.push {cls:=.type "range",data:=.fields #[.int lo t,.int hi u,.int 1 v]}).objs.size:=by simpa using g
  subst e;exact a.fpOk (nR1 _) (a.hok.fresh (nR1 _))
noncomputable def GY(ta:TA):TI:=fun σ H R=>ta σ H λvs H1=>∃j:Int,vs=[.int j] /\ -(2^62)<=j/\j<2^62/\R (HE 0 j.toNat) H1
noncomputable def GX(ta:TA):TI:=fun σ H R=>ta σ H λvs H1=>∃i j:Int,vs=[.int i,.int j]/\(-(2^62)<=i/\i<2^62 /\ -(2^62)<=j/\j<2^62)/\R (HE i (j-i).toNat) H1
theorem wJ {a:Expr}{ta:TA}{p pos:Pos}(hg:Gl X "range")(hm:X.mg "range"=Y)(ha:PA X [a] ta)(hs:dJ [a] X.env=[(J,eval a X.env)]:=by rfl):PI X tg (.Call (.Name "range" p) [a] [] pos) (GY ta):=by
 intro ag s σ H R I h;refine Call_ (jE I hg hm boot_range (PyProof.Rows.callWith_type1 (fg (ha pos ag s σ H _ I h) λk i ⟨vs,H1,g,d,b⟩=>?_) hs O));obtain⟨j,e,b,f,q⟩:=b;subst e;cases d with
 |cons r c=>
  cases c;obtain⟨t,rfl⟩:=r;exact call_range_1 (rF g (by lia) (by lia) b f (by simpa using q))
theorem wI {a b:Expr}{ta:TA}{p pos:Pos}(hg:Gl X "range")(hm:X.mg "range"=none)(ha:PA X [a,b] ta)(hs:dJ [a,b] X.env=[(false,eval a X.env),(false,eval b X.env)]:=by rfl)(hs2:dJ [b] X.env=[(false,eval b X.env)]:=by rfl):
  PI X tg (.Call (.Name "range" p) [a,b] [] pos) (GX ta):=by
 intro ag s σ H R I h;refine Call_ (jE I hg hm boot_range (PyProof.Rows.callWith_type1 (fg (ha pos ag s σ H _ I h) λv o ⟨vs,H1,m,f,d⟩=>?_) (by rw[hs,hs2]) (by rw[hs2];rfl)));obtain⟨i,j,e,⟨d,l,n,k⟩,q⟩:=d;subst e;cases f with
 |cons r c=>
  cases c with
  |cons g c=>
   cases c;obtain⟨t,rfl⟩:=r;obtain⟨u,rfl⟩:=g;exact call_range_2 (rF m d l n k q)
noncomputable def F9(wi:TI)(g:TG)(tb:TS):TS:=λD σ H=>wi σ H λam H1=>∃W:Nat->Nat->St->Hp->Prop,(∃m,W 0 m σ H1) /\ ∀i m σ H,W i m σ H ->
 (am.stop i H/\D.nx σ H)\/(am.go i H /\ ∃N:St->Hp->Prop,(∀ σ' H',N σ' H' -> ∃m',m'<m/\W (i+1) m' σ' H') /\ ∀x H',am.yld i H x H'->g x σ H' fun σ2 H2=>tb {D with nx:=N,ct:=N,bk:=D.nx} σ2 H2)
noncomputable def mM(fp:List dE)(h:dN):List (dE×Obj):=fp.filterMap λb=>(h.get? b).map λo=>(b,o)
theorem iA{a:List dE}{h:dN}{b:dE}{o:Obj}(hb:b∈a)(e:h.get? b=Z o):(b,o)∈mM a h:=aL.mpr ⟨b,hb,by rw[e];rfl⟩
theorem wL{a:List dE}{h:dN}{p:dE×Obj}(hp:p∈mM a h):p.1∈a/\h.get? p.1=Z p.2:=by
 obtain⟨b,c,e⟩:=aL.mp hp;cases q:h.get? b with
 |none=>rw[q]at e;cases e
 |some o=>
  rw[q]at e;have d:(b,o)=p:=Option.some.inj e;subst d;exact⟨c,q⟩
theorem Inv.pinned{ag:List (dE×Obj)}{σ:St}{H:Hp}{s:dD}{a:List dE}(I:Inv X ag σ H s)(hf:∀b∈a,js X ag H b)(ho:∀b∈a,∃o,s.heap.get? b=Z o /\ ∀v,o.data ≠ .cell v):Inv X (ag++mM a s.heap) σ H s:=
 I.pins_of λp h=>(aG.mp h).elim (λz=>I.pin p (mA1 _ z)) λz=>by
  obtain⟨f,e⟩:=wL z;obtain⟨j,i,g,_⟩:=hf p.1 f;obtain⟨o,c,d⟩:=ho p.1 f;rw[e]at c;cases c;exact⟨e,j,i,g,d⟩
theorem Inv.unpinned{ag pl:List (dE×Obj)}{σ:St}{H:Hp}{s:dD}(I:Inv X (ag++pl) σ H s):Inv X ag σ H s:=I.pins_of λp a=>I.pin p (mA1 _ (aH _ a))
theorem D2{iter:Expr}{t:List dQ}{wq:TI}{g:TG}{tb:TS}{pos:Pos}(hp:PassesOwn (model X.prog X.w) X.A X.env X.xe)(hc:X.calm=M)(hi:PI X tg iter wq)(hg:PG X tg g)(hb:tH X t tb)(hs:∀x,foldedSetIterable iter X.env x=pure x:=by intro _;rfl):PS X (.For tg iter t [] pos) (F9 wq g tb):=by
 intro ag s σ H D I h;refine wpAny_For (fg (hi ag s σ H _ I h) λv s1 h1=>fg h1 λitv s2 h2=>?_) hs;obtain⟨it,E,U,am,H2,e,I2,T,au,R,W,⟨m0,w0⟩,C⟩:=h2;subst e
 -- what stays M of the iterator's objects through the loop
 have j:∀{H':Hp},(∀b∈E,H' b=Y) -> ∀b∈E,js X ag H' b:=λhn b hb=>⟨hn b hb,(R b hb).2⟩;refine codeAny_forLoop_any (λn s'=>∃i c H',Inv X ag c H' s'/\U i s'.heap/\(∀b∈E,H' b=Y)/\W i n c H') ?_ m0 ⟨0,σ,H2,I2,au,λb hb=>(R b hb).1,w0⟩;rintro n aq ⟨i,k,F,V,z,A,w3⟩;rcases C i n k F w3 with⟨y,qn⟩|⟨go,N,hN,step⟩
 ·refine wpAny_passesOwn hp (fg (T.done X O O O hc i ag aq k F X.xe V (j A) z y) λr s4 ⟨G,I4⟩=>?_);subst G;exact wpAny_execs_nil ⟨k,F,I4,qn⟩
 ·refine wpAny_passesOwn hp (fg (T.item X rfl rfl rfl hc i ag aq k F X.xe V (j A) z go) fun r s4 ⟨u,G,h4⟩=>?_);subst G;refine wpAny_passesOwn hp (fg h4 fun _ S ⟨x,Q,I5,r5,y5,w,L⟩=>?_);have K:=I5.pinned (j L) (T.obj _ _ w);refine wpAny_passesOwn hp (fg (hg _ S k Q x u _ K r5 (step x Q y5)) fun _ s6 ⟨ao,H6,I6,q6⟩=>?_);refine wpAny_passesOwn hp (fg (hb _ s6 ao H6 _ I6 q6) fun f P q=>?_);have again:∀ {a:St} {l:Hp},Inv X (ag++mM E S.heap) a l P->N a l -> ∃ m,m<n /\ ∃ i c H',Inv X ag c H' P/\U i P.heap/\(∀ b∈E,H' b=none)/\W i m c H':=fun {a l} p B=>by
   obtain⟨m',hm,w7⟩:=hN a l B;refine⟨m',hm,i+1,a,l,p.unpinned,T.keep _ _ _ w λb hb o e=>(p.pin (b,o) (mA1 _ (mA1 _ (iA hb e)))).1,λb hb=>?_,w7⟩;obtain⟨o,e,d⟩:=T.obj _ _ w b hb;exact(p.pin (b,o) (mA1 _ (mA1 _ (iA hb e)))).2.1
  cases f with
  |next=>obtain⟨a,l,p,B⟩:=q;exact again p B
  |cont=>obtain⟨a,l,p,B⟩:=q;exact again p B
  |brk=>obtain⟨a,l,p,q⟩:=q;exact⟨a,l,p.unpinned,q⟩
  |ret v=>obtain⟨x7,a,l,p,r7,q⟩:=q;exact⟨x7,a,l,p.unpinned,r7,q⟩
end
end L2
namespace L2
open PySem PySem.Spec PyProof.Rows
abbrev R2:=V->V->Hp->VK->Prop
noncomputable def gp(X:Cx)(f:dB->dB->Sem dB)(r:R2):Prop:=
 ∀(ag:List (dE×Obj)) (s:dD) (σ:St) (H:Hp) (x y:V) (v u:dB) (Q:VK),Inv X ag σ H s->d7 x v->d7 y u->r x y H Q ->
  dM (model X.prog X.w) X.A (f v u) (EP X ag σ Q) X.xe s
noncomputable def FQ(X:Cx)(f:dB->Sem dB)(r:V->Hp->VK->Prop):Prop:=
 ∀(ag:List (dE×Obj)) (s:dD) (σ:St) (H:Hp) (x:V) (v:dB) (Q:VK),Inv X ag σ H s->d7 x v->r x H Q ->
  dM (model X.prog X.w) X.A (f v) (EP X ag σ Q) X.xe s
noncomputable def fj(X:Cx)(f:dB)(r:List V->Hp->VK->Prop):Prop:=
 ∀(ag:List (dE×Obj)) (s:dD) (σ:St) (H:Hp) (xs:List V) (us:List dB) (Q:VK),Inv X ag σ H s->ei xs us->r xs H Q ->
  dM (model X.prog X.w) X.A (call f us) (EP X ag σ Q) X.xe s
noncomputable def I9(X:Cx)(r:V->Hp->(Bool->Hp->Prop)->Prop):Prop:=
 ∀(ag:List (dE×Obj)) (s:dD) (σ:St) (H:Hp) (x:V) (v:dB) (Q:Bool->Hp->Prop),Inv X ag σ H s->d7 x v->r x H Q ->
  dM (model X.prog X.w) X.A (truthy v) (TP X ag σ Q) X.xe s
noncomputable def F6(r:R2)(ta tb:TE):TE:=fun σ H Q=>ta σ H λx H1=>tb σ H1 λy H2=>r x y H2 Q
noncomputable def Jf(r:V->Hp->VK->Prop)(ta:TE):TE:=fun σ H Q=>ta σ H λx H1=>r x H1 Q
noncomputable def rI(C:Int->Int->Prop)(g:Int->Int->V):R2:=λx y H Q=>∃i j,x = .int i/\y = .int j/\C i j/\Q (g i j) H
noncomputable def C1(g:Int->Int->V):R2:=λx y H Q=>∃i j,x = .int i/\y = .int j/\Q (g i j) H
noncomputable def rU(g:Int->V):V->Hp->VK->Prop:=λx H Q=>∃i,x = .int i/\Q (g i) H
section
variable{X:Cx}{a b c:Expr}{ta tb tc:TE}{pos:Pos}
theorem Fq(ha:PE X a ta)(hb:PE X b tb){ag:List (dE×Obj)}{s:dD}{σ:St}{H:Hp}{R:V->V->Hp->Prop}(I:Inv X ag σ H s)(h:ta σ H fun x H1=>tb σ H1 fun y H2=>R x y H2){Q:dB->dD->Prop}{f:dB->dB->Sem dB}(hf:∀v u e x y H2,Inv X ag σ H2 e->d7 x v->d7 y u->R x y H2->dM (model X.prog X.w) X.A (f v u) Q X.xe e):
  dM (model X.prog X.w) X.A (eval a X.env) (λv c=>dM (model X.prog X.w) X.A (eval b X.env) (λu d=>dM (model X.prog X.w) X.A (f v u) Q X.xe d) X.xe c) X.xe s:=by
 refine fg (ha ag s σ H _ I h) λv g ⟨x,H1,m,i,l⟩=>?_;refine fg (hb ag g σ H1 _ m l) λu e ⟨y,H2,k,r2,j⟩=>?_;exact hf v u e x y H2 k i r2 j
theorem Gr{op:Operator}{r:R2}(ho:gp X (binaryOp op) r)(ha:PE X a ta)(hb:PE X b tb):PE X (.BinOp a op b pos) (F6 r ta tb):=by
 intro ag s σ H Q I h;exact wpAny_BinOp (Fq ha hb I h λv u f x y H2 c e d q=>ho ag f σ H2 x y v u Q c e d q)
theorem Gq{op:UnaryOp}{r:V->Hp->VK->Prop}(ho:FQ X (unaryOp op) r)(ha:PE X a ta):PE X (.UnaryOp op a pos) (Jf r ta):=by
 intro ag s σ H Q I h;exact UnaryOp_ (fg (ha ag s σ H _ I h) λv b ⟨x,H1,d,c,e⟩=>ho ag b σ H1 x v Q d c e)
theorem HM{f:dB->dB->Sem dB}{C:Int->Int->Prop}{g:Int->Int->Int}(a:∀(i j:Int) (t u:Tok) (s:dD) (Q:dB->dD->Prop) (E:dB->dD->Prop),C i j->Q (.int (g i j) s.toks) {s with toks:=s.toks+1}->dM (model X.prog X.w) X.A (f (.int i t) (.int j u)) Q E s):
  gp X f (rI C λi j=>.int (g i j)):=by
 intro ag s σ H x y v u Q I c b h;obtain⟨i,j,rfl,rfl,hc,q⟩:=h;obtain⟨t,rfl⟩:=c;obtain⟨d,rfl⟩:=b;exact a i j t d s _ _ hc ⟨.int (g i j),H,I.tok _,⟨_,O⟩,q⟩
theorem Eo{f:dB->dB->Sem dB}{g:Int->Int->Int}(a:∀(i j:Int) (t u:Tok) (s:dD) (Q:dB->dD->Prop) (E:dB->dD->Prop),Q (.int (g i j) s.toks) {s with toks:=s.toks+1}->dM (model X.prog X.w) X.A (f (.int i t) (.int j u)) Q E s):
  gp X f (C1 λi j=>.int (g i j)):=by
 intro ag s σ H x y v u Q I c b h;obtain⟨i,j,rfl,rfl,q⟩:=h;obtain⟨t,rfl⟩:=c;obtain⟨d,rfl⟩:=b;exact a i j t d s _ _ ⟨.int (g i j),H,I.tok _,⟨_,O⟩,q⟩
theorem Gz{f:dB->dB->Sem dB}{g:Int->Int->Bool}(a:∀(i j:Int) (t u:Tok) (s:dD) (Q:dB->dD->Prop) (E:dB->dD->Prop),Q (.bool (g i j)) s->dM (model X.prog X.w) X.A (f (.int i t) (.int j u)) Q E s):
  gp X f (C1 λi j=>.bl (g i j)):=by
 intro ag s σ H x y v u Q I c b h;obtain⟨i,j,rfl,rfl,q⟩:=h;obtain⟨t,rfl⟩:=c;obtain⟨d,rfl⟩:=b;exact a i j t d s _ _ ⟨.bl (g i j),H,I,O,q⟩
noncomputable def HH(i j:Int):Prop:=0<j/\j<1073741824
noncomputable def HG(i j:Int):Prop:=0<=j/\j<=1000000/\i.natAbs<2^64
theorem En:gp X (binaryOp .Add) (C1 λi j=>.int (i+j)):=Eo λ_ _ _ _ _ _ _ q=>add_int q
theorem Ei:gp X (binaryOp .Sub) (C1 λi j=>.int (i-j)):=Eo λ_ _ _ _ _ _ _ q=>sub_int q
theorem BD:gp X (binaryOp .FloorDiv) (rI HH λi j=>.int (i/j)):=HM λi j _ _ _ _ _ hc q=>by
 have h1:(0:Int)<j:=hc.1;have h2:j<1073741824:=hc.2;exact floordiv_int (by lia) (by rw[Int.fdiv_eq_ediv_of_nonneg i (by lia)];exact q) (.inl (PyProof.noPylong_small (by lia)))
theorem Ek:gp X (binaryOp .Mod) (rI (λ_ j=>0<j) λi j=>.int (i%j)):=HM λi j _ _ _ _ _ hc q=>by
 have h1:(0:Int)<j:=hc;exact mod_int' (by lia) (by rw[Int.fmod_eq_emod_of_nonneg i (by lia)];exact q)
theorem Ej:gp X (binaryOp .Pow) (rI HG λi j=>.int (i^j.toNat)):=HM λ_ _ _ _ _ _ _ hc q=>pow_int_small hc.1 hc.2.1 hc.2.2 q
theorem Cc:gp X (inplaceOp .Add) (C1 λi j=>.int (i+j)):=Eo λ_ _ _ _ _ _ _ q=>iadd_int q
theorem JF{f:dB->Sem dB}{g:Int->Int}(a:∀(i:Int) (t:Tok) (s:dD) (Q:dB->dD->Prop) (E:dB->dD->Prop),Q (.int (g i) s.toks) {s with toks:=s.toks+1}->dM (model X.prog X.w) X.A (f (.int i t)) Q E s):
  FQ X f (rU λi=>.int (g i)):=by
 intro ag s σ H x v Q I b h;obtain⟨i,rfl,q⟩:=h;obtain⟨t,rfl⟩:=b;exact a i t s _ _ ⟨.int (g i),H,I.tok _,⟨_,O⟩,q⟩
theorem Dq:FQ X (unaryOp .USub) (rU λi=>.int (-i)):=JF λ_ _ _ _ _ q=>neg_int q
theorem Ag{ag:List (dE×Obj)}{σ:St}{H:Hp}{s:dD}{Q:VK}{k k':Bool}(I:Inv X ag σ H s)(q:Q (.bl k) H)(e:k=k'):EP X ag σ Q (.bool k') s:=by
 subst e;exact⟨.bl k,H,I,O,q⟩
theorem Gx:gp X (compareOp .Gt) (C1 λi j=>.bl (decide (j<i))):=Gz λ_ _ _ _ _ _ _ q=>gt_int q
theorem Gy:gp X (compareOp .GtE) (C1 λi j=>.bl (decide (j<=i))):=Gz λ_ _ _ _ _ _ _ q=>ge_int q
theorem El:gp X (compareOp .Is) (λx y H Q=>y = .non/\Q (.bl (decide (x = .non))) H):=by
 intro ag s σ H x y v u Q I a b h;obtain⟨rfl,q⟩:=h;cases b;refine is_none_gen (Ag I q ?_);cases x<;>first
  |(cases a;rfl)
  |(obtain⟨t,rfl⟩:=a;rfl)
theorem BC:gp X (compareOp .IsNot) (λx y H Q=>y = .non/\Q (.bl (!decide (x = .non))) H):=by
 intro ag s σ H x y v u Q I a b h;obtain⟨rfl,q⟩:=h;cases b;refine isnot_none_gen (Ag I q ?_);cases x<;>first
  |(cases a;rfl)
  |(obtain⟨t,rfl⟩:=a;rfl)
theorem zn(b:Expr){op:CmpOp}(h:op ≠ .In:=by decide)(h2:op ≠ .NotIn:=by decide):behindInMarks op b=J:=by
 have c:(op == CmpOp.In)=J:=by cases op<;>first|rfl|exact absurd rfl h
 have a:(op == CmpOp.NotIn)=J:=by cases op<;>first|rfl|exact absurd rfl h2
 cases b<;>simp[behindInMarks,c,a]
theorem BA{op:CmpOp}{r:R2}(ho:gp X (compareOp op) r)(ha:PE X a ta)(hb:PE X b tb)(hm:behindInMarks op b=J):PE X (.Compare a [op] [b] pos) (F6 r ta tb):=by
 intro ag s σ H Q I h;exact wpAny_Compare1 (Fq ha hb I h λv u f x y H2 c e d q=>ho ag f σ H2 x y v u Q c e d q) hm
noncomputable def F2(t:TE):TT:=fun σ H Q=>t σ H λx H'=>∃k,x = .bl k/\Q k H'
theorem Bk{op:CmpOp}{r:R2}(ho:gp X (compareOp op) r)(ha:PE X a ta)(hb:PE X b tb)(hm:behindInMarks op b=J):PT X (.Compare a [op] [b] pos) (F2 (F6 r ta tb)):=by
 intro ag s σ H Q I h;refine wpAny_isTrue_Compare1 (fg (ha ag s σ H _ I h) λv d ⟨x,H1,p,g,n⟩=>fg (hb ag d σ H1 _ p n) λu i ⟨y,H2,j,r2,o⟩=>
  fg (ho ag i σ H2 x y v u _ j g r2 o) λc t ⟨z,m,l,f,k,e,q⟩=>?_) hm
 subst e;cases f;exact wpAny_truthy_bool ⟨m,l,q⟩
noncomputable def CN(K:Fg1)(x:V)(H:Hp)(k:Bool):Prop:=
 match x with
 | .non=>k=J
 | .bl b=>k=b
 | .int i=>k=(i != 0)
 | .str y=>y.length<=dL/\k=((y.length:Int) != 0)
 | .byt y=>y.size<=dL/\k=((y.size:Int) != 0)
 | .ref p=>(∃xs,lU K H p xs/\k = !xs.isEmpty)\/(∃xs,jm K H p xs/\k = !xs.isEmpty) \/ ∃kvs,H p=Z (.dK kvs)/\k = !kvs.isEmpty
 |_=>False
theorem uv{κ:Type}{kvs:List (κ×V)}{vs:List (κ×dB)}(r:KV kvs vs):(!vs.isEmpty) = !kvs.isEmpty:=by
 cases r<;>rfl
theorem m5{xs:List V}{its:List dB}(r:ei xs its):(!its.toArray.isEmpty) = !xs.isEmpty:=by
 cases r<;>simp
theorem k7:(dL:Nat)<2^63:=by rw[sizeLine_eq];decide
theorem Dv:I9 X (λx H Q=>∃k,CN X.K x H k/\Q k H):=by
 intro ag s σ H x v Q I d h;obtain⟨k,e,q⟩:=h;have o:=k7;have u:dL=16777216:=sizeLine_eq;cases x with
 |non=>
  cases d;have a:k=J:=e;subst a;exact truthy_none ⟨H,I,q⟩
 |bl b=>
  cases d;have a:k=b:=e;subst a;exact wpAny_truthy_bool ⟨H,I,q⟩
 |int i=>
  obtain⟨t,rfl⟩:=d;have a:k=(i != 0):=e;subst a;exact PySem.P.truthy_int ⟨H,I,q⟩
 |str y=>
  obtain⟨t,rfl⟩:=d;obtain⟨n,a⟩:y.length<=dL/\k=((y.length:Int) != 0):=e;subst a;exact PySem.P.truthy_str (by lia) ⟨H,I.tok _,q⟩
 |byt y=>
  obtain⟨t,rfl⟩:=d;obtain⟨n,a⟩:y.size<=dL/\k=((y.size:Int) != 0):=e;subst a;exact PySem.W.truthy_bytes (by lia) ⟨H,I.tok _,q⟩
 |ref p=>
  cases d;have a:(∃xs,lU X.K H p xs/\k = !xs.isEmpty)\/(∃xs,jm X.K H p xs/\k = !xs.isEmpty) \/ ∃kvs,H p=Z (.dK kvs)/\k = !kvs.isEmpty:=e;rcases a with⟨xs,f,a⟩|⟨xs,f,a⟩|⟨kvs,f,a⟩
  ·subst a;obtain⟨g,r,pl,j⟩:=I.list f;have c:=r.length;exact wpAny_truthy_list pl.isList (by simp only[sT1];lia) ⟨H,I.tok _,by rw[m5 r];exact q⟩
  ·subst a;obtain⟨g,r,pl,j⟩:=I.tuple f;have c:=r.length;exact truthy_tuple pl (by simp only[sT1];lia) ⟨H,I.tok _,by rw[m5 r];exact q⟩
  ·subst a;obtain⟨j,l,vs,r,m⟩:kvs.length<=dL/\(p == sysModules)=false /\ ∃vs,KV kvs vs/\s.heap.DictOf (eW X.prog X.w) p vs:=I.hok p _ f;have c:kvs.length=vs.length:=Paired.length r;exact wpAny_truthy_dict l m (by lia) ⟨H,I.tok _,by rw[uv r];exact q⟩
 |_=>exact(show False from e).elim
theorem yO(ha:PE X a ta)(he:∀ b,isTrue a X.env b=(do let v<-b;standAt a.pos;holding [v] (truthy v))):
  PT X a (fun σ H Q=>ta σ H λx H'=>∃k,CN X.K x H' k/\Q k H'):=by
 intro ag s σ H Q I h;exact isTrue_plain (fg (ha ag s σ H _ I h) λv c ⟨x,H1,f,d,e⟩=>Dv ag c σ H1 x v Q f d e) (he _)
theorem uh:gp X (binaryOp .Add) (λx y H Q=>∃i j,x = .str i/\y = .str j/\i.length+j.length<=dL/\Q (.str (i++j)) H):=by
 intro ag s σ H x y v u Q I c b h;obtain⟨i,j,rfl,rfl,a,q⟩:=h;obtain⟨t,rfl⟩:=c;obtain⟨d,rfl⟩:=b;exact add_str (λd tk=>⟨.str (i++j),H,I.tok _,⟨_,O⟩,q⟩) a
theorem iK{x:V}{a:List dB}(r:ei [x] a):∃u,a=[u]/\d7 x u:=by
 cases r with
 |cons b r2=>cases r2;exact⟨_,O,b⟩
theorem CS{x y:V}{a:List dB}(r:ei [x,y] a):∃u w',a=[u,w']/\d7 x u/\d7 y w':=by
 cases r with
 |cons d r2=>
  cases r2 with
  |cons b c=>cases c;exact⟨_,_,O,d,b⟩
theorem xC(hc:X.calm=M):fj X (.builtin "max") (λxs H Q=>∃i j,xs=[.int i,.int j]/\Q (.int (if j>i then j else i)) H):=by
 intro ag s σ H xs c Q I r h;obtain⟨i,j,rfl,q⟩:=h;obtain⟨u,b,rfl,⟨t,rfl⟩,⟨d,rfl⟩⟩:=CS r;refine max_two_ints (I.ok.hd hc) λh' tk k=>⟨_,H,I.kept k,?_,q⟩;by_cases a:j>i
 ·rw[ak a,ak a];exact⟨_,O⟩
 ·rw[aj a,aj a];exact⟨_,O⟩
theorem xB(hc:X.calm=M):fj X (.builtin "min") (λxs H Q=>∃i j,xs=[.int i,.int j]/\Q (.int (if j<i then j else i)) H):=by
 intro ag s σ H xs c Q I r h;obtain⟨i,j,rfl,q⟩:=h;obtain⟨u,b,rfl,⟨t,rfl⟩,⟨d,rfl⟩⟩:=CS r;refine min_two_ints (I.ok.hd hc) λh' tk k=>⟨_,H,I.kept k,?_,q⟩;by_cases a:j<i
 ·rw[ak a,ak a];exact⟨_,O⟩
 ·rw[aj a,aj a];exact⟨_,O⟩
theorem pd:fj X (.type "int") (λxs H Q=>(∃i,xs=[.int i]/\Q (.int i) H) \/ ∃k,xs=[.bl k]/\Q (.int (if k then 1 else 0)) H):=by
 intro ag s σ H xs b Q I r h;rcases h with⟨i,rfl,q⟩|⟨k,rfl,q⟩
 ·obtain⟨u,rfl,t,rfl⟩:=iK r;exact call_int_int ⟨.int i,H,I,⟨_,O⟩,q⟩
 ·obtain⟨u,rfl,a⟩:=iK r;cases a;exact call_int_bool ⟨.int (if k then 1 else 0),H,I.tok _,⟨_,O⟩,q⟩
end
end L2
namespace L2
open PySem PySem.Spec PyProof.Rows
section
variable{prog:dF}{w:dH}{A:dG}{E:dB->dD->Prop}{s:dD}{K:Fg1}{x dx C f:dE}{mA:Str->Option dB}{name:Str}{v:dB}
end
theorem l5.some_of{v:V}{o:Option dB}(r:l5 (Z v) o):∃u,o=Z u/\d7 v u:=by
 cases o with
 |none=>exact(show False from r).elim
 |some u=>exact⟨u,O,r⟩
section
variable{P:dF}{w:dH}{H H':Hp}{h h':dN}{a C dx:dE}{fs fs':List (Str×V)}
end
section
variable{X:Cx}{ag:List (dE×Obj)}{σ:St}{H:Hp}{s:dD}{a C dx:dE}{fs:List (Str×V)}{f:Str}{v:V}{A:dG}{E:dB->dD->Prop}
end
section
variable{X:Cx}{o e value:Expr}{f:Str}{pos pos' tpos:Pos}{ta tv:TE}
end
section
variable{X:Cx}{ag:List (dE×Obj)}{σ:St}{H:Hp}{s:dD}{A:dG}{E:dB->dD->Prop}{Q:dB->dD->Prop}{c:dB}{b:Bool}
end
end L2
namespace L2
open PySem PySem.Spec PyProof.Rows
structure fN (k:Nat)(A:dG):Prop where
 hd:A.handled=none
 dp:A.depth+3*k+5<recursionLimit
 un:A.units+16*k+200<cLine
 gd:A.guards=some []
theorem fN.mono{j k:Nat}{A:dG}(r:fN k A)(h:j<=k):fN j A:=⟨r.hd,by have:=r.dp;lia,by have:=r.un;lia,r.gd⟩
theorem fN.deeper{k:Nat}{A:dG}(r:fN (k+1) A)(env:Env):fN k (A.deeper env):=
 ⟨r.hd,by have:=r.dp;show A.depth+1+3*k+5<_;lia,by have:=r.un;show A.units+3+16*k+200<_;lia,r.gd⟩
theorem fN.depth{k:Nat}{A:dG}(r:fN k A):A.depth<recursionLimit:=by have:=r.dp;lia
theorem fN.units{k:Nat}{A:dG}(r:fN k A):A.units+64<cLine:=by have:=r.un;lia
noncomputable def Ii:TA:=λ_ H Q=>Q [] H
noncomputable def Gc(ta:TE)(tr:TA):TA:=fun σ H Q=>ta σ H λx H1=>tr σ H1 λxs H2=>Q (x::xs) H2
section
variable{X:Cx}{e:Expr}{es:List Expr}{te:TE}{t:TA}{pos:Pos}
theorem mR:PA X [] Ii:=λ_ _ _ _ H Q I h=>Calls.spliced_nil ⟨[],H,I,.nil,h⟩
theorem j7(ha:PE X e te)(hr:PA X es t)(hs:dJ (e::es) X.env=(J,eval e X.env)::dJ es X.env:=by rfl):PA X (e::es) (Gc te t):=by
 intro pos ag s σ H Q I h;rw[hs];show dM _ _ (spliced ((J,eval e X.env)::backTo pos (dJ es X.env))) _ _ s;refine Calls.spliced_cons (fg (ha ag s σ H _ I h) λu a ⟨x,H1,g,b,d⟩=>?_);exact fg (hr pos ag a σ H1 _ g d) λj i ⟨xs,H2,c,r2,f⟩=>⟨x::xs,H2,c,.cons b r2,f⟩
noncomputable def Ib(t:TA):TE:=fun σ H Q=>t σ H λxs H1=>xs.length<=dL /\ ∀p,H1 p=Y->Q (.ref p) (upd H1 p (.tup xs))
noncomputable def Im(t:TA):TE:=fun σ H Q=>t σ H λxs H1=>xs.length<=dL /\ ∀p,H1 p=Y->Q (.ref p) (upd H1 p (.lst xs))
theorem Eb{x1}(h:PA X es t):PE X (.Tuple es x1 pos) (Ib t):=by
 intro ag s σ H Q I f;refine wpAny_Tuple_spliced (fg (h pos ag s σ H _ I f) λg a ⟨xs,H1,c,r,z,q⟩=>⟨by rw[<- r.length];exact z,?_⟩);have d:H1 a.heap.objs.size=Y:=c.hok.fresh (nR1 _);refine⟨.ref a.heap.objs.size,upd H1 a.heap.objs.size (.tup xs),c.laid (t':=a.toks) (λb u e=>hP1 _ e) (nR1 _) ?_,O,q _ d⟩;exact⟨z,g,r,⟨_,hS1 _ O,O,_,O⟩⟩
theorem Ee(h:PA X es t):PE X (.List es pos) (Im t):=by
 intro ag s σ H Q I f;refine wpAny_List_spliced (fg (h pos ag s σ H _ I f) λg a ⟨xs,H1,c,r,z,q⟩=>⟨by rw[<- r.length];exact z,?_⟩);have d:H1 a.heap.objs.size=Y:=c.hok.fresh (nR1 _);refine⟨.ref a.heap.objs.size,upd H1 a.heap.objs.size (.lst xs),c.laid (t':=a.toks) (λb u e=>hP1 _ e) (nR1 _) ?_,O,q _ d⟩;exact⟨z,g,0,r,hS1 _ O⟩
end
abbrev Sp:=List V->Hp->VK->XK->Prop
abbrev xJ:=List Env->Hp->dD->XK->dB->dD->Prop
structure CP (P:dF)(w:dH)(K:Fg1)(mg:Str->Option dB)(base:dN)(A:dG)(outer:List Env)(s:dD)(H:Hp):Prop where
 frames:A.frames=some outer
 mod:Mod K mg base
 bs:∀b o,base.get? b=some o->s.heap.get? b=some o/\H b=none
 bsz:base.objs.size<=s.heap.objs.size
 funs:s.heap.FunFrames base outer
 frf:∀b∈frs outer,H b=none
 hok:kS P w H s.heap
 bare:AllBare s.gens
noncomputable def CE(outer:List Env)(P:dF)(w:dH)(H:Hp)(s:dD)(Q:VK)(u:dB)(s':dD):Prop:=
 ∃v H',s'.os=s.os/\AllBare s'.gens/\Un (frs outer) [] H H' s.heap s'.heap/\kS P w H' s'.heap/\d7 v u/\Q v H'
noncomputable def CR(CX:xJ)(outer:List Env)(P:dF)(w:dH)(H:Hp)(s:dD)(Q:VK)(E:XK)(r:Result)(s':dD):Prop:=
 match r with
 | .ok (.ret u)=>CE outer P w H s Q u s'
 | .ok _=>False
 | .error e=>CX outer H s E e s'
structure jt (P:dF)(w:dH)(K:Fg1)(mg:Str->Option dB)(base:dN)(CX:xJ)(k:Nat)(f:dE)(fd:dP)(ps:List Str)(sp:Sp):Prop where
 len:∀vs H Q E,sp vs H Q E->vs.length=ps.length
 run:∀(A:dG) (outer:List Env) (s:dD) (H:Hp) (args:Args) (us:List dB) (vs:List V) (Q:VK) (E:XK),fN k A->CP P w K mg base A outer s H->BindsTo s fd args (ps.zip us)->ei vs us->sp vs H Q E ->
  codeAny (model P w) A (.call (.ref f) args) (CR CX outer P w H s Q E) s
theorem jt.imp{P:dF}{w:dH}{K:Fg1}{mg:Str->Option dB}{base:dN}{CX:xJ}{k:Nat}{f:dE}{fd:dP}{ps:List Str}{sp sp':Sp}(F:jt P w K mg base CX k f fd ps sp)(h:∀vs H Q E,sp' vs H Q E->sp vs H Q E):jt P w K mg base CX k f fd ps sp':=
 ⟨λvs H Q E q=>F.len vs H Q E (h _ _ _ _ q),λA a s H b i vs Q E e c g d j=>F.run A a s H b i vs Q E e c g d (h _ _ _ _ j)⟩
section
variable{X:Cx}{ag:List (dE×Obj)}{σ:St}{H:Hp}{s s':dD}
theorem Inv.env0(I:Inv X ag σ H s):CP X.prog X.w X.K X.mg X.base X.A X.stack s H:=
 ⟨I.ok.frames,I.ok.mod,I.bs,aC I.ok.bsz I.sz,I.stack,I.stkFree,I.hok,I.bare⟩
theorem Inv.after{Q:VK}{u:dB}(I:Inv X ag σ H s)(h:CE X.stack X.prog X.w H s Q u s'):EP X ag σ Q u s':=by
 obtain⟨v,H',i,a,un,e,r,q⟩:=h;obtain⟨f,g,d,t,c⟩:=s';obtain rfl:c=s.os:=i;exact⟨v,H',I.call (h':=f) (g':=g) (d':=d) (t':=t) (ch:=[]) un e a (λb z=>absurd z (by simp)),r,q⟩
end
noncomputable def Gd(sp:Sp)(dvs:List V)(E:XK)(t:TA):TE:=fun σ H Q=>t σ H λvs H1=>sp (vs++dvs) H1 Q E
noncomputable def kT(K:Fg1)(fd:dP)(ps:List Str)(ds:List dB):Prop:=
 ∀(s:dD) (us:List dB),K.In s.heap->(us++ds).length=ps.length->BindsTo s fd ⟨us,[]⟩ (ps.zip (us++ds))
theorem kT.all{K:Fg1}{fd:dP}{ps:List Str}(h:∀a:List dB,a.length=ps.length->bindArgs fd ⟨a,[]⟩=pure (ps.zip a)):kT K fd ps []:=λs a _ b=>by
 rw[aM]at b ⊢;exact .of_eq (h a b)
noncomputable def uO(CX:xJ)(X:Cx)(E:XK):Prop:=∀(ag:List (dE×Obj)) (σ:St) (H:Hp) (s:dD) (e:dB) (s':dD),Inv X ag σ H s->CX X.stack H s E e s'->X.xe e s'
section
variable{X:Cx}{CX:xJ}{k:Nat}{f C:dE}{fd:dP}{ps:List Str}{sp:Sp}{dvs:List V}{ds:List dB}{E:XK}{x m:Str}{p pos apos:Pos}{e o:Expr}{es:List Expr}{ta:TE}{t:TA}
theorem DO{ag:List (dE×Obj)}{σ:St}{H:Hp}{s:dD}{Q:VK}{a:List dB}{vs:List V}(F:jt X.prog X.w X.K X.mg X.base CX k f fd ps sp)(hr:fN k X.A)(hb:kT X.K fd ps ds)(hd:ei dvs ds)(hx:uO CX X E)(I:Inv X ag σ H s)(r:ei vs a)(h:sp (vs++dvs) H Q E):dM (model X.prog X.w) X.A (call (.ref f) a) (EP X ag σ Q) X.xe s:=by
 have r2:ei (vs++dvs) (a++ds):=r.append hd;have c:(a++ds).length=ps.length:=by rw[<- r2.length];exact F.len _ _ _ _ h
 refine wpAny_call (codeAny_mono (F.run X.A X.stack s H ⟨a,[]⟩ (a++ds) (vs++dvs) Q E hr I.env0 (hb s a I.kIn c) r2 h) λr s' b=>?_);cases r with
 |error e=>exact hx ag σ H s e s' I b
 |ok d=>
  cases d with
  |ret u=>exact I.after b
  |next=>exact False.elim b
  |brk=>exact False.elim b
  |cont=>exact False.elim b
theorem BB (F:jt X.prog X.w X.K X.mg X.base CX k f fd ps sp)(hr:fN k X.A)(hg:Gl X x)(hm:X.mg x=some (.ref f))(hk:wK1 X.K (.ref f)=true)(hb:kT X.K fd ps ds)(hd:ei dvs ds)(hx:uO CX X E)
  (ha:PA X (e::es) t) (hdb:(x == ("__debug__":Str))=J:=by decide) (he:dJ (e::es) X.env=(J,eval e X.env)::dJ es X.env:=by rfl) (hpl:(backTo pos (dJ es X.env)).any (·.1)=J:=by rfl):
  PE X (.Call (.Name x p) (e::es) [] pos) (Gd sp dvs E t):=by
 intro ag s σ H Q I h;refine wpAny_Call_Name_kw (vD I hg hm ?_ hdb);refine PySem.W.callWith_K (h₀:=X.base) I.ok.mod.kin hk (fg (ha pos ag s σ H _ I h) λc b ⟨vs,H1,a,r,q⟩=>⟨a.kIn,?_⟩) he hpl;exact DO F hr hb hd hx a r q
end
section
variable{X:Cx}{CX:xJ}{k:Nat}{f C:dE}{fd:dP}{ps ks:List Str}{sp:Sp}{E:XK}{x m:Str}{p pos apos kpos:Pos}{e o:Expr}{es:List Expr}{kws:List Keyword}{te ta:TE}{t tk:TA}{nm:Option Str}
variable{g:List dB->List dB->List dB}{gV:List V->List V->List V}
end
structure gh (N P:List Str)(sc:dR):Prop where
 kind:sc.kind = .function
 co:sc.isCoroutine=false
 gen:sc.isGenerator=false
 nd:N.Nodup
 pre:N.take P.length=P
 par:∀x∈P,sc.names.lookup x=some .local\/sc.names.lookup x=some .cell
 nofree:∀y∈sc.names,y.2 ≠ .free
theorem pf{kindOf:Str->Option NameKind}{x:Str}:∀{binds:List (Str×dB)} {m:Str->Option dB},(∀v,(x,v)∉binds)->bindL kindOf binds m x=m x
 |[],_,_=>rfl
 |(n,v)::r,m,h=>by
  unfold bindL;rw[pf λw a=>h w (mC1 _ a)];split
  ·have:x≠n:=by rintro rfl;exact h v mS1
   simp[this]
  ·rfl
theorem ph{kindOf:Str->Option NameKind}{x:Str}:∀{binds:List (Str×dB)} {m:Str->Option dB},(∀v,(x,v)∉binds)->bindC kindOf binds m x=m x
 |[],_,_=>rfl
 |(n,v)::r,m,h=>by
  unfold bindC;rw[ph λw a=>h w (mC1 _ a)];split
  ·rfl
  ·have:x≠n:=by rintro rfl;exact h v mS1
   simp[this]
theorem pg{kindOf:Str->Option NameKind}{x:Str}{v:dB}:∀ {P:List Str} {vs:List dB} {i:Nat} {m:Str->Option dB},P.Nodup->P[i]? = some x->vs[i]? = some v->kindOf x=some .local ->
  bindL kindOf (P.zip vs) m x=Z v
 |[],_,_,_,_,h,_,_=>by simp at h
 |_::_,[],_,_,_,_,h,_=>by simp at h
 |p::P,w::vs,0,m,nd,h1,h2,hk=>by
  simp at h1 h2;subst h1;subst h2;show bindL kindOf ((p,w)::P.zip vs) m p=_;unfold bindL;rw[pf λv a=>(aN.mp nd).1 (List.of_mem_zip a).1,ak hk];simp
 |p::P,w::vs,i+1,m,nd,h1,h2,hk=>by
  show bindL kindOf ((p,w)::P.zip vs) m x=_;unfold bindL;exact pg (i:=i) (aN.mp nd).2 (by simpa using h1) (by simpa using h2) hk
theorem pk{kindOf:Str->Option NameKind}{x:Str}{v:dB}:∀ {P:List Str} {vs:List dB} {i:Nat} {m:Str->Option dB},P.Nodup->P[i]? = some x->vs[i]? = some v->kindOf x≠some .local ->
  bindC kindOf (P.zip vs) m x=Z v
 |[],_,_,_,_,h,_,_=>by simp at h
 |_::_,[],_,_,_,_,h,_=>by simp at h
 |p::P,w::vs,0,m,nd,h1,h2,hk=>by
  simp at h1 h2;subst h1;subst h2;show bindC kindOf ((p,w)::P.zip vs) m p=_;unfold bindC;rw[ph λv a=>(aN.mp nd).1 (List.of_mem_zip a).1,aj hk];simp
 |p::P,w::vs,i+1,m,nd,h1,h2,hk=>by
  show bindC kindOf ((p,w)::P.zip vs) m x=_;unfold bindC;exact pk (i:=i) (aN.mp nd).2 (by simpa using h1) (by simpa using h2) hk
noncomputable def iM(N:List Str)(vs:List V):St:=vs.map Z++aO (N.length-vs.length) Y
noncomputable def lY(CX:xJ)(P:dF)(w:dH)(K:Fg1)(mg:Str->Option dB)(base:dN)(N:List Str)(qual:Str)(scope:dR)(f:dE)(cd:dB)(A:dG)(outer:List Env)(s:dD)(H:Hp)(E:XK):Cx where
 prog:=P
 w:=w
 K:=K
 mg:=mg
 base:=base
 A:=A.deeper (envOfC qual scope s.heap.objs.size f cd)
 N:=N
 s₀:=s
 H₀:=H
 env:=envOfC qual scope s.heap.objs.size f cd
 outer:=outer
 stack:=envOfC qual scope s.heap.objs.size f cd::outer
 ex:=[]
 calm:=M
 fn:=λ_=>M
 pn:=[]
 xe:=λe s'=>dM (model P w) (A.deeper (envOfC qual scope s.heap.objs.size f cd)) (leaving (envOfC qual scope s.heap.objs.size f cd) e) (λ_ s''=>CX outer H s E e s'') (λe' s''=>CX outer H s E e' s'') s'
theorem sX{a:dR}{n:Nat}{x:Str}(h:a.names.lookup x=Z .cell):∃c,(cellsFrom n a.names []).lookup x=Z c:=by
 have q:=PySem.W.cellsFrom_some a.names n [] (.inl h);exact aP.mp q
theorem wW{CX:xJ}{P:dF}{w:dH}{K:Fg1}{mg:Str->Option dB}{base:dN}{N ps:List Str}{g:Str}{scope:dR}{f:dE}{B:dB}{A:dG}{d:List Env}{s s1:dD}{H:Hp}{E:XK}{C:List dB}{vs:List V}(S:gh N ps scope)(hd:A.handled=none)(j:CP P w K mg base A d s H)(L:vs.length=ps.length)(r:ei vs C)(x:InCallC s s.heap.objs.size (bindL (envOfC g scope s.heap.objs.size f B).kindOf (ps.zip C) fun _=>none) (cellsFrom (s.heap.objs.size+1) scope.names []) (bindC (envOfC g scope s.heap.objs.size f B).kindOf (ps.zip C) fun _=>none) s1):
  Inv (lY CX P w K mg base N g scope f B A d s H E) [] (iM N vs) H s1:=by
 have I:ps.length<=N.length:=by have:=congrArg List.length S.pre;rw[aQ]at this;lia
 obtain⟨h1,tk,rfl,D⟩:=x.done;have l:∀b:dE,b∉(lY CX P w K mg base N g scope f B A d s H E).ex:=λb z=>absurd (show b∈([]:List dE)from z) (by simp);refine⟨⟨j.mod,S.kind,O,O,nR1 _,λy z c h1 h2=>?_,λy m=>?_,λy c _ h=>?_,λ_=>hd,Around.frames_deeper j.frames,.inr ⟨O,O⟩,λb z=>absurd z (l b),j.bs,j.bsz,λb _ _=>l b,λb z=>absurd z (l b),j.funs,j.frf⟩,
  rfl,j.bare,Un.kept D,⟨_,x.toInCall.ns,λi y v h1 h2 ao=>?_⟩,λy c h=>⟨_,x.cell y c h⟩,j.hok.fresh (nR1 _),λy c h=>?_,λp t=>absurd (show p∈([]:List (dE×Obj))from t) (by simp),j.hok.kept D,?_⟩
 ·exact name_of_addr x.apart (PySem.mem_of_lookup h1) (PySem.mem_of_lookup h2)
 ·have m:scope.names.lookup y=Z .cell\/scope.names.lookup y=Z .free:=m;rcases m with m|m
  ·exact sX m
  ·exact absurd O (S.nofree _ (PySem.mem_of_lookup m))
 ·exact aD (x.above y c (PySem.mem_of_lookup h))
 ·have hi:i<vs.length:=by
   unfold iM at h2;by_cases hi:i<vs.length
   ·exact hi
   ·rw[gR1 (by simpa using hi)]at h2;rw[aR]at h2;split at h2<;>cases h2
  have G:vs[i]?=Z v:=by
   unfold iM at h2;rw[gL1 (by simpa using hi),gP1]at h2;cases e:vs[i]? with
   |none=>rw[e]at h2;cases h2
   |some a=>rw[e]at h2;cases h2;rfl
  obtain⟨u,F,am⟩:=r.get G;have t:ps[i]?=Z y:=by
   rw[<- S.pre,aS (by lia)];exact h1
  have o:ps.Nodup:=by rw[<- S.pre];exact S.nd.sublist (aT _ _)
  refine⟨u,am,?_⟩;rcases S.par y (gM1 t)with k|k
  ·exact .inl ⟨k,pg o t F k⟩
  ·obtain⟨c,e⟩:=sX (n:=s.heap.objs.size+1) k;refine .inr ⟨.inl k,c,e,?_⟩;have q:=x.cell y c e;rw[pk o t F (by show scope.names.lookup y≠_;rw[k];decide)]at q;exact q
 ·exact j.hok.fresh (aD (x.above y c (PySem.mem_of_lookup h)))
 ·unfold iM;show _=N.length;rw[lA1,lM1,lR1];lia
theorem Ha{CX:xJ}{P:dF}{w:dH}{K:Fg1}{mg:Str->Option dB}{base:dN}{k:Nat}{f:dE}{name c:Str}{params:Arguments}{g:List dQ}{scope:dR}{R kV z T d ct X:dB}{L aq:Option dE}{G:Array (Option dB)}{N ps:List Str}{sp:Sp}(U:K.lookup f=some ⟨X,aq,.func (wF1 name c params g scope R kV z T L d ct),G⟩)(hcd:wC1 K d c=true)(S:gh N ps scope)(len:∀vs H Q E,sp vs H Q E->vs.length=ps.length)(i:∀(A:dG) (a:List Env) (s:dD) (H:Hp) (vs:List V) (Q:VK) (E:XK),fN k (A.deeper (envOfC c scope s.heap.objs.size f d))->sp vs H Q E ->
   ∃t,tH (lY CX P w K mg base N c scope f d A a s H E) g t/\t {nx:=λ_ H'=>Q .non H',rt:=Q} (iM N vs) H):
  jt P w K mg base CX (k+1) f (wF1 name c params g scope R kV z T L d ct) ps sp:=by
 refine⟨len,λA a s H ao us vs Q E D p hb r B=>?_⟩;have hl:=len _ _ _ _ B;have au:K.In s.heap:=p.mod.kin.keeps λb o e=>(p.bs b o e).1;have C:s.heap.NoLimit:=p.mod.nolimit.keeps λb o e=>(p.bs b o e).1;have j:∀y∈ps.zip us,scope.names.lookup y.1=Z .local\/(scope.names.lookup y.1=Z .cell/\((cellsFrom (s.heap.objs.size+1) scope.names []).lookup y.1).isSome=M):=λ⟨n,v⟩ hy=>by
  rcases S.par n (List.of_mem_zip hy).1 with q|q
  ·exact .inl q
  ·exact .inr ⟨q,PySem.W.cellsFrom_some _ _ _ (.inl q)⟩
 refine codeAny_call_function D.depth (au _ _ U) O S.co S.gen O (PySem.W.codeRec_of au hcd) (hb _ _ _ _ ?_);refine wpAny_newFunctionEnv_cells S.kind j λwq W s1 x=>?_;subst W;refine⟨C.keeps x.toInCall.keep,codeAny_func ?_⟩;obtain⟨t,ht,hq⟩:=i A a s H vs Q E (D.deeper _) B;have I:Inv (lY CX P w K mg base N c scope f d A a s H E) [] (iM N vs) H s1:=wW S D.hd p hl r x;refine wpAny_mono (ht [] s1 (iM N vs) H _ I hq) (λfl s' l=>?_) λe s' l=>l;have m:∀{h:St} {H':Hp} {v:V} {u:dB},Inv (lY CX P w K mg base N c scope f d A a s H E) [] h H' s'->d7 v u->Q v H'->CE a P w H s Q u s':=
  λ{h H' v u} am F q=>⟨v,H',am.os,am.bare,am.base,am.hok,F,q⟩
 cases fl with
 |ret u=>
  obtain⟨v,h,H',am,F,q⟩:=l;exact m am F q
 |next=>
  obtain⟨h,H',am,q⟩:=l;exact m (v:=V.non) (u:=Value.none) am O q
 |brk=>
  obtain⟨_,_,_,q⟩:=l;exact False.elim q
 |cont=>
  obtain⟨_,_,_,q⟩:=l;exact False.elim q
end L2
namespace L2
open PySem PySem.Spec PyProof.Rows
section
variable{X:Cx}{x:Str}{p pos:Pos}{e:Expr}{es:List Expr}{t:TA}{id T:String}{r:List V->Hp->VK->Prop}
noncomputable def Jh(r:List V->Hp->VK->Prop)(t:TA):TE:=fun σ H Q=>t σ H λvs H1=>r vs H1 Q
theorem rK (hc:fj X (.builtin id) r)(hg:Gl X x)(hm:X.mg x=none)(hv:bootBuiltins x=some (.builtin id))(ha:PA X (e::es) t)(hn:x≠"__name__":=by decide)(hdb:(x == ("__debug__":Str))=false:=by decide)
  (he:dJ (e::es) X.env=(J,eval e X.env)::dJ es X.env:=by rfl) (hpl:(backTo pos (dJ es X.env)).any (·.1)=J:=by rfl):PE X (.Call (.Name x p) (e::es) [] pos) (Jh r t):=by
 intro ag s σ H Q I h;refine wpAny_Call_Name_kw (jE I hg hm hv ?_ hn hdb);exact PyProof.Rows.callWith_builtin1 (fg (ha pos ag s σ H _ I h) λd a ⟨vs,H1,f,b,c⟩=>hc ag a σ H1 vs d Q f b c) he hpl
theorem ji (hc:fj X (.type T) r)(hg:Gl X x)(hm:X.mg x=none)(hv:bootBuiltins x=some (.type T))(ha:PA X (e::es) t)(hn:x≠"__name__":=by decide)(hdb:(x == ("__debug__":Str))=false:=by decide)
  (he:dJ (e::es) X.env=(J,eval e X.env)::dJ es X.env:=by rfl) (hpl:(backTo pos (dJ es X.env)).any (·.1)=J:=by rfl):PE X (.Call (.Name x p) (e::es) [] pos) (Jh r t):=by
 intro ag s σ H Q I h;refine wpAny_Call_Name_kw (jE I hg hm hv ?_ hn hdb);exact PyProof.Rows.callWith_type1 (fg (ha pos ag s σ H _ I h) λd a ⟨vs,H1,f,b,c⟩=>hc ag a σ H1 vs d Q f b c) he hpl
end
end L2
namespace HT
open PySem PyProof.Rows
section
open PySem.SeqAt
open PySem.AutoSeq1 (wpAny_loadPart')
open PySem.MeetsSeq PySem.MeetsSeq2 PySem.MeetsSeq3
end
section
variable{prog:dF}{w:dH}{A:dG}{E:dB->dD->Prop}{s:dD}
theorem Cz {t b:dE}{vs ws:List dB}{Q:dB->dD->Prop}(ht:IsTup s.heap t vs.toArray)(hb:IsTup s.heap b ws.toArray)(hv:vs≠[])
  (h1:ws=[]->Q (.ref t) s) (h2:ws≠[]->Q (.ref s.heap.objs.size) {s with heap:=s.heap.push {cls:=.type "tuple",data:=.seq (vs++ws).toArray}})
  (hsz:vs.length+ws.length<=dL):dM (model prog w) A (binaryOp .Add (.ref t) (.ref b)) Q E s:=by
 obtain⟨⟨cls,dd,data,sl⟩,h,hc,n,k⟩:=id ht;obtain⟨⟨l,g,j,c⟩,a,f,m,d⟩:=id hb;simp only at hc k f d;subst hc k f d;have e:vs.toArray++ws.toArray=(vs++ws).toArray:=by simp
 by_cases i:ws=[]
 ·exact concat_meets ⟨_,h,rfl⟩ ⟨_,a,rfl⟩ noFill_tuple_add seq_tuple_add PySem.F.slot_tuple_add PySem.F.entry_tuple_add (PySem.F.args_tuple_add_2 _ _)
   (tuple_addW1 t b vs.toArray ws.toArray n m dd g sl c (by simpa using hv) (by simp[i])) ⟨h,a,h1 i⟩
 ·refine concat_meets ⟨_,h,rfl⟩ ⟨_,a,rfl⟩ noFill_tuple_add seq_tuple_add PySem.F.slot_tuple_add PySem.F.entry_tuple_add (PySem.F.args_tuple_add_2 _ _)
   (tuple_addW2 t b vs.toArray ws.toArray n m dd g sl c (by simpa using hv) (by simpa using i) (by rw[sT1,sT1];exact hsz)) ⟨h,a,?_⟩
  rw[e];exact h2 i
noncomputable def sIx(n d:Nat):Option Int->Nat
 |none=>d
 |some v=>if v<0 then(v+(n:Int)).toNat else min v.toNat n
theorem yD(n d:Nat):sIx n d Y=d:=rfl
theorem Bd(n d k:Nat):sIx n d (Z (k:Int))=min k n:=by
 show(if(k:Int)<0 then((k:Int)+(n:Int)).toNat else min (k:Int).toNat n)=min k n;rw[aj (by lia),Int.toNat_natCast]
theorem DN(n d:Nat)(hd:d<=n)(o:Option Int):sIx n d o<=n:=by
 cases o with
 |none=>exact hd
 |some v=>
  show(if v<0 then(v+(n:Int)).toNat else min v.toNat n)<=n;by_cases a:v<0
  ·rw[ak a];lia
  ·rw[aj a];exact Nat.min_le_right _ _
theorem v7(v:Int)(n d:Nat):(if v<0 then max (v+(n:Int)) 0 else min v (n:Int))=((sIx n d (Z v):Nat):Int):=by
 show(if v<0 then max (v+(n:Int)) 0 else min v (n:Int))=(((if v<0 then(v+(n:Int)).toNat else min v.toNat n):Nat):Int);by_cases a:v<0
 ·simp only[ak a];lia
 ·simp only[aj a];lia
theorem uM(lo hi:Option Int)(n:Nat):Builtin.Slice.sliceAdjust lo hi 1 (n:Int)=(((sIx n 0 lo:Nat):Int),((sIx n n hi:Nat):Int)):=by
 have h1:¬ ((1:Int)<0):=by lia
 unfold Builtin.Slice.sliceAdjust;simp only[h1,if_false];refine Prod.ext ?_ ?_
 ·cases lo with
  |none=>rfl
  |some v=>exact v7 v n 0
 ·cases hi with
  |none=>rfl
  |some v=>exact v7 v n n
theorem uc(i j:Nat):Builtin.Slice.slicePlaces (i:Int) (j:Int) 1=j-i:=by
 unfold Builtin.Slice.slicePlaces;have h1:(1:Int)>0:=by lia
 simp only[h1,if_true,Int.ediv_one];split<;>lia
theorem gH{v:dB}{o:Option Int}{Q:Option Int->dD->Prop}(p:IsPart v o)(h:Q o s):dM (model prog w) A (Builtin.Slice.slicePartIndex v) Q E s:=by
 cases p with
 |none=>exact slicePart_none h
 |int i t=>exact slicePart_int h
theorem hU{sl:dE}{c vu:dB}{lo hi:Option Int}{n:Nat}{Q:Int×Int×Nat->dD->Prop}(hs:s.heap.IsSliceOf sl c vu .none)(pl:IsPart c lo)(d:IsPart vu hi)(h:Q (((sIx n 0 lo:Nat):Int),1,sIx n n hi-sIx n 0 lo) s):dM (model prog w) A (Builtin.Slice.sliceApplied (.ref sl) (pure (n:Int))) Q E s:=by
 obtain⟨f,b,e,a⟩:=id hs;unfold Builtin.Slice.sliceApplied Builtin.Slice.sliceFields;refine wB1 (wB1 (wpAny_field b a (x:=c) O (wB1 (wpAny_field b a (x:=vu) O (wB1 (wpAny_field b a (x:=.none) O (wP1 ?_)))))));refine wB1 (slicePart_none ?_);show dM _ _ (if((1:Int) == 0)=M then _ else _) _ _ s;rw[aj (by decide)];refine wB1 (gH pl (wB1 (gH d (wB1 (wP1 ?_)))));show dM _ _ (match Builtin.Slice.sliceAdjust lo hi 1 (n:Int)with|(lo,hi)=>pure (lo,(1:Int),Builtin.Slice.slicePlaces lo hi 1)) _ _ s;rw[uM lo hi n];show dM _ _ (pure (((sIx n 0 lo:Nat):Int),(1:Int),Builtin.Slice.slicePlaces ((sIx n 0 lo:Nat):Int) ((sIx n n hi:Nat):Int) 1)) _ _ s;rw[uc];exact wP1 h
theorem yX(xs:Array dB)(i k:Nat):((af k).filterMap λ(m:Nat)=>xs[((i:Int)+(m:Int)*1).toNat]?).toArray=((xs.toList.drop i).take k).toArray:=by
 have e:(λ(m:Nat)=>xs[((i:Int)+(m:Int)*1).toNat]?)=λm=>xs[i+m]?:=by
  funext m
  have:((i:Int)+(m:Int)*1).toNat=i+m:=by lia
  rw[this]
 rw[e];have:=pick_run xs i k;rw[aU]at this;have a:((λx=>xs[x]?)∘λx=>i+x)=λm=>xs[i+m]?:=rfl;rw[a]at this;rw[this]
theorem kw {t sl:dE}{items:Array dB}{f vu:dB}{lo hi:Option Int}{Q:dB->dD->Prop}(ht:IsTup s.heap t items)(hs:s.heap.IsSliceOf sl f vu .none)(pl:IsPart f lo)(i:IsPart vu hi)
  (hw:¬ (sIx items.size 0 lo=0/\sIx items.size items.size hi=items.size))
  (h:Q (.ref s.heap.objs.size) {s with heap:=s.heap.push {cls:=.type "tuple",data:=.seq ((items.toList.drop (sIx items.size 0 lo)).take (sIx items.size items.size hi-sIx items.size 0 lo)).toArray}})
  (hsz:items.size<=dL):dM (model prog w) A (getItem (.ref t) (.ref sl)) Q E s:=by
 have a:sizeOk (.seq ((items.toList.drop (sIx items.size 0 lo)).take (sIx items.size items.size hi-sIx items.size 0 lo)).toArray):=by
  show((items.toList.drop (sIx items.size 0 lo)).take (sIx items.size items.size hi-sIx items.size 0 lo)).toArray.size<=dL;rw[sT1,aQ,aV,aJ];omega
 have l:sIx items.size items.size hi<=items.size:=DN _ _ (nR1 _) hi;obtain⟨j,e,d,g⟩:=id hs;have c:s.TypeIs (.ref sl) "slice":=⟨j,e,d⟩;unfold getItem
 try with_reducible refine wpAny_holding ?_
 first|refine wB1 (wP1 ?_)|skip
 refine wB1 (wpAny_sequenceKey ht.typeIs (by decide) ?_);refine wB1 (wpAny_callSpecial?_slot (name:=Str.ofString "__getitem__") ht.typeIs PyProof.Rows.slot_tuple_getitem
  (wE1 PyProof.Rows.slot_tuple_getitem ht.typeIs entry_tuple_getitem ?_ (args_tuple_getitem _ _)))
 show dM _ _ (Builtin.Tuple.tupleItemsOf (.ref t) >>= _) _ _ s;refine wB1 (tupleItemsOf_ ht ?_);refine wB1 (wpAny_typeOf c ?_);rw[ak (by decide)];refine wB1 (hU hs pl i ?_);have b:¬ ((((sIx items.size 0 lo:Nat):Int) == 0&&(1:Int) == 1&&(sIx items.size items.size hi-sIx items.size 0 lo) == items.size)=M):=by
  intro q;rw[bA1,bA1]at q;have k:((sIx items.size 0 lo:Nat):Int)=0:=eq_of_beq q.1.1;have n:sIx items.size items.size hi-sIx items.size 0 lo=items.size:=eq_of_beq q.2;exact hw ⟨by omega,by omega⟩
 show dM _ _ (if(((sIx items.size 0 lo:Nat):Int) == 0&&(1:Int) == 1&&(sIx items.size items.size hi-sIx items.size 0 lo) == items.size)=M then _ else _) _ _ s;rw[aj b,yX]
 first
  |exact wB1 (m:=Builtin.Tuple.tupleExact _) (wO1 (wP1 ⟨_,rfl,wP1 h⟩) a)
  |exact wB1 (m:=Builtin.Tuple.tupleExact _) (wO1 (wB1 (wP1 (wP1 ⟨_,rfl,wP1 h⟩))) a)
  |exact wB1 (wB1 (m:=Builtin.Tuple.tupleExact _) (wO1 (wP1 (wP1 ⟨_,rfl,wP1 h⟩)) a))
  |exact wB1 (wB1 (m:=Builtin.Tuple.tupleExact _) (wO1 (wP1 ⟨_,rfl,wP1 h⟩) a))
end
end HT
namespace L2
open PySem PySem.Spec PyProof.Rows
abbrev TO:=St->Hp->(Option Int->Hp->Prop)->Prop
noncomputable def PO(X:Cx)(e:Option Expr)(t:TO):Prop:=
 ∀(ag:List (dE×Obj)) (s:dD) (σ:St) (H:Hp) (Q:Option Int->Hp->Prop),Inv X ag σ H s->t σ H Q ->
  dM (model X.prog X.w) X.A (evalPart e X.env) (λu s'=>∃o H',Inv X ag σ H' s'/\IsPart u o/\Q o H') X.xe s
noncomputable def A8:TO:=λ_ H Q=>Q Y H
noncomputable def F5(t:TE):TO:=fun σ H Q=>t σ H λx H1=>∃i,x = .int i/\Q (Z i) H1
section
variable{X:Cx}{e:Expr}{te:TE}{lo hi:Option Expr}{tl th:TO}{pos p2:Pos}
theorem Bt:PO X Y A8:=by
 intro ag s σ H Q I h;rw[evalPart_none];exact wP1 ⟨Y,H,I,.none,h⟩
theorem Br(h:PE X e te):PO X (Z e) (F5 te):=by
 intro ag s σ H Q I c;rw[evalPart_some];refine fg (h ag s σ H _ I c) λu f ⟨x,H1,d,a,b⟩=>?_;obtain⟨i,rfl,q⟩:=b;obtain⟨t,rfl⟩:=a;exact⟨Z i,H1,d,.int i t,q⟩
noncomputable def AV(X:Cx)(r:V->Option Int->Option Int->Hp->VK->Prop):Prop:=
 ∀(ag:List (dE×Obj)) (s:dD) (σ:St) (H:Hp) (x:V) (v vl vu:dB) (lo hi:Option Int) (sl:dE) (Q:VK),Inv X ag σ H s->d7 x v->s.heap.IsSliceOf sl vl vu .none->IsPart vl lo->IsPart vu hi->r x lo hi H Q ->
  ∃T id,typeLookup (.type T) "__getitem__"=pure (Z (.builtin id))/\s.TypeIs v T/\dM (model X.prog X.w) X.A (getItem v (.ref sl)) (EP X ag σ Q) X.xe s
theorem AV.or{r b:V->Option Int->Option Int->Hp->VK->Prop}(h:AV X r)(h':AV X b):AV X (λx lo hi H Q=>r x lo hi H Q\/b x lo hi H Q):=by
 intro ag s σ H x v a vu lo hi sl Q I e d pl c q;rcases q with q|q
 ·exact h ag s σ H x v a vu lo hi sl Q I e d pl c q
 ·exact h' ag s σ H x v a vu lo hi sl Q I e d pl c q
noncomputable def JG(r:V->Option Int->Option Int->Hp->VK->Prop)(te:TE)(tl th:TO):TE:=fun σ H Q=>te σ H λx H1=>tl σ H1 λl H2=>th σ H2 λu H3=>r x l u H3 Q
theorem y0{r:V->Option Int->Option Int->Hp->VK->Prop}(hr:AV X r)(he:PE X e te)(A:PO X lo tl)(B:PO X hi th):PE X (.Subscript e (.Slice lo hi Y p2) pos) (JG r te tl th):=by
 intro ag s σ H Q I h;refine Subscript_ (fg (he ag s σ H _ I h) λv f ⟨x,H1,n,g,i⟩=>?_);refine wpAny_Slice (fg (A ag f σ H1 _ n i) λc w ⟨l,H2,z,pl,o⟩=>fg (B ag w σ H2 _ z o) λvu a ⟨u,d,t,y,j⟩=>?_);rw[evalPart_none];refine wP1 ?_;have C:Inv X ag σ d {a with heap:=a.heap.push {cls:=.type "slice",data:=.fields #[c,vu,.none]}}:=t.kept (t':=a.toks) λb D q=>hP1 _ q;obtain⟨T,id,k,m,p⟩:=hr ag {a with heap:=a.heap.push {cls:=.type "slice",data:=.fields #[c,vu,.none]}} σ d x v c vu l u a.heap.objs.size Q C g (Heap.IsSliceOf.new ..) pl y j;show dM (model X.prog X.w) X.A (subscriptTail e (.Slice lo hi Y p2) v (.ref a.heap.objs.size)) (EP X ag σ Q) X.xe {a with heap:=a.heap.push {cls:=.type "slice",data:=.fields #[c,vu,.none]}};exact tail_any (ops:=[.ref a.heap.objs.size,v]) m k p (by with_unfolding_all rfl)
noncomputable def sS(xs:List V)(lo hi:Option Int):List V:=(xs.drop (HT.sIx xs.length 0 lo)).take (HT.sIx xs.length xs.length hi-HT.sIx xs.length 0 lo)
theorem lN(xs:List V)(lo hi:Option Int):(sS xs lo hi).length<=xs.length:=by
 unfold sS;rw[aQ,aV];lia
noncomputable def IB(K:Fg1):V->Option Int->Option Int->Hp->VK->Prop:=λx lo hi H Q=>∃a xs,x = .ref a/\jm K H a xs /\
 ¬ (HT.sIx xs.length 0 lo=0/\HT.sIx xs.length xs.length hi=xs.length) /\ ∀p,H p=Y->Q (.ref p) (upd H p (.tup (sS xs lo hi)))
theorem DI:AV X (IB X.K):=by
 intro ag s σ H x v m vu lo hi sl Q I k j pl g h;obtain⟨a,xs,rfl,i,l,q⟩:=h;cases k;obtain⟨d,r,e,f⟩:=I.tuple i;have c:d.toArray.size=xs.length:=by rw[sT1];exact r.length.symm
 refine⟨"tuple",_,PyProof.Rows.slot_tuple_getitem.lookup,e.typeIs,?_⟩;refine HT.kw e j pl g (by rw[c];exact l) ?_ (by rw[c];exact f);rw[c];refine⟨.ref s.heap.objs.size,_,I.laid (t':=s.toks) (o:=.tup (sS xs lo hi)) (λb n q=>hP1 _ q) (nR1 _) ?_,O,q _ (I.hok.fresh (nR1 _))⟩;exact⟨aC (lN xs lo hi) f,_,(r.drop (HT.sIx xs.length 0 lo)).take (HT.sIx xs.length xs.length hi-HT.sIx xs.length 0 lo),IsTup.new _ _⟩
noncomputable def Gm(K:Fg1):R2:=λx y H Q=>∃a b xs ys,x = .ref a/\y = .ref b/\jm K H a xs/\jm K H b ys/\xs≠[]/\xs.length+ys.length<=dL /\
 (ys=[]->Q (.ref a) H)/\(ys≠[] -> ∀p,H p=Y->Q (.ref p) (upd H p (.tup (xs++ys))))
theorem ei.nil_iff{xs:List V}{a:List dB}(r:ei xs a):a=[]↔xs=[]:=by
 cases r with
 |nil=>simp
 |cons _ _=>simp
theorem BE:gp X (binaryOp .Add) (Gm X.K):=by
 intro ag s σ H x y v u Q I p m h;obtain⟨a,b,xs,ys,rfl,rfl,g,k,n,e,l,i⟩:=h;cases p;cases m;obtain⟨j,c,f,_⟩:=I.tuple g;obtain⟨d,r2,p2,_⟩:=I.tuple k;refine HT.Cz f p2 (λz=>n (c.nil_iff.mp z)) (λz=>⟨.ref a,H,I,O,l (r2.nil_iff.mp z)⟩) (λz=>?_) (by rw[<- c.length,<- r2.length];exact e);refine⟨.ref s.heap.objs.size,_,I.laid (t':=s.toks) (o:=.tup (xs++ys)) (λb r q=>hP1 _ q) (nR1 _) ?_,O,i (λw=>z (r2.nil_iff.mpr w)) _ (I.hok.fresh (nR1 _))⟩;exact⟨by rw[lA1];exact e,_,c.append r2,IsTup.new _ _⟩
end
end L2
namespace L2
open PySem PySem.Spec PyProof.Rows
noncomputable def vI(n:Nat)(i:Int):Option Nat:=if 0<=i then(if i<n then Z i.toNat else Y)else if-(n:Int)<=i then Z (i+n).toNat else Y
noncomputable def tF{α:Type}(xs:List α)(i:Int):Option α:=(vI xs.length i).bind λj=>xs[j]?
theorem qk{n:Nat}{i:Int}{j:Nat}(h:vI n i=Z j):seqIndex? i n=Z j/\j<n /\ -(n:Int)<=i/\i<n:=by
 unfold vI at h;by_cases a:0<=i
 ·rw[ak a]at h;by_cases h1:i<n
  ·rw[ak h1]at h;have e:i.toNat=j:=Option.some.inj h;exact⟨by rw[seqIndex_of a h1,e],by lia,by lia,h1⟩
  ·rw[aj h1]at h;cases h
 ·rw[aj a]at h;by_cases h1: -(n:Int)<=i
  ·rw[ak h1]at h;have e:(i+n).toNat=j:=Option.some.inj h;exact⟨by rw[seqIndex_neg (by lia) h1,e],by lia,h1,by lia⟩
  ·rw[aj h1]at h;cases h
theorem wg{α:Type}{xs:List α}{i:Int}{v:α}(h:tF xs i=Z v):∃j,seqIndex? i xs.length=Z j/\xs[j]?=Z v/\j<xs.length /\ -(xs.length:Int)<=i/\i<xs.length:=by
 unfold tF at h;cases e:vI xs.length i with
 |none=>rw[e]at h;cases h
 |some j=>
  rw[e]at h;obtain⟨h1,h2,a,b⟩:=qk e;exact⟨j,h1,h,h2,a,b⟩
noncomputable def mm(b:Expr):Prop:=∀o i,subscripted b J o i=operate [o,i] (getItem o i)
noncomputable def Di(X:Cx)(r:R2):Prop:=
 ∀(value slice:Expr) (ag:List (dE×Obj)) (s:dD) (σ:St) (H:Hp) (x y:V) (v u:dB) (Q:VK),Inv X ag σ H s->d7 x v->d7 y u->r x y H Q ->
  subscripted slice J v u=operate [v,u] (getItem v u)->dM (model X.prog X.w) X.A (subscriptTail value slice v u) (EP X ag σ Q) X.xe s
noncomputable def Dh(X:Cx)(id:String)(r:V->List V->Hp->VK->Prop):Prop:=
 ∀(ag:List (dE×Obj)) (s:dD) (σ:St) (H:Hp) (x:V) (xs:List V) (v:dB) (us:List dB) (Q:VK),Inv X ag σ H s->d7 x v->ei xs us->r x xs H Q ->
  dM (model X.prog X.w) X.A (call (.builtin id) (v::us)) (EP X ag σ Q) X.xe s
section
variable{X:Cx}{a b:Expr}{ta tb:TE}{pos:Pos}
theorem Gs{r:R2}(hr:Di X r)(ha:PE X a ta)(hb:PE X b tb)(hs:mm b):PE X (.Subscript a b pos) (F6 r ta tb):=by
 intro ag s σ H Q I h;exact Subscript_ (Fq ha hb I h λv u f x y H2 c e d q=>hr a b ag f σ H2 x y v u Q c e d q (hs _ _))
noncomputable def IE(K:Fg1):R2:=λx y H Q=>∃p xs i v,x = .ref p/\y = .int i/\lU K H p xs/\tF xs i=Z v/\Q v H
noncomputable def ID(K:Fg1):R2:=λx y H Q=>∃p xs i v,x = .ref p/\y = .int i/\jm K H p xs/\tF xs i=Z v/\Q v H
theorem B8:Di X (IE X.K):=by
 intro value e ag s σ H x y v u Q I C A h k;obtain⟨p,xs,i,z,rfl,rfl,o,l,q⟩:=h;cases C;obtain⟨t,rfl⟩:=A;obtain⟨c,r,pl,F⟩:=I.list o;obtain⟨j,h1,h2,E,m,n⟩:=wg l;obtain⟨w,f,b⟩:=r.get h2;have B:=r.length;have D:=k7;have a:EP X ag σ Q w s:=⟨z,H,I,b,q⟩;by_cases g:0<=i
 ·have d:i.toNat=j:=by
   rw[seqIndex_of g n]at h1;exact Option.some.inj h1
  exact item_listR pl.isList g (by lia) (by rw[d];simpa using f) a k
 ·have d:(i+(c.toArray.size:Int)).toNat=j:=by
   rw[seqIndex_neg (by lia) m]at h1;rw[sT1,<- B];exact Option.some.inj h1
  exact subscriptTail_builtinR (x:=w) pl.isList.typeIs slot_list_getitem.lookup
   (wpAny_getItem_list_neg (Q:=λr s'=>r=w/\EP X ag σ Q r s') pl.isList (by lia) (by rw[sT1]<;>lia) (by lia) (by rw[d];simpa using f) ⟨O,a⟩) k
theorem Fb:Di X (ID X.K):=by
 intro value c ag s σ H x y v u Q I n k h m;obtain⟨p,xs,i,z,rfl,rfl,g,e,q⟩:=h;cases n;obtain⟨t,rfl⟩:=k;obtain⟨f,r,pl,D⟩:=I.tuple g;obtain⟨j,h1,h2,B,A,C⟩:=wg e;obtain⟨w,d,a⟩:=r.get h2;have l:=r.length;have o:=k7;have b:EP X ag σ Q w s:=⟨z,H,I,a,q⟩;exact subscriptTail_builtinR (x:=w) pl.typeIs slot_tuple_getitem.lookup
  (getItem_tuple (j:=j) (Q:=λr s'=>r=w/\EP X ag σ Q r s') pl (by lia) (by lia) (by rw[sT1,<- l];exact h1) (by simpa using d) ⟨O,b⟩) m
theorem uq(its:List dB)(n j:Nat)(u:dB):Obj.mapSeq (·.setIfInBounds j u) {cls:=.type "list",data:=.seq its.toArray n}={cls:=.type "list",data:=.seq (its.set j u).toArray n}:=by
 simp[Obj.mapSeq]
theorem Inv.lst{ag:List (dE×Obj)}{σ:St}{H:Hp}{s:dD}{p:dE}{xs:List V}(I:Inv X ag σ H s)(h:H p=some (.lst xs)):
  ∃(its:List dB) (n:Nat),ei xs its/\s.heap.get? p=Z {cls:=.type "list",data:=.seq its.toArray n}/\xs.length<=dL:=by
 obtain⟨z,its,n,r,e⟩:=I.hok p _ h;exact⟨its,n,r,e,z⟩
theorem Inv.lstUpd {ag:List (dE×Obj)}{σ:St}{H:Hp}{s:dD}{p:dE}{xs ys:List V}{its its':List dB}{n a:Nat}{f:Obj->Obj}(I:Inv X ag σ H s)(h:H p=some (.lst xs))
  (ho:s.heap.get? p=Z {cls:=.type "list",data:=.seq its.toArray n}) (hf:f {cls:=.type "list",data:=.seq its.toArray n}={cls:=.type "list",data:=.seq its'.toArray a}) (r:ei ys its') (c:ys.length<=dL) (t:Nat):
  Inv X ag σ (upd H p (.lst ys)) {s with heap:=s.heap.update p f,toks:=t}:=by
 have e:(s.heap.update p f).get? p=Z {cls:=.type "list",data:=.seq its'.toArray a}:=by
  rw[hW1 f ho (by rw[hf]<;>rfl),hf]
 refine I.write (x:=p) (e:=p) (by rw[h];trivial) (.inl O) (λb u d q=>(Heap.get?_update_other _ _ (Ne.symm d)).trans q) ⟨_,e⟩ ?_;exact⟨c,its',a,r,e⟩
noncomputable def Gk:V->V->V->Hp->(Hp->Prop)->Prop:=λo i v H Q=>∃p xs k j,o = .ref p/\i = .int k/\H p=Z (.lst xs)/\vI xs.length k=Z j/\Q (upd H p (.lst (xs.set j v)))
theorem yA:uP X Gk:=by
 intro ag s σ H o i v C D u Q I w z A h;obtain⟨p,xs,k,j,rfl,rfl,m,x,q⟩:=h;cases w;obtain⟨t,rfl⟩:=z;obtain⟨a,n,r,c,y⟩:=I.lst m;obtain⟨h1,h2,l,f⟩:=qk x;have d:=r.length;have B:=k7;have g:Inv X ag σ (upd H p (.lst (xs.set j v))) {s with heap:=s.heap.update p (Obj.mapSeq (·.setIfInBounds j u))}:=
  I.lstUpd m c (uq a n j u) (r.set A j) (by rw[aW];exact y) s.toks
 by_cases e:0<=k
 ·have b:k.toNat=j:=by
   rw[seqIndex_of e f]at h1;exact Option.some.inj h1
  exact PySem.W.ki_setAt c e (by lia) (by rw[sT1,<- d];exact f) (by rw[b];exact⟨_,g,q⟩)
 ·have b:(k+(a.toArray.size:Int)).toNat=j:=by
   rw[seqIndex_neg (by lia) l]at h1;rw[sT1,<- d];exact Option.some.inj h1
  exact PySem.W.ki_setBack c (by lia) (by rw[sT1,<- d];exact l) (by lia) (by rw[b];exact⟨_,g,q⟩)
theorem pN(lo hi:Option Int)(n:Nat):(sliceBounds lo hi Y n).1=((HT.sIx n 0 lo:Nat):Int)/\(sliceBounds lo hi Y n).2.1=((HT.sIx n n hi:Nat):Int)/\(sliceBounds lo hi Y n).2.2=1:=by
 refine⟨?_,?_,O⟩
 ·cases lo with
  |none=>simp[sliceBounds,HT.sIx]
  |some i=>
   simp only[sliceBounds,HT.sIx,Option.getD_none,show(1:Int)>0 by decide,if_true];by_cases h:i<0
   ·simp only[h,if_true]<;>lia
   ·simp only[h,if_false]<;>lia
 ·cases hi with
  |none=>simp[sliceBounds,HT.sIx]
  |some i=>
   simp only[sliceBounds,HT.sIx,Option.getD_none,show(1:Int)>0 by decide,if_true];by_cases h:i<0
   ·simp only[h,if_true]<;>lia
   ·simp only[h,if_false]<;>lia
theorem nM(its:List dB)(lo hi:Option Int):slicePick its.toArray lo hi Y=((its.drop (HT.sIx its.length 0 lo)).take (HT.sIx its.length its.length hi-HT.sIx its.length 0 lo)).toArray:=by
 obtain⟨h1,h2,a⟩:=pN lo hi its.toArray.size;unfold slicePick;rw[h1,h2,a];simp only[sliceRange_one,pick_run,sT1]<;>rfl
noncomputable def IC(K:Fg1):V->Option Int->Option Int->Hp->VK->Prop:=λx lo hi H Q=>∃a xs,x = .ref a/\lU K H a xs /\ ∀p,H p=Y->Q (.ref p) (upd H p (.lst (sS xs lo hi)))
theorem Bb:AV X (IC X.K):=by
 intro ag s σ H x v l vu lo hi sl Q I k j pl e h;obtain⟨a,xs,rfl,g,q⟩:=h;cases k;obtain⟨f,r,d,i⟩:=I.list g;have c:=r.length;refine⟨"list",_,slot_list_getitem.lookup,d.isList.typeIs,?_⟩;refine wpAny_getItem_list_slice d.isList j pl e .none (by simp) ?_ (by rw[sT1]<;>lia);rw[nM,<- c];refine⟨.ref s.heap.objs.size,_,I.laid (t':=s.toks) (o:=.lst (sS xs lo hi)) (λb m q=>hP1 _ q) (nR1 _) ?_,O,q _ (I.hok.fresh (nR1 _))⟩;exact⟨aC (lN xs lo hi) i,_,0,(r.drop (HT.sIx xs.length 0 lo)).take (HT.sIx xs.length xs.length hi-HT.sIx xs.length 0 lo),hS1 _ O⟩
noncomputable def lJ:V->Bool
 | .non=>M
 | .bl _=>M
 | .int _=>M
 | .str _=>M
 |_=>J
noncomputable def uF:V->V->Bool
 | .non,.non=>M
 | .bl a,.bl b=>a == b
 | .bl a,.int b=>(if a then 1 else 0) == b
 | .int a,.bl b=>a == (if b then 1 else 0)
 | .int a,.int b=>a == b
 | .str a,.str b=>a == b
 |_,_=>J
theorem jG{A:dG}{s:dD}{y x:V}{u v:dB}(f:d7 y u)(c:d7 x v)(g:lJ y=M)(e:lJ x=M):SeqAt.EqAt A s u v (uF y x):=by
 cases y with
 |non=>
  cases f;cases x with
  |non=>cases c;exact SeqAt.EqAt.same _
  |bl b=>cases c;exact SeqAt.EqAt.none_bool b
  |int b=>obtain⟨t,rfl⟩:=c;exact SeqAt.EqAt.none_int b t
  |str b=>obtain⟨t,rfl⟩:=c;exact SeqAt.EqAt.none_str b t
  |_=>exact absurd (show J=M from e) aK
 |bl a=>
  cases f;cases x with
  |non=>cases c;exact SeqAt.EqAt.bool_none a
  |bl b=>cases c;exact SeqAt.EqAt.bool_bool a b
  |int b=>obtain⟨t,rfl⟩:=c;exact SeqAt.EqAt.bool_int a b t
  |str b=>obtain⟨t,rfl⟩:=c;exact SeqAt.EqAt.bool_str a b t
  |_=>exact absurd (show J=M from e) aK
 |int a=>
  obtain⟨d,rfl⟩:=f;cases x with
  |non=>cases c;exact SeqAt.EqAt.int_none a d
  |bl b=>cases c;exact SeqAt.EqAt.int_bool a d b
  |int b=>obtain⟨t,rfl⟩:=c;exact SeqAt.EqAt.int_int a d b t
  |str b=>obtain⟨t,rfl⟩:=c;exact SeqAt.EqAt.int_str a d b t
  |_=>exact absurd (show J=M from e) aK
 |str a=>
  obtain⟨d,rfl⟩:=f;cases x with
  |non=>cases c;exact SeqAt.EqAt.str_none a d
  |bl b=>cases c;exact SeqAt.EqAt.str_bool a d b
  |int b=>obtain⟨t,rfl⟩:=c;exact SeqAt.EqAt.str_int a d b t
  |str b=>obtain⟨t,rfl⟩:=c;exact SeqAt.EqAt.str_str a d b t
  |_=>exact absurd (show J=M from e) aK
 |_=>exact absurd (show J=M from g) aK
theorem qB:fj X (.builtin "len") (λxs H Q=>∃p ys,xs=[.ref p]/\(lU X.K H p ys\/jm X.K H p ys)/\Q (.int ys.length) H):=by
 intro ag s σ H xs i Q I r h;obtain⟨p,ys,rfl,b,q⟩:=h;obtain⟨u,rfl,f⟩:=iK r;cases f;have g:=k7;rcases b with b|b
 ·obtain⟨d,c,pl,e⟩:=I.list b;have a:=c.length;exact Calls.call_len_list pl.isList (by simp only[sT1]<;>lia) ⟨.int ys.length,H,I.tok _,⟨s.toks+1,by rw[sT1,a]⟩,q⟩
 ·obtain⟨d,c,pl,e⟩:=I.tuple b;have a:=c.length;exact len_tuple pl (by simp only[sT1]<;>lia) ⟨.int ys.length,H,I.tok _,⟨s.toks+1,by rw[sT1,a]⟩,q⟩
theorem qz:fj X (.builtin "len") (λxs H Q=>∃z,xs=[.str z]/\z.length<=dL/\Q (.int z.length) H):=by
 intro ag s σ H xs c Q I r h;obtain⟨z,rfl,b,q⟩:=h;obtain⟨u,rfl,t,rfl⟩:=iK r;have a:=k7;exact len_str (by lia) ⟨.int z.length,H,I.tok _,⟨_,O⟩,q⟩
theorem nY:fj X (.type "tuple") (λxs H Q=>∃p ys,xs=[.ref p]/\((lU X.K H p ys /\ ∀l,H l=Y->Q (.ref l) (upd H l (.tup ys)))\/(jm X.K H p ys/\Q (.ref p) H))):=by
 intro ag s σ H xs n Q I r h;obtain⟨p,ys,rfl,h⟩:=h;obtain⟨u,rfl,k⟩:=iK r;cases k;rcases h with⟨d,q⟩|⟨d,q⟩
 ·obtain ⟨a,c,pl,g⟩:=I.list d;have f:=c.length;refine call_tuple_list pl.isList (fun h' m=>?_) (by simp only [sT1]<;>lia);have i:Inv X ag σ H {s with heap:=h'}:=I.kept (t':=s.toks) m;have j:Inv X ag σ (upd H h'.objs.size (.tup ys)) {s with heap:=h'.push {cls:=.type "tuple",data:=.seq a.toArray}}:=
   i.laid (t':=s.toks) (λb o e=>hP1 _ e) (nR1 _) (show eN X.prog X.w _ _ _ (.tup ys)from⟨g,a,c,IsTup.new _ _⟩)
  exact⟨.ref h'.objs.size,_,j,O,q _ (i.hok.fresh (nR1 _))⟩
 ·obtain⟨a,c,pl,g⟩:=I.tuple d;exact call_tuple_same pl ⟨.ref p,H,I,O,q⟩
noncomputable def Je(K:Fg1)(T:String)(x:V)(H:Hp):Prop:=match x with
 | .str _=>T="str"
 | .int _=>T="int"
 | .ref p=>(T="list" /\ ∃ xs,lU K H p xs)\/(T="tuple" /\ ∃ o,K.lookup p=some o/\o.cls = .type "tuple"/\o.dict=none) \/
   (T="dict"/\((∃kvs,H p=Z (.dK kvs)) \/ ∃kvs,H p=Z (.dT kvs)))\/(T="set" /\ ∃S n,H p=Z (.set S n))
 |_=>False
theorem Dr{ag:List (dE×Obj)}{σ:St}{H:Hp}{s:dD}{T:String}{x:V}{v:dB}(I:Inv X ag σ H s)(r:d7 x v)(ty:Je X.K T x H):
  s.TypeIs v T /\ ∀a,v = .ref a -> ∃g,s.heap.get? a=Z g/\g.dict=Y:=by
 cases x with
 |str z=>
  obtain⟨t,rfl⟩:=r;cases(show T="str" from ty);exact⟨typeIs_str s z t,λ_ e=>nomatch e⟩
 |int i=>
  obtain⟨t,rfl⟩:=r;cases(show T="int" from ty);exact⟨typeIs_int s i t,λ_ e=>nomatch e⟩
 |ref p=>
  cases r;rcases ty with⟨rfl,xs,j⟩|⟨rfl,o,b,hc,d⟩|⟨rfl,b⟩|⟨rfl,S,n,b⟩
  ·obtain⟨h,_,pl,_⟩:=I.list j;refine⟨pl.isList.typeIs,λa e=>?_⟩;cases e;obtain⟨o,n,e,c,d,_⟩:=pl;exact⟨o,e,d⟩
  ·refine⟨⟨o,I.kIn p o b,hc⟩,λa e=>?_⟩;cases e;exact⟨o,I.kIn _ o b,d⟩
  ·have z:∃ o,s.heap.get? p=some o/\o.ExactDict:=by
    rcases b with⟨kvs,b⟩|⟨kvs,b⟩
    ·obtain⟨_,_,_,_,o,_,_,e,ex,_⟩:=I.hok p _ b;exact⟨o,e,ex⟩
    ·obtain⟨_,_,_,_,o,_,_,e,ex,_⟩:=I.hok p _ b;exact⟨o,e,ex⟩
   obtain⟨o,e,ex⟩:=z;refine⟨⟨o,e,ex.1⟩,λa f=>?_⟩;cases f;exact⟨o,e,ex.2.1⟩
  ·obtain⟨o,_,_,_,e,ex,_⟩:=I.hok p _ b;refine⟨⟨o,e,ex.1⟩,λa f=>?_⟩;cases f;exact⟨o,e,ex.2.1⟩
 |_=>exact False.elim ty
noncomputable def JK(K:Fg1)(T:String)(r:V->List V->Hp->VK->Prop)(to:TE)(t:TA):TE:=fun σ H Q=>to σ H λx H1=>Je K T x H1/\t σ H1 λxs H2=>r x xs H2 Q
variable{o e:Expr}{es:List Expr}{to:TE}{t:TA}{name:Str}{apos cpos:Pos}{T id:String}{r:V->List V->Hp->VK->Prop}
theorem Gu (l:PlainAttrs T)(slot:Slot T name id)(hty:typeOf (.builtin id)=pure (.type "method_descriptor"))(hm:Dh X id r)(ho:PE X o to)(ha:PA X (e::es) t)
  (hbase:attributeBase o name X.env (eval o X.env)=eval o X.env:=by rfl)
  (hfew:((backTo cpos (dJ (e::es) X.env)).all (λx=> !x.1)&&(backToKw cpos (keywordEach [] X.env)).all (λx=>x.1.isSome)
   && decide ((e::es).length+([]:List Keyword).length+(if([]:List Keyword).isEmpty then 0 else 1)<30))=M:=by rfl)
  (hline:(apos.endLine == cpos.line)=M:=by rfl) (hs:dJ (e::es) X.env=(J,eval e X.env)::dJ es X.env:=by rfl) (hplain:(backTo cpos (dJ es X.env)).any (·.1)=J:=by rfl):
  PE X (.Call (.Attribute o name apos) (e::es) [] cpos) (JK X.K T r to t):=by
 intro ag s σ H Q I h;refine wpAny_Call_method_late hbase hfew hline O (fg (ho ag s σ H _ I h) λv d ⟨x,H1,c,b,ty,i⟩=>?_);obtain⟨h1,h2⟩:=Dr c b ty;refine⟨T,id,l,slot,hty,h1,h2,?_⟩;have a:=ha cpos ag d σ H1 _ c i;rw[hs]at a ⊢;refine Calls.callWith_builtin (by show(J||(backTo cpos (dJ es X.env)).any (·.1))=J;rw[hplain]<;>rfl) (Calls.evalArgs_plain ?_);exact fg a λj f ⟨vs,H2,g,r2,k⟩=>hm ag f σ H2 x vs v j Q g b r2 k
end
end L2
namespace L2
open PySem PySem.Spec PyProof.Rows
noncomputable def Jz(X:Cx)(id:String)(r:V->List V->Hp->VK->Prop):Prop:=
 ∀(ag:List (dE×Obj)) (s:dD) (σ:St) (H:Hp) (x:V) (xs:List V) (v:dB) (us:List dB) (Q:VK),Inv X ag σ H s->d7 x v->ei xs us->r x xs H Q ->
  dM (model X.prog X.w) X.A (call (.builtin id) (v::us)) (EP X ag σ Q) X.xe s
theorem ei.one:∀{x:V} {a:List dB},ei [x] a -> ∃u,a=[u]/\d7 x u:=by
 intro x a h;cases h with
 |cons r t=>cases t;exact⟨_,O,r⟩
theorem ei.two:∀{x y:V} {a:List dB},ei [x,y] a -> ∃u v,a=[u,v]/\d7 x u/\d7 y v:=by
 intro x y a h;cases h with
 |cons r t=>obtain⟨v,rfl,q⟩:=ei.one t;exact⟨_,_,O,r,q⟩
theorem ei.eraseIdx:∀{xs:List V} {a:List dB} (i:Nat),ei xs a->ei (xs.eraseIdx i) (a.eraseIdx i)
 |_,_,_,.nil=>.nil
 |_,_,0,.cons _ t=>t
 |_,_,i+1,.cons r t=>.cons r (ei.eraseIdx i t)
theorem oK{α:Type}:∀(l:List α) (i:Nat),(l.eraseIdx i).length<=l.length
 |[],_=>nR1 _
 |_::_,0=>aX _
 |_::r,i+1=>Nat.succ_le_succ (oK r i)
section
variable{X:Cx}{ag:List (dE×Obj)}{σ:St}{H:Hp}{s:dD}{l b:dE}{xs ys zs:List V}
theorem Inv.lset {its its':List dB}{n:Nat}{f:Array dB->Array dB}{t':Nat}(I:Inv X ag σ H s)(b:H l=some (.lst xs))
  (e:s.heap.get? l=Z {cls:=.type "list",data:=.seq its.toArray n}) (hf:f its.toArray=its'.toArray) (hv:ei ys its') (c:ys.length<=dL):
  Inv X ag σ (upd H l (.lst ys)) {s with heap:=s.heap.update l (Obj.mapSeq f),toks:=t'}:=by
 have q:=PySem.IsL.update e f;rw[hf]at q;refine I.write (x:=l) (e:=l) (by rw[b];exact trivial) (.inl O) (λg u a d=>(Heap.get?_update_other s.heap (Obj.mapSeq f) (Ne.symm a)).trans d) ⟨_,q⟩ ?_;exact⟨c,its',_,hv,q⟩
theorem Inv.lnew{its:List dB}{t':Nat}(I:Inv X ag σ H s)(hv:ei ys its)(a:ys.length<=dL):
  Inv X ag σ (upd H s.heap.objs.size (.lst ys)) {s with heap:=s.heap.push {cls:=.type "list",data:=.seq its.toArray},toks:=t'}:=
 I.laid (λ_ _ q=>hP1 _ q) (nR1 _) ⟨a,its,0,hv,hS1 _ O⟩
theorem Inv.fresh(I:Inv X ag σ H s):H s.heap.objs.size=Y:=I.hok.fresh (nR1 _)
theorem Inv.lstM(I:Inv X ag σ H s)(a:H l=Z (.lst xs)):xs.length<=dL /\ ∃(its:List dB) (n:Nat),ei xs its/\xs.length=its.length/\s.heap.get? l=Z {cls:=.type "list",data:=.seq its.toArray n}:=by
 obtain⟨z,its,n,r,e⟩:=I.hok l _ a;exact⟨z,its,n,r,r.length,e⟩
end
section
variable{X:Cx}
noncomputable def Bh:V->List V->Hp->VK->Prop:=λx vs H Q=>∃l xs y,x = .ref l/\vs=[y]/\H l=Z (.lst xs)/\xs.length<dL/\Q .non (upd H l (.lst (xs++[y])))
theorem oE:Jz X "list.append" Bh:=by
 intro ag s σ H x vs v g Q I d f h;obtain⟨l,xs,y,rfl,rfl,b,j,q⟩:=h;cases d;obtain⟨u,rfl,c⟩:=f.one;obtain⟨z,a,n,r,i,e⟩:=I.lstM b;refine call_meets F.slot_list_append ⟨_,e,O⟩ F.entry_list_append (F.args_list_append_2 _ _) (PySem.list_append l a.toArray n u (by rw[sT1];lia)) ⟨e,?_⟩;refine⟨.non,_,I.lset (its':=a++[u]) b e (by simp) (r.append (.cons c .nil)) ?_,O,q⟩;rw[lA1,aY];lia
noncomputable def DT:V->List V->Hp->VK->Prop:=λx vs H Q=>∃l xs i k y,x = .ref l/\vs=[.int i]/\H l=Z (.lst xs) /\ -(2^63)<=i/\i<2^63/\seqIndex? i xs.length=Z k/\xs[k]?=Z y/\Q y (upd H l (.lst (xs.eraseIdx k)))
theorem zr:Jz X "list.pop" DT:=by
 intro ag s σ H x vs v A Q I m p h;obtain⟨l,xs,i,k,y,rfl,rfl,c,h1,h2,f,g,q⟩:=h;cases m;obtain⟨u,rfl,d⟩:=p.one;obtain⟨t,rfl⟩:=d;obtain⟨z,a,n,r,j,e⟩:=I.lstM c;obtain⟨w,o,b⟩:=r.get g;refine call_meets F.slot_list_pop ⟨_,e,O⟩ F.entry_list_pop (F.args_list_pop_2 _ _)
  (MeetsSeq.list_pop_at l a.toArray n i t k w (fitsIndex_both h1 h2) (by rw[sT1,<- j];exact f) (by rw[<- aT1];exact o) (by rw[sT1];lia)) ⟨e,?_⟩
 refine⟨y,_,I.lset (its':=a.eraseIdx k) c e ?_ (r.eraseIdx k) ?_,b,q⟩
 ·show a.toArray.eraseIdxIfInBounds k=(a.eraseIdx k).toArray;rw[List.eraseIdxIfInBounds_toArray]
 ·have:=oK xs k;lia
noncomputable def IF:R2:=λx y H Q=>∃l b xs zs,x = .ref l/\y = .ref b/\H l=Z (.lst xs)/\H b=Z (.lst zs)/\xs.length+zs.length<=dL /\ ∀p,H p=Y->Q (.ref p) (upd H p (.lst (xs++zs)))
theorem Em:gp X (binaryOp .Add) IF:=by
 intro ag s σ H x y v u Q I m k h;obtain⟨l,b,xs,zs,rfl,rfl,j,f,w,q⟩:=h;cases m;cases k;obtain⟨z,c,n,r,p,e⟩:=I.lstM j;obtain⟨o,a,t,r2,g,i⟩:=I.lstM f;refine PySem.P.add_list e i ?_ (by rw[sT1,sT1];lia);have d:c.toArray++a.toArray=(c++a).toArray:=by simp
 rw[d];exact⟨.ref _,_,I.lnew (t':=s.toks) (r.append r2) (by rw[lA1];lia),O,q _ I.fresh⟩
end
section
variable{prog:dF}{w:dH}{A:dG}{E:dB->dD->Prop}{s:dD}
end
section
variable{X:Cx}
end
end L2
namespace Att
open PySem PySem.W PySem.Calls PyProof.Rows
theorem lX{P:Params}{h:dN}:∀(ns:List Int) (vs:List dB),WellAll P h vs (ns.map WData.int)->IntsAre vs ns:=by
 intro ns
 induction ns with
 |nil=>
  intro vs w;rw[aZ]at w;cases w;exact .nil
 |cons n ns ih=>
  intro vs w;rw[mP1]at w;cases w with
  |cons a b=>
   cases a;exact .cons _ _ (ih _ b)
theorem wF{l:OpenLaw}{n:Nat}(hn:l.most=some n){P:Params}{h:dN}{args:List WData}{b:List dB}(c:l.row.toRowW.claim.pre args=true)(j:WellAll P h b args):
  ∃a vs ns,b=[Value.ref a]/\args=[WData.list (ns.map WData.int)]/\h.get? a=Z {cls:=.type "list",data:=.seq vs.toArray}/\IntsAre vs ns/\ns.length<=n:=by
 have k:WShape.hasAll [] args [.list .int]=M:=(pre_splitW c).1;have hc:l.pre.holds [] {args:=args}=M:=(pre_splitW c).2;obtain⟨d,r,rfl,h1,h2⟩:=hasAllW_cons k;obtain rfl:=hasAllW_nil h2;obtain⟨xs,rfl,s⟩:=hasW_list h1;obtain⟨ns,rfl⟩:=items_int s;have f:ns.length<=n:=by
  unfold OpenLaw.pre at hc;have g:(WTm.not (.lt (.lit (.int (n:Int))) (.len (.arg 0)))).holds [] {args:=[.list (ns.map .int)]}=M:=by
   have g:=(holds_andW hc).1;rw[hn]at g;exact g
  have i:=condW_of g (w_not (w_lt w_lit (w_len_list (w_arg O))));rw[lM1]at i;refine a0 λq=>?_;have o:(n:Int)<((ns.length:Nat):Int):=by omega
  first
   |(rw[ah o]at i;exact absurd i (by decide))
   |(simp at i;omega)
 cases j with
 |cons t m=>
  cases m;cases t with
  |list p e=>exact⟨_,_,ns,O,O,p,lX ns _ e,f⟩
theorem wG(l:OpenLaw)(args:List WData):l.row.toRowW.claim.post args (.bool M) args=M:=
 postW_of (r:=l.row.toRowW) (X:=(M == M))
  (show WShape.has [] (.bool M) .bool=M by first|rfl|decide|simp[WShape.has,WShape.arms,WShape.armsAll])
  (show(WTm.eq .res (.lit (.bool M))).value [] {args:=args,res:=Z (.bool M),after:=args}=Z (.bool (M == M))from w_eq_bool (w_res O) w_lit) O
theorem attach_call {l:OpenLaw}{n:Nat}{q:dF}{e:List Str}{XP:(Str->Option dB)->dN->Prop}{B:dH->dN->Prop}{d:DefRec}
  (hn:l.most=Z n) (y:d.params.defaults=[])
  (call:∀(w:dH) (c b:dD) (mg t:Str->Option dB) (k:dE) (o:Obj) (x p g:dB) (a:dE) (vs:List dB) (ns:List Int),
   Ground q e [] XP w c mg t b.heap->B w b.heap ->
   b.heap.get? k=Z o->o.data = .func (docDef d.name d.params d.body d.scope x p g)->b.heap.CodeRec p d.name->mg d.name=Z (.ref k) ->
   b.heap.get? a=Z {cls:=.type "list",data:=.seq vs.toArray}->IntsAre vs ns->ns.length<=n->b.gens = #[] ->
   codeAny (model l.prog w) callerA (.call (.ref k) ⟨[.ref a],[]⟩) (λr s'=>r = .ok (.ret (.bool M))/\OldK b.heap s'.heap/\s'.os=b.os/\AllBare s'.gens) b):
  WalkO q e XP B l.row.toRowW d [] (λf vs=>PySem.call f vs):=by
 intro w c b mg t G aq k o x p g K kV E H s D u L A z as m C N v au;obtain rfl:K = .none:=Dflts.none D y;obtain rfl:kV = .none:=Dflts.noKw D;obtain⟨a,vs,ns,rfl,rfl,i,h,j⟩:=wF hn m v;refine enter_call (codeAny_mono (call w c b mg t k o x p g a vs ns G aq E (fd_plain H) s u i h j L) λr s' am=>?_);obtain⟨rfl,h2,ao,I⟩:=am;exact⟨.inl ⟨.bool M,.bool M,[],O,λ_=>rfl,.bool M,wG l _,λ_=>⟨List.Pairwise.nil,λ_ F=>(nomatch F)⟩⟩,h2,ao,I⟩
section
variable{prog:dF}{w:dH}{A:dG}{E:dB->dD->Prop}{s:dD}{K:Frag}
end
end Att
namespace L2
open PySem PySem.Spec PyProof.Rows
theorem ww:∀{vs:List dB} {ns:List Int},IntsAre vs ns->ei (ns.map V.int) vs:=by
 intro vs ns h
 induction h with
 |nil=>exact .nil
 |cons n t h ih=>exact .cons ⟨t,O⟩ ih
noncomputable def CO(H:Hp):Prop:=∀b,H b=Y \/ ∃o xs,H b=Z (.frz o (.lst xs))
theorem zL {P:dF}{w:dH}{K:Fg1}{mg G:Str->Option dB}{CX:xJ}{k:Nat}{I a:dE}{fd:dP}{x:Str}{sp:Sp}{s₁:dD}{vs:List dB}{ns:List Int}
  (Q:K.In s₁.heap) (y:s₁.heap.Ns dI mg) (hb:s₁.heap.Ns builtinsNs G) (am:∀x:Str,x≠"__name__"->G x=bootBuiltins x) (j:s₁.heap.NoLimit) (hg:s₁.gens = #[])
  (ha:s₁.heap.get? a=Z {cls:=.type "list",data:=.seq vs.toArray}) (hi:IntsAre vs ns) (S:ns.length<=dL) (hr:fN k callerA)
  (F:∀base:dN,K.In base->base.Ns dI mg->jt P w K mg base CX k I fd [x] sp) (g:∀(s:dD) (u:dB),BindsTo s fd ⟨[u],[]⟩ [(x,u)])
  (L:∀H:Hp,CO H->lU K H a (ns.map V.int)->sp [.ref a] H (λv _=>v = .bl M) λ_ _ _=>False)
  (E:∀H e s',CX [] H s₁ (λ_ _ _=>False) e s'->False):
  codeAny (model P w) callerA (.call (.ref I) ⟨[.ref a],[]⟩) (λr s'=>r = .ok (.ret (.bool M))/\OldK s₁.heap s'.heap/\s'.os=s₁.os/\AllBare s'.gens) s₁:=by
 have au:=ww hi;have B:=hi.length
 -- from an abstract heap in which nothing but the script may be tracked
 have f:∀ H:Hp,CO H->lU K H a (ns.map V.int)->kS P w H s₁.heap->(∀ b,H b≠none->b=a)->(H a≠none->K.lookup a=none) ->
   codeAny (model P w) callerA (.call (.ref I) ⟨[.ref a],[]⟩) (λr s'=>r = .ok (.ret (.bool M))/\OldK s₁.heap s'.heap/\s'.os=s₁.os/\AllBare s'.gens) s₁:=by
  intro H R X p ao W;have base_of:∀{b:dE} {o:Obj},s₁.heap.get? b=Z o->H b=Y->(qp s₁.heap H).get? b=Z o:=λe n=>zV e n;have C:∀{b:dE} {o:Obj} {es:Array DictEntry} {ep:Nat},s₁.heap.get? b=Z o->o.data = .dict es ep->H b=Y:=λ{b o es ep} e d=>by
   cases q:H b with
   |none=>rfl
   |some u=>
    have D:b=a:=ao b (by rw[q];simp);subst D;rw[ha]at e;cases e;have d':Data.seq vs.toArray _=Data.dict es ep:=d;cases d'
  have c:∀{b:dE} {m:Str->Option dB},s₁.heap.Ns b m->(qp s₁.heap H).Ns b m:=λ{b m} ⟨o,es,ep,e,d,r⟩=>⟨o,es,ep,base_of e (C e d),d,r⟩;have l:K.In (qp s₁.heap H):=λb o e=>base_of (Q b o e) (by
   cases q:H b with
   |none=>rfl
   |some u=>
    have D:b=a:=ao b (by rw[q];simp);subst D;rw[W (by rw[q];simp)]at e;cases e)
  have hM:Mod K mg (qp s₁.heap H):=⟨l,c y,⟨G,c hb,am⟩,let ⟨mc,h1,h2⟩:=j;⟨mc,c h1,h2⟩⟩;have wq:CP P w K mg (qp s₁.heap H) callerA [] s₁ H:=⟨O,hM,λb o e=>BG e,Nat.le_of_eq (w9 _ _),trivial,λb hb=>absurd (show b∈([]:List dE)from hb) (by simp),p,.of_eq hg⟩;refine codeAny_mono ((F _ l (c y)).run callerA [] s₁ H ⟨[.ref a],[]⟩ [.ref a] [.ref a] _ _ hr wq (g s₁ (.ref a)) (.cons O .nil) (L H R X)) λr s' h=>?_;cases r with
  |error e=>exact(E H e s' h).elim
  |ok aq=>
   cases aq with
   |next=>exact False.elim h
   |brk=>exact False.elim h
   |cont=>exact False.elim h
   |ret u=>
    obtain⟨v,H',os,t,un,A,T,q⟩:=h;have q':v = .bl M:=q;subst q';obtain rfl:u=Value.bool true:=T;refine⟨O,OldK.of_keep λb o e=>?_,os,t⟩;cases q:H b with
    |none=>exact un.keep b o e q (by intro z;exact absurd (show b∈([]:List dE)from z) (by simp)) (by simp)
    |some u=>
     rcases R b with z|⟨ob,xs,z⟩
     ·rw[q]at z;cases z
     ·have z2:=un.frzs b ob _ z;obtain⟨N,_⟩:=p b _ z;obtain⟨U,_⟩:=A b _ z2;rw[e]at N;cases N;exact U
 cases hk:K.lookup a with
 |some o=>
  -- the script is one of the module's own objects
  have e:=Q a o hk;rw[ha]at e;cases e;refine f (λ_=>Y) (λ_=>.inl O) (.inr ⟨_,vs.toArray,_,hk,O,O,O,by rw[sT1,B];exact S,by simpa using au⟩) (λb u z=>by have i:(Y:Option HO)=Z u:=z;cases i) (λb z=>absurd O z) λz=>absurd O z
 |none=>
  refine f (λb=>if b=a then Z (.frz {cls:=.type "list",data:=.seq vs.toArray} (.lst (ns.map V.int)))else Y) (λb=>?_) (.inl (.inr ⟨{cls:=.type "list",data:=.seq vs.toArray},ak O⟩)) (λb u z=>?_) (λb z=>?_) λ_=>hk
  ·by_cases hb:b=a
   ·exact .inr ⟨_,_,ak hb⟩
   ·exact .inl (aj hb)
  ·by_cases hb:b=a
   ·have i:=(ak hb).symm.trans z;cases i;subst hb;exact⟨ha,by rw[lM1];exact S,vs,_,au,ha⟩
   ·have i:=(aj hb).symm.trans z;cases i
  ·by_cases hb:b=a
   ·exact hb
   ·exact absurd (aj hb) z
end L2
namespace L2
open PySem PySem.Spec PyProof.Rows
theorem A6{l:PySem.W.OpenLaw}{n k:Nat}{q:dF}{g:List Str}{XP:(Str->Option dB)->dN->Prop}{B:dH->dN->Prop}{d:DefRec}{K:Params->Fg1}{CX:dH->xJ}{sp:dH->Sp}{x:Str}(hn:l.most=some n)(y:n<=dL)(z:d.params.defaults=[])(hr:fN k callerA)(am:∀(w:dH) (h:dN),B w h->(K w.params).In h)(F:∀(w:dH) (mg:Str->Option dB) (m:dE) (h:dN),(K w.params).In h->h.Ns dI mg->mg d.name=some (.ref m) ->
   ∃fd:dP,(∀(s:dD) (u:dB),BindsTo s fd ⟨[u],[]⟩ [(x,u)]) /\
    ∀base:dN,(K w.params).In base->base.Ns dI mg->jt l.prog w (K w.params) mg base (CX w) k m fd [x] (sp w))(t:∀(w:dH) (H:Hp) (a:dE) (ns:List Int),ns.length<=n->CO H->lU (K w.params) H a (ns.map V.int)->sp w [.ref a] H (λv _=>v = .bl M) λ_ _ _=>False)(p:∀(w:dH) (H:Hp) (s:dD) (e:dB) (s':dD),CX w [] H s (λ_ _ _=>False) e s'->False):
  PySem.W.WalkO q g XP B l.row.toRowW d [] (λf vs=>PySem.call f vs):=by
 refine Att.attach_call hn z λw A j mg S m o T Q I a vs ns G aq P R E r i c b L=>?_;have C:=am w _ aq;obtain⟨fd,N,au⟩:=F w mg m _ C G.T.g r;exact zL C G.T.g G.T.b G.T.builtins G.T.nolimit L i c (aC b y) hr au N (λH ao D=>t w H a ns b ao D) λH e s'=>p w H j e s'
end L2
namespace L2
open PySem PySem.Spec PyProof.Rows
noncomputable def hB(s:dQ):Arguments:=match s with
 | .FunctionDef _ a _ _ _ _ _ _ _ _=>a
 |_=>{posonlyargs:=[],args:=[],vararg:=Y,kwonlyargs:=[],kw_defaults:=[],kwarg:=Y,defaults:=[]}
noncomputable def fq(s:dQ):List dQ:=match s with
 | .FunctionDef _ _ b _ _ _ _ _ _ _=>b
 |_=>[]
noncomputable def ec(s:dQ):dR:=match s with
 | .FunctionDef _ _ _ _ _ _ sc _ _ _=>sc
 |_=>{kind:=.function,names:=[],isGenerator:=J,isCoroutine:=J}
abbrev tz:xJ:=λ_ _ _ _ _ _=>False
abbrev E0:XK:=λ_ _ _=>False
theorem Gw{X:Cx}:uO tz X E0:=λ_ _ _ _ _ _ _ h=>h.elim
structure xO (K:Fg1)(x qual:Str)(st:dQ)(f:dE)(fd:dP):Prop where
 ex:∃(oc:dB) (od:Option dE) (kV doc pm:dB) (an:Option dE) (cdv ct:dB) (osl:Array (Option dB)),
  fd=wF1 x qual (hB st) (fq st) (ec st) .none kV doc pm an cdv ct/\K.lookup f=some ⟨oc,od,.func fd,osl⟩/\wC1 K cdv qual=true
 kp:wK1 K (.ref f)=true
section
variable{P:dF}{w:dH}{K:Fg1}{mg:Str->Option dB}{base:dN}
theorem xO.ok{x b:Str}{st:dQ}{f:dE}{fd:dP}{N ps:List Str}{k:Nat}{sp:Sp}(F:xO K x b st f fd)(S:gh N ps (ec st))(len:∀ vs H Q E,sp vs H Q E->vs.length=ps.length)(d:∀(c:dB) (A:dG) (a:List Env) (s:dD) (H:Hp) (vs:List V) (Q:VK) (E:XK),fN k (A.deeper (envOfC b (ec st) s.heap.objs.size f c))->sp vs H Q E ->
   ∃t,tH (lY tz P w K mg base N b (ec st) f c A a s H E).nox (fq st) t/\t {nx:=λ_ H'=>Q .non H',rt:=Q} (iM N vs) H):jt P w K mg base tz (k+1) f fd ps sp:=by
 obtain⟨o,p,kV,j,r,n,c,ct,l,rfl,i,g⟩:=F.ex;refine Ha i g S len λA a s H vs Q E m e=>?_;obtain⟨t,h,q⟩:=d c A a s H vs Q E m e;exact⟨t,h.nox,q⟩
theorem xO.binds{x a:Str}{st:dQ}{f:dE}{fd:dP}{ps:List Str}(F:xO K x a st f fd)(h:∀(kV b e:dB) (d:Option dE) (c ct:dB) (g:List dB),g.length=ps.length->bindArgs (wF1 x a (hB st) (fq st) (ec st) .none kV b e d c ct) ⟨g,[]⟩=pure (ps.zip g)):kT K fd ps []:=by
 obtain⟨l,m,kV,b,e,d,c,ct,i,rfl,k,j⟩:=F.ex;exact .all (h kV b e d c ct)
theorem Ad{x a:Str}{st:dQ}{f:dE}{j:dB}{i g:Option dE}{e:Array (Option dB)}{kV d h b ct:dB}(l:K.lookup f=Z ⟨j,i,.func (wF1 x a (hB st) (fq st) (ec st) .none kV d h g b ct),e⟩)(c:wC1 K b a=M)(k:wK1 K (.ref f)=M):xO K x a st f (wF1 x a (hB st) (fq st) (ec st) .none kV d h g b ct):=⟨⟨j,i,kV,d,h,g,b,ct,e,O,l,c⟩,k⟩
end
section
variable{X:Cx}
theorem pv (i:Nat){x:Str}{pos:Pos}(hN:X.N[i]? = some x:=by rfl)(hv:Vis X.env.scope x:=by first | exact Or.inl rfl | exact Or.inr (Or.inl rfl) | exact Or.inr (Or.inr rfl))(hd:(x == ("__debug__":Str))=false:=by decide)
  (hcd:(x == ("__classdict__":Str))=J:=by decide):PE X (.Name x pos) (F1 i):=yZ hN hv hd hcd
end
end L2
namespace L2
open PySem PySem.Spec PyProof.Rows
section
variable{κ:Type} [DecidableEq κ]
noncomputable def im(kvs:List (κ×V))(k:κ):Option V:=(kvs.find? λkv=>decide (kv.1=k)).map (·.2)
noncomputable def ic(kvs:List (κ×V))(k:κ)(v:V):List (κ×V):=
 if(kvs.any λkv=>decide (kv.1=k))=M then kvs.map (λkv=>if kv.1=k then(kv.1,v)else kv)else kvs++[(k,v)]
theorem mq{p:κ×V}{r:List (κ×V)}{k:κ}(e:p.1=k):im (p::r) k=Z p.2:=by simp[im,bc,e]
theorem ms{p:κ×V}{r:List (κ×V)}{k:κ}(e:¬ p.1=k):im (p::r) k=im r k:=by simp[im,bc,e]
theorem rg(k:κ):∀kvs:List (κ×V),(kvs.any λa=>decide (a.1=k))=(im kvs k).isSome
 |[]=>rfl
 |p::r=>by
  rw[bd];by_cases e:p.1=k
  ·simp only[mq e,ah e,Bool.true_or,Option.isSome_some]
  ·rw[ms e,ai e,Bool.false_or];exact rg k r
theorem iW(kvs:List (κ×V))(k:κ)(v:V):(ic kvs k v).length<=kvs.length+1:=by
 unfold ic;split
 ·rw[lM1];lia
 ·rw[lA1,lC1,bf];lia
theorem l5.isSome_eq{o:Option V}{u:Option dB}(r:l5 o u):o.isSome=u.isSome:=by
 cases o with
 |none=>cases u with
  |none=>rfl
  |some _=>exact(show False from r).elim
 |some _=>cases u with
  |none=>exact(show False from r).elim
  |some _=>rfl
theorem l5.getD{o:Option V}{u:Option dB}{d:V}{d':dB}(r:l5 o u)(a:d7 d d'):d7 (o.getD d) (u.getD d'):=by
 cases o with
 |none=>cases u with
  |none=>exact a
  |some _=>exact(show False from r).elim
 |some _=>cases u with
  |none=>exact(show False from r).elim
  |some _=>exact r
theorem KV.val{kvs:List (κ×V)}{vs:List (κ×dB)}(r:KV kvs vs)(k:κ):l5 (im kvs k) (valueAt vs k):=by
 unfold KV at r
 induction r with
 |nil=>exact True.intro
 | @cons p q ps a h t ih=>
  obtain⟨h1,h2⟩:=h;by_cases e:p.1=k
  ·have c:q.1=k:=h1.symm.trans e;have b:valueAt (q::a) k=Z q.2:=by simp[valueAt,bc,c]
   rw[mq e,b];exact h2
  ·have c:¬ q.1=k:=λz=>e (h1.trans z);have b:valueAt (q::a) k=valueAt a k:=by simp[valueAt,bc,c]
   rw[ms e,b];exact ih
theorem KV.any{kvs:List (κ×V)}{vs:List (κ×dB)}(r:KV kvs vs)(k:κ):(kvs.any λa=>decide (a.1=k))=vs.any λa=>decide (a.1=k):=by
 unfold KV at r
 induction r with
 |nil=>rfl
 |cons h t ih=>rw[bd,bd,ih,h.1]
theorem KV.repl{kvs:List (κ×V)}{vs:List (κ×dB)}(r:KV kvs vs)(k:κ){y:V}{u:dB}(b:d7 y u):
  KV (kvs.map λa=>if a.1=k then(a.1,y)else a) (vs.map λa=>if a.1=k then(a.1,u)else a):=by
 unfold KV at r ⊢
 induction r with
 |nil=>exact .nil
 | @cons p q ps c h t ih=>
  rw[mP1,mP1];refine .cons ?_ ih;obtain⟨h1,h2⟩:=h;by_cases e:p.1=k
  ·rw[ak e,ak (h1.symm.trans e)];exact⟨h1,b⟩
  ·rw[aj e,aj (λz=>e (h1.trans z))];exact⟨h1,h2⟩
theorem KV.put{kvs:List (κ×V)}{vs:List (κ×dB)}(r:KV kvs vs)(k:κ){y:V}{u:dB}(a:d7 y u):KV (ic kvs k y) (stored vs k u):=by
 unfold ic stored;rw[r.any k];by_cases e:(vs.any λb=>decide (b.1=k))=M
 ·rw[ak e,ak e];exact r.repl k a
 ·rw[aj e,aj e];exact Paired.snoc r ⟨O,a⟩
theorem KV.length{kvs:List (κ×V)}{vs:List (κ×dB)}(r:KV kvs vs):kvs.length=vs.length:=Paired.length r
end
theorem oN{P:dF}{w:dH}{k:Key}{u:dB}(r:d7 (kV k) u):(eW P w).is k u=M:=by
 cases k with
 |inl i=>obtain⟨t,e⟩:=(show∃t,u=Value.int i t from r);subst e;exact rZ P w i t
 |inr x=>obtain⟨t,e⟩:=(show∃t,u=Value.str x t from r);subst e;exact rY P w x t
theorem oO{P:dF}{w:dH}:∀{ks:List Key} {a:List dB},ei (ks.map kV) a->ItemsAre (eW P w) ks a
 |[],_,r=>by rw[aZ]at r;cases r;exact .nil
 |k::ks,_,r=>by
  rw[mP1]at r;cases r with
  |cons h t=>exact .cons (oN h) (oO t)
abbrev KT(H:Hp):List (List Key×V)->List (List Key×dE×dB)->Prop:=Paired λp q=>p.1=q.1/\H q.2.1=Z (.tup (p.1.map kV))/\d7 p.2 q.2.2
theorem KT.val{H:Hp}{kvs:List (List Key×V)}{xs:List (List Key×dE×dB)}(r:KT H kvs xs)(k:List Key):l5 (im kvs k) ((atKey xs k).map (·.2)):=by
 induction r with
 |nil=>exact True.intro
 | @cons p q ps a h t ih=>
  obtain⟨h1,_,h2⟩:=h;by_cases e:p.1=k
  ·have c:q.1=k:=h1.symm.trans e;have b:atKey (q::a) k=Z q.2:=by simp[atKey,bc,c]
   rw[mq e,b];exact h2
  ·have c:¬ q.1=k:=λz=>e (h1.trans z);have b:atKey (q::a) k=atKey a k:=by simp[atKey,bc,c]
   rw[ms e,b];exact ih
theorem KT.repl{H:Hp}{kvs:List (List Key×V)}{xs:List (List Key×dE×dB)}(r:KT H kvs xs)(k:List Key){y:V}{u:dB}(b:d7 y u):
  KT H (kvs.map λa=>if a.1=k then(a.1,y)else a) (xs.map (putAt k u)):=by
 induction r with
 |nil=>exact .nil
 | @cons p q ps d h t ih=>
  rw[mP1,mP1];refine .cons ?_ ih;obtain⟨h1,h2,c⟩:=h;unfold putAt;by_cases e:p.1=k
  ·rw[ak e,ak (h1.symm.trans e)];exact⟨h1,h2,b⟩
  ·rw[aj e,aj (λz=>e (h1.trans z))];exact⟨h1,h2,c⟩
theorem KT.put{H:Hp}{kvs:List (List Key×V)}{xs:List (List Key×dE×dB)}(r:KT H kvs xs)(k:List Key){b:dE}{y:V}{u:dB}(hb:H b=some (.tup (k.map kV)))(a:d7 y u):
  KT H (ic kvs k y) (storedH xs k b u):=by
 have e:(kvs.any λc=>decide (c.1=k))=(atKey xs k).isSome:=by
  rw[rg,(r.val k).isSome_eq,bg]
 unfold ic storedH;rw[e];by_cases q:(atKey xs k).isSome=M
 ·rw[ak q,ak q];exact r.repl k a
 ·rw[aj q,aj q];exact Paired.snoc r ⟨O,hb,a⟩
theorem KT.keeps{H H':Hp}{kvs:List (List Key×V)}{xs:List (List Key×dE×dB)}(r:KT H kvs xs)(ht:∀b ys,H b=Z (.tup ys)->H' b=Z (.tup ys)):KT H' kvs xs:=
 Paired.mapP r λ_ _ z=>⟨z.1,ht _ _ z.2.1,z.2.2⟩
section
variable{P:dF}{w:dH}{H:Hp}{h:dN}{a:dE}
theorem C0{u:HO}(ok:kS P w H h)(e:Rd H a u):eN P w H h a u:=e.ok ok
theorem sN{kvs:List (Key×V)}(ok:kS P w H h)(e:Rd H a (.dK kvs)):kvs.length<=dL/\(a == sysModules)=J /\ ∃vs,KV kvs vs/\h.DictOf (eW P w) a vs:=
 show eN P w H h a (.dK kvs)from C0 ok e
theorem vZ{kvs:List (Key×V)}(ok:kS P w H h)(e:H a=Z (.dK kvs)):kvs.length<=dL/\(a == sysModules)=J /\ ∃vs,KV kvs vs/\h.DictOf (eW P w) a vs:=sN ok (.inl e)
theorem m4{ks:List Key}(ok:kS P w H h)(e:H a=Z (.tup (ks.map kV))):(tupleKind (eW P w)).is h ks a:=by
 obtain⟨_,b,r,o,h1,h2,n,c⟩:=(show eN P w H h a (.tup (ks.map kV))from ok a _ e);exact⟨o,b.toArray,n,h1,h2,c,by simpa using oO r⟩
theorem sL{kvs:List (List Key×V)}(ok:kS P w H h)(e:Rd H a (.dT kvs)):kvs.length<=dL/\(a == sysModules)=false /\
  ∃xs,KT H kvs xs/\h.DictOfH (tupleKind (eW P w)) a xs:=by
 obtain⟨z,y,xs,r,o,es,ep,h1,h2,f,d,g⟩:=(show eN P w H h a (.dT kvs)from C0 ok e);refine⟨z,y,xs,r,o,es,ep,h1,h2,f,d,λx b=>?_,g⟩;have all:∀{l:List (List Key×V)} {m:List (List Key×dE×dB)},KT H l m -> ∀x∈m,(tupleKind (eW P w)).is h x.1 x.2.1:=by
  intro l m q
  induction q with
  |nil=>intro x b;exact nomatch b
  | @cons p q ps i c t ih=>
   intro x b;rcases aF.mp b with e|b
   ·subst e;exact m4 ok (by rw[<- c.1];exact c.2.1)
   ·exact ih x b
 exact all r x b
theorem Hh{kvs:List (List Key×V)}(ok:kS P w H h)(e:H a=some (.dT kvs)):kvs.length<=dL/\(a == sysModules)=false /\
  ∃xs,KT H kvs xs/\h.DictOfH (tupleKind (eW P w)) a xs:=sL ok (.inl e)
end
noncomputable def n3(H:Hp)(a:dE)(y:V)(r:Option V):Prop:=
 (∃kvs k,Rd H a (.dK kvs)/\y=kV k/\r=im kvs k) \/ ∃kvs k b,Rd H a (.dT kvs)/\y = .ref b/\H b=Z (.tup (k.map kV))/\r=im kvs k
noncomputable def xI(H:Hp)(a:dE)(y v:V)(H':Hp):Prop:=
 (∃kvs k,H a=Z (.dK kvs)/\y=kV k/\kvs.length<dL/\H'=upd H a (.dK (ic kvs k v))) \/
 ∃kvs k b,H a=Z (.dT kvs)/\y = .ref b/\H b=Z (.tup (k.map kV))/\kvs.length<dL/\H'=upd H a (.dT (ic kvs k v))
theorem n3.k{H:Hp}{a:dE}{kvs:List (Key×V)}{k:Key}(e:H a=Z (.dK kvs)):n3 H a (kV k) (im kvs k):=.inl ⟨kvs,k,.inl e,O,O⟩
theorem n3.t{H:Hp}{a b:dE}{kvs:List (List Key×V)}{k:List Key}(e:H a=Z (.dT kvs))(c:H b=Z (.tup (k.map kV))):n3 H a (.ref b) (im kvs k):=.inr ⟨kvs,k,b,.inl e,O,c,O⟩
theorem xI.k{H:Hp}{a:dE}{kvs:List (Key×V)}{k:Key}{v:V}(e:H a=Z (.dK kvs))(b:kvs.length<dL):xI H a (kV k) v (upd H a (.dK (ic kvs k v))):=.inl ⟨kvs,k,e,O,b,O⟩
theorem xI.t{H:Hp}{a b:dE}{kvs:List (List Key×V)}{k:List Key}{v:V}(e:H a=some (.dT kvs))(d:H b=some (.tup (k.map kV)))(c:kvs.length<dL):
  xI H a (.ref b) v (upd H a (.dT (ic kvs k v))):=.inr ⟨kvs,k,b,e,O,d,c,O⟩
section
variable{X:Cx}{ag:List (dE×Obj)}{σ:St}{H:Hp}{s:dD}{a:dE}{y v:V}{u r:dB}{o:Option V}{A:dG}{E:dB->dD->Prop}
theorem Inv.big(I:Inv X ag σ H s):sysModules<s.heap.objs.size:=by
 have h:dI<s.heap.objs.size:=(I.mod.glob.keeps I.bk).lt;exact bh (by decide) h
theorem xp{Q:dB->dD->Prop}(w:A.units+1<cLine)(I:Inv X ag σ H s)(g:n3 H a y (some v))(n:d7 y u)(h:∀ f s',Inv X ag σ H s'->d7 v f->Q f s'):
  dM (model X.prog X.w) A (getItem (.ref a) u) Q E s:=by
 rcases g with⟨kvs,k,e,i,l⟩|⟨kvs,k,b,e,i,r,l⟩
 ·subst i;obtain⟨z,q,vs,d,dd⟩:=sN I.hok e;obtain⟨f,m,c⟩:=l5.some_of (v:=v) (o:=valueAt vs k) (by rw[l];exact d.val k);exact wpAny_getItem_of (oN n) dd.mapOf m (h f _ (I.tok _) c)
 ·subst i;cases(show u=Value.ref b from n);obtain⟨z,q,xs,d,dd⟩:=sL I.hok e;obtain⟨f,m,c⟩:=l5.some_of (v:=v) (o:=(atKey xs k).map (·.2)) (by rw[l];exact d.val k);obtain⟨p,t,j⟩:=oM1.mp m;refine wpAny_getItem_heap (tupleKind_room_in1 w) (m4 I.hok r) dd t ?_;rw[j];exact h f _ (I.tok _) c
theorem IV{Q:dB->dD->Prop}(m:A.units+1<cLine)(I:Inv X ag σ H s)(g:n3 H a y o)(i:d7 y u)(h:∀ s',Inv X ag σ H s'->Q (.bool o.isSome) s'):
  dM (model X.prog X.w) A (compareOp .In u (.ref a)) Q E s:=by
 rcases g with⟨kvs,k,e,d,l⟩|⟨kvs,k,b,e,d,j,l⟩
 ·subst d;obtain⟨z,f,vs,c,dd⟩:=sN I.hok e;refine wpAny_in_of (oN i) f dd.mapOf ?_;rw[<- (c.val k).isSome_eq,<- l];exact h _ (I.tok _)
 ·subst d;cases(show u=Value.ref b from i);obtain⟨z,f,xs,c,dd⟩:=sL I.hok e;refine wpAny_in_heap (tupleKind_room_in1 m) (m4 I.hok j) f dd ?_;have q:=(c.val k).isSome_eq;rw[bg]at q;rw[<- q,<- l];exact h _ (I.tok _)
theorem Cy{Q:dB->dD->Prop}(m:A.units+1<cLine)(I:Inv X ag σ H s)(g:n3 H a y o)(i:d7 y u)(h:∀ s',Inv X ag σ H s'->Q (.bool (!o.isSome)) s'):
  dM (model X.prog X.w) A (compareOp .NotIn u (.ref a)) Q E s:=by
 rcases g with⟨kvs,k,e,d,l⟩|⟨kvs,k,b,e,d,j,l⟩
 ·subst d;obtain⟨z,f,vs,c,dd⟩:=sN I.hok e;refine wpAny_notIn_of (oN i) f dd.mapOf ?_;rw[<- (c.val k).isSome_eq,<- l];exact h _ (I.tok _)
 ·subst d;cases(show u=Value.ref b from i);obtain⟨z,f,xs,c,dd⟩:=sL I.hok e;refine wpAny_notIn_heap (tupleKind_room_in1 m) (m4 I.hok j) f dd ?_;have q:=(c.val k).isSome_eq;rw[bg]at q;rw[<- q,<- l];exact h _ (I.tok _)
theorem kG{h':dN}{t':Nat}{c:HO}(I:Inv X ag σ H s)(mu:Mut (H a))(hs:Heap.SameBut a s.heap h')(he:∃ q,h'.get? a=some q)(new:eN X.prog X.w (upd H a c) h' a c):
  Inv X ag σ (upd H a c) {s with heap:=h',toks:=t'}:=
 I.write (x:=a) (e:=a) mu (.inl O) (λb q d z=>(hs.2 b d).trans z) he new
theorem Aw{P:dF}{w:dH}{H':Hp}{h':dN}{kvs:List (Key×V)}{vs:List (Key×dB)}(z:kvs.length<=dL)(hd:(a == sysModules)=false)(b:KV kvs vs)(dd:h'.DictOf (eW P w) a vs):
  eN P w H' h' a (.dK kvs):=⟨z,hd,vs,b,dd⟩
theorem xn{H':Hp}{Q:Unit->dD->Prop}(D:A.units+1<cLine)(I:Inv X ag σ H s)(g:xI H a y v H')(B:d7 y u)(C:d7 v r)(h:∀ s',Inv X ag σ H' s'->Q () s'):
  dM (model X.prog X.w) A (setItem (.ref a) u r) Q E s:=by
 rcases g with⟨kvs,k,e,m,l,o⟩|⟨kvs,k,b,e,m,w,l,o⟩
 ·subst m o;obtain⟨z,n,vs,d,dd⟩:=vZ I.hok e;have p:vs.length<=dL:=by rw[<- d.length];exact z
  have j:(ic kvs k v).length<=dL:=by have:=iW kvs k v;lia
  refine wpAny_setItem_pairs (hsz:=p) (oN B) dd λh' f t=>h _ ?_;have F:∃q,h'.get? a=Z q:=let ⟨q,_,_,i,_⟩:=f;⟨q,i⟩
  exact kG I (by rw[e];exact True.intro) t F (Aw j n (d.put k C) f)
 ·subst m o;cases(show u=Value.ref b from B);obtain⟨z,n,xs,d,dd⟩:=Hh I.hok e;have p:xs.length<=dL:=by rw[<- Paired.length d];exact z
  have j:(ic kvs k v).length<=dL:=by have:=iW kvs k v;lia
  refine wpAny_setItem_heap (hsz:=p) (tupleKind_room_in1 D) (m4 I.hok w) dd λh' f t=>h _ ?_;obtain⟨q,es,ep,i,h2,am,G,_,K⟩:=f;refine kG I (by rw[e];exact True.intro) t ⟨q,i⟩ ⟨j,n,_,(d.put k w C).keeps λc ys x=>?_,q,es,ep,i,h2,am,G,K⟩;rw[dY (GE x e (λz=>nomatch z))];exact x
end
section
variable{X:Cx}{ag:List (dE×Obj)}{σ:St}{H:Hp}{s:dD}{a:dE}{kvs:List (Key×V)}{k:Key}{u:dB}{A:dG}{E:dB->dD->Prop}
end
theorem sP{X:Cx}{ag:List (dE×Obj)}{σ:St}{H:Hp}{s:dD}{a:dE}{y:V}{o:Option V}(I:Inv X ag σ H s)(g:n3 H a y o):s.TypeIs (.ref a) "dict":=by
 rcases g with⟨kvs,k,e,_,_⟩|⟨kvs,k,b,e,_,_,_⟩
 ·obtain⟨_,_,vs,_,dd⟩:=sN I.hok e;exact dd.typeIs
 ·obtain⟨_,_,xs,_,dd⟩:=sL I.hok e;exact dd.typeIs
section
variable{X:Cx}{o i e value:Expr}{pos pos' tpos:Pos}{td ty tv:TE}
end
theorem sO{P:dF}{w:dH}{H:Hp}(h:dN)(hb:sysModules<h.objs.size):eN P w H (h.push {cls:=.type "dict",data:=.dict #[]}) h.objs.size (.dK []):=
 ⟨bi _,beq_eq_false_iff_ne.mpr (Ne.symm (nN1 hb)),[],.nil,Heap.DictOf.new h⟩
noncomputable def DC:TE:=λ_ H Q=>∀p,H p=Y->Q (.ref p) (upd H p (.dK []))
section
variable{X:Cx}{pos:Pos}
theorem y2:PE X (.Dict [] [] pos) DC:=λag s σ H Q I h=>
 wpAny_Dict_empty ⟨.ref s.heap.objs.size,_,I.laid (a:=s.heap.objs.size) (o:=.dK []) (t':=s.toks) (λ_ _ q=>hP1 _ q) (nR1 _) (sO s.heap I.big),O,h _ (I.hok.fresh (nR1 _))⟩
end
noncomputable def pK:List (TE×TE)->St->Hp->(List (V×V)->Hp->Prop)->Prop
 |[],_,H,Q=>Q [] H
 |(tk,tv)::r,σ,H,Q=>tk σ H λx H1=>tv σ H1 λy H2=>pK r σ H2 λps H3=>Q ((x,y)::ps) H3
abbrev VV:List (V×V)->List (dB×dB)->Prop:=Paired λp q=>d7 p.1 q.1/\d7 p.2 q.2
noncomputable def HB(X:Cx)(pos:Pos)(keys:List (Option Expr))(values:List Expr)(trs:List (TE×TE)):Prop:=
 ∀(ag:List (dE×Obj)) (s:dD) (σ:St) (H:Hp) (Q:List (V×V)->Hp->Prop),Inv X ag σ H s->pK trs σ H Q ->
  dM (model X.prog X.w) X.A (evalPairs (pairTrees keys values X.env pos)) (λvs s'=>∃ps H',Inv X ag σ H' s'/\VV ps vs/\Q ps H') X.xe s
theorem Bq{X:Cx}{pos:Pos}:HB X pos [] [] []:=λag s σ H Q I h=>pairTrees_nil_walk ⟨[],H,I,.nil,h⟩
theorem yS{X:Cx}{pos:Pos}{k v:Expr}{ks:List (Option Expr)}{vs:List Expr}{tk tv:TE}{a:List (TE×TE)}(hk:PE X k tk)(hv:PE X v tv)(hr:HB X pos ks vs a):
  HB X pos (Z k::ks) (v::vs) ((tk,tv)::a):=λag s σ H Q I h=>
 pairTrees_cons_walk (fg (hk ag s σ H _ I h) λu c ⟨x,H1,n,m,i⟩=>fg (hv ag c σ H1 _ n i) λp d ⟨y,H2,f,j,l⟩=>
  fg (hr ag d σ H2 _ f l) λws q ⟨ps,g,e,b,o⟩=>⟨(x,y)::ps,g,e,.cons ⟨m,j⟩ b,o⟩)
noncomputable def iz(kvs more:List (Key×V)):List (Key×V):=more.foldl (λacc kv=>ic acc kv.1 kv.2) kvs
theorem KV.merge:∀{more:List (Key×V)} {rs:List (Key×dB)} {kvs:List (Key×V)} {vs:List (Key×dB)},KV more rs->KV kvs vs->KV (iz kvs more) (merged vs rs):=by
 intro more rs kvs vs r;unfold KV at r
 induction r generalizing kvs vs with
 |nil=>intro q;exact q
 | @cons p q ps b h t ih=>
  intro a;have e:KV (ic kvs p.1 p.2) (stored vs q.1 q.2):=by
   have:=a.put p.1 h.2;rw[<- h.1];exact this
  exact ih e
theorem jz:∀(more kvs:List (Key×V)),(iz kvs more).length<=kvs.length+more.length
 |[],kvs=>by show kvs.length<=kvs.length+0;lia
 |p::r,kvs=>by
  have h1:=jz r (ic kvs p.1 p.2);have h2:=iW kvs p.1 p.2;show(iz (ic kvs p.1 p.2) r).length<=_;rw[lC1];lia
theorem nA{P:dF}{w:dH}:∀{kvs:List (Key×V)} {ws:List (dB×dB)},VV (kvs.map λd=>(kV d.1,d.2)) ws -> ∃rs,Carries (eW P w) ws rs/\KV kvs rs
 |[],_,r=>by rw[aZ]at r;cases r;exact⟨[],True.intro,.nil⟩
 |p::kvs,_,r=>by
  rw[mP1]at r;cases r with
  | @cons a b as bs h t=>
   obtain⟨rs,c,q⟩:=nA (P:=P) (w:=w) t;obtain⟨b1,b2⟩:=b;exact⟨(p.1,b2)::rs,⟨oN h.1,O,c⟩,.cons ⟨O,h.2⟩ q⟩
noncomputable def Gb(trs:List (TE×TE)):TE:=fun σ H Q=>∀p,H p=Y->pK trs σ (upd H p (.dK [])) λps H2=>H2 p=Z (.dK []) /\ ∃kvs:List (Key×V),ps=kvs.map (λkv=>(kV kv.1,kv.2))/\kvs.length<=15/\Q (.ref p) (upd H2 p (.dK (iz [] kvs)))
theorem Bz{X:Cx}{pos:Pos}{keys:List (Option Expr)}{values:List Expr}{d:List (TE×TE)}(h:HB X pos keys values d)(b:keys.all (·.isSome)=M)(n:keys.length=values.length)(h0:keys≠[])(g:keys.length<=15):PE X (.Dict keys values pos) (Gb d):=by
 intro ag s σ H Q I q;have k:=I.hok.fresh (nR1 s.heap.objs.size);have x:=I.laid (a:=s.heap.objs.size) (o:=.dK []) (h':=s.heap.push {cls:=.type "dict",data:=.dict #[]}) (t':=s.toks) (λ_ _ q=>hP1 _ q) (nR1 _) (sO s.heap I.big);refine wpAny_Dict_walk (knd:=eW X.prog X.w) b n h0 g (fg (h ag _ σ _ _ x (q _ k)) λws A ⟨ps,H2,j,i,e,kvs,ep,y,r⟩=>?_);subst ep;obtain⟨rs,c,rk⟩:=nA (P:=X.prog) (w:=X.w) i;obtain⟨z,l,t,m,dd⟩:=vZ j.hok e;cases m;refine⟨rs,c,dd,λh' f v=>⟨.ref s.heap.objs.size,_,?_,O,r⟩⟩;have u:(iz [] kvs).length<=dL:=by
  have h1:=jz kvs [];rw[bf]at h1;rw[sizeLine_eq];lia
 have p:∃q,h'.get? s.heap.objs.size=Z q:=let ⟨q,_,_,hq,_⟩:=f;⟨q,hq⟩
 exact kG j (by rw[e];exact True.intro) v p (Aw u l (rk.merge .nil) f)
structure M2 (X:Cx)(o:Expr)(m:Str)(apos:Pos)(e f:Expr)(cpos:Pos):Prop where
 base:attributeBase o m X.env (eval o X.env)=eval o X.env
 few:((backTo cpos (dJ [e,f] X.env)).all (λx=> !x.1)&&(backToKw cpos (keywordEach [] X.env)).all (λx=>x.1.isSome)
  && decide (([e,f]:List Expr).length+([]:List Keyword).length+(if([]:List Keyword).isEmpty then 0 else 1)<30))=true
 line:(apos.endLine == cpos.line)=true
 trees:backTo cpos (dJ [e,f] X.env)=[(false,eval e X.env),(false,eval f X.env)]
section
variable{X:Cx}{ag:List (dE×Obj)}{σ:St}{H:Hp}{s:dD}{a:dE}{y d:V}{u r:dB}{o:Option V}{A:dG}{E:dB->dD->Prop}
end
section
variable{X:Cx}{o e f:Expr}{apos cpos:Pos}{td ty tx:TE}
end
section
variable{X:Cx}{ag:List (dE×Obj)}{σ:St}{H:Hp}{s:dD}{a:dE}{kvs:List (Key×V)}{A:dG}{E:dB->dD->Prop}
end
section
variable{X:Cx}{ag:List (dE×Obj)}{σ:St}{H:Hp}{s:dD}{a:dE}{y:V}{u:dB}{A:dG}{E:dB->dD->Prop}
end
end L2
namespace Mi
open PySem PySem.Spec PyProof.Rows L2
inductive TK where
 |non|int (i:Int)|tup (xs:List TK)
instance:DecidableEq TK:=λ_ _=>Classical.propDecidable _
mutual
noncomputable def TK.hash:TK->Int
 | .non=>0xFCA86420
 | .int i=>hashInt i
 | .tup xs=>reduceHash (Builtin.Tuple.tupleHashOf (TK.hashes xs))
noncomputable def TK.hashes:List TK->List Int
 |[]=>[]
 |x::xs=>TK.hash x::TK.hashes xs
end
mutual
noncomputable def TK.draws:TK->Nat
 | .non=>1
 | .int _=>1
 | .tup xs=>TK.drawsAll xs+1
noncomputable def TK.drawsAll:List TK->Nat
 |[]=>0
 |x::xs=>TK.draws x+TK.drawsAll xs
end
mutual
noncomputable def TK.dep:TK->Nat
 | .non=>0
 | .int _=>0
 | .tup xs=>TK.depAll xs+1
noncomputable def TK.depAll:List TK->Nat
 |[]=>0
 |x::xs=>max (TK.dep x) (TK.depAll xs)
end
theorem TK.dep_mem:∀{xs:List TK} {x:TK},x∈xs->x.dep<=TK.depAll xs
 |y::ys,x,h=>by
  rw[TK.depAll];rcases aF.mp h with e|e
  ·rw[e];exact Nat.le_max_left _ _
  ·exact aC (TK.dep_mem e) (Nat.le_max_right _ _)
theorem TK.hashes_app:∀a b:List TK,TK.hashes (a++b)=TK.hashes a++TK.hashes b
 |[],_=>rfl
 |x::xs,b=>by rw[bj,TK.hashes,TK.hashes,TK.hashes_app xs b];rfl
theorem TK.draws_app:∀a b:List TK,TK.drawsAll (a++b)=TK.drawsAll a+TK.drawsAll b
 |[],_=>by simp[TK.drawsAll]
 |x::xs,b=>by rw[bj,TK.drawsAll,TK.drawsAll,TK.draws_app xs b,bm]
noncomputable def uN(xs:Array Nat):Prop:=xs.toList.Pairwise (· < ·)
noncomputable def CZ(m:Nat):Nat->Nat->Nat->List Nat
 |0,_,_=>[]
 |n+1,i,b=>List.range' i (SetTable.runEnd m i-i+1)++CZ m n (SetTable.leap m i b).1 (SetTable.leap m i b).2
noncomputable def JL(m:Nat):Prop:=m=7\/m=31\/m=127
noncomputable def Iv(m:Nat)(h:Int):List Nat:=CZ m (SetTable.turns m) (SetTable.bits h%(m+1)) (SetTable.bits h)
noncomputable def Ix(m:Nat)(occ:List Nat)(h:Int)(j:Nat):Prop:=∃pre post,Iv m h=pre++j::post /\ ∀y∈pre,y∈occ
structure Iw (es:Array (Int×dB))(t:SetTable):Prop where
 mks:JL t.mask
 up:uN t.place
 du:t.dummies = #[]
 sz:t.place.size=es.size
 le:∀j∈t.place.toList,j<=t.mask
 fl:es.size<=t.mask
 rc:∀z∈t.place.toList.zip es.toList,Ix t.mask t.place.toList z.2.1 z.1
noncomputable def stO(es:Array (Int×dB))(ep:Nat)(t:SetTable):Obj:={cls:=.type "set",dict:=Y,data:=.set es ep t,slots:= #[]}
noncomputable def HA(a:dE)(xs:List (TK×dE×dB))(h:dN):Prop:=(xs.map (·.1)).Nodup /\ ∃es ep t,h.get? a=Z (stO es ep t)/\Iw es t/\t.tooFull=J/\(∀e∈es.toList,∃z∈xs,e=(z.1.hash,.ref z.2.1))/\(∀z∈xs,(z.1.hash,Value.ref z.2.1)∈es.toList)/\es.size=xs.length
inductive D where
 |non|bl (b:Bool)|int (i:Int)|str (x:Str)|tup (xs:List D)|rol (xs:List D)|ref (n:Nat)|fn (x:Str)
inductive Ob where
 |lst (xs:List D)|dct (kvs:List (Key×D))|dcT (kvs:List (TK×D))|iset (xs:List Int)|dcF (kvs:List (TK×D))|tst (ks:List TK)
abbrev Sto:=List Ob
abbrev Ev:=List (Option D)
abbrev FE:=Ev->Sto->Option (D×Sto)
abbrev FT:=Ev->Sto->Option (Bool×Sto)
abbrev FA:=Ev->Sto->Option (List D×Sto)
abbrev FN:=List D->Sto->Option (D×Sto)
inductive Fl where
 |nx|rt (d:D)|bk|ct
abbrev FS:=Ev->Sto->Option (Fl×Ev×Sto)
noncomputable def RoL(K:Fg1)(H:Hp)(a:dE)(xs:List V):Prop:=(∃o,H a=Z (.frz o (.lst xs))) \/
 ∃(o:Obj) (its:Array dB) (n:Nat),K.lookup a=Z o/\o.cls = .type "list"/\o.dict=Y/\o.data = .seq its n/\its.size<=dL/\ei xs its.toList
theorem RoL.sq{K:Fg1}{H:Hp}{a:dE}{xs:List V}(h:RoL K H a xs):lU K H a xs:=h.elim (λ⟨o,q⟩=>.inl (.inr ⟨o,q⟩)) .inr
mutual
inductive eJ (K:Fg1)(H:Hp)(mu:List dE):D->V->Prop
 |non:eJ K H mu .non .non
 |bl (b:Bool):eJ K H mu (.bl b) (.bl b)
 |int (i:Int):eJ K H mu (.int i) (.int i)
 |str (x:Str):eJ K H mu (.str x) (.str x)
 |tup {ds:List D} {vs:List V} {a:dE} (h:jm K H a vs) (r:d0 K H mu ds vs):eJ K H mu (.tup ds) (.ref a)
 |rol {ds:List D} {vs:List V} {a:dE} (h:RoL K H a vs) (r:d0 K H mu ds vs):eJ K H mu (.rol ds) (.ref a)
 |ref {n:Nat} {a:dE} (h:mu[n]?=some a):eJ K H mu (.ref n) (.ref a)
 |fn {x:Str} {a:dE} (h:wN1 K dI x=some (some (.ref a))):eJ K H mu (.fn x) (.ref a)
inductive d0 (K:Fg1)(H:Hp)(mu:List dE):List D->List V->Prop
 |nil:d0 K H mu [] []
 |cons {d:D} {v:V} {ds:List D} {vs:List V} (r:eJ K H mu d v) (t:d0 K H mu ds vs):d0 K H mu (d::ds) (v::vs)
end
structure Ext (mu mu':List dE)(H H':Hp):Prop where
 pre:mu <+: mu'
 old:∀a o,H a=some o->a∉mu->H' a=some o
 tup:∀a xs,Rd H a (.tup xs)->Rd H' a (.tup xs)
 frz:∀a o u,H a=some (.frz o u)->H' a=some (.frz o u)
 new:∀a∈mu',a∈mu\/H a=none
theorem Ext.refl(mu:List dE)(H:Hp):Ext mu mu H H:=⟨bn,λ_ _ h _=>h,λ_ _ h=>h,λ_ _ _ h=>h,λ_ h=>.inl h⟩
theorem Ext.trans{mu m1 m2:List dE}{H H1 H2:Hp}(a:Ext mu m1 H H1)(b:Ext m1 m2 H1 H2):Ext mu m2 H H2 where
 pre:=a.pre.trans b.pre
 old:=λc o h n=>b.old c o (a.old c o h n) λz=>by
  rcases a.new c z with q|q
  ·exact n q
  ·rw[h]at q;cases q
 tup:=λc xs h=>b.tup c xs (a.tup c xs h)
 frz:=λc o u h=>b.frz c o u (a.frz c o u h)
 new:=λc h=>by
  rcases b.new c h with q|q
  ·exact a.new c q
  ·by_cases z:c∈mu
   ·exact .inl z
   ·right;cases e:H c with
    |none=>rfl
    |some o=>rw[a.old c o e z]at q;cases q
theorem Ext.at{mu mu':List dE}{H H':Hp}(e:Ext mu mu' H H'){n:Nat}{a:dE}(h:mu[n]?=Z a):mu'[n]?=Z a:=by
 obtain⟨t,rfl⟩:=e.pre;have b:n<mu.length:=(gE1.mp h).1;rw[gL1 b];exact h
theorem Ext.back{mu mu':List dE}{H H':Hp}(e:Ext mu mu' H H'):Ext mu mu H H':=⟨bn,e.old,e.tup,e.frz,λ_ h=>.inl h⟩
structure q0 (mu mu':List dE)(H H':Hp):Prop where
 pre:mu <+: mu'
 tup:∀a xs,Rd H a (.tup xs)->Rd H' a (.tup xs)
 frz:∀a o u,H a=some (.frz o u)->H' a=some (.frz o u)
theorem Ext.w{mu mu':List dE}{H H':Hp}(e:Ext mu mu' H H'):q0 mu mu' H H':=⟨e.pre,e.tup,e.frz⟩
theorem q0.trans{mu m1 m2:List dE}{H H1 H2:Hp}(a:q0 mu m1 H H1)(b:q0 m1 m2 H1 H2):q0 mu m2 H H2:=⟨a.pre.trans b.pre,λc xs h=>b.tup c xs (a.tup c xs h),λc o u h=>b.frz c o u (a.frz c o u h)⟩
theorem q0.at{mu mu':List dE}{H H':Hp}(e:q0 mu mu' H H'){n:Nat}{a:dE}(h:mu[n]?=Z a):mu'[n]?=Z a:=by
 obtain⟨t,rfl⟩:=e.pre;have b:n<mu.length:=(gE1.mp h).1;rw[gL1 b];exact h
structure xP (mu mu':List dE)(H H':Hp):Prop where
 pre:mu <+: mu'
 tup:∀a xs,Rd H a (.tup xs)->Rd H' a (.tup xs)
 frl:∀a o xs,H a=some (.frz o (.lst xs))->H' a=some (.frz o (.lst xs))
theorem q0.v{mu mu':List dE}{H H':Hp}(e:q0 mu mu' H H'):xP mu mu' H H':=⟨e.pre,e.tup,λa o xs h=>e.frz a o _ h⟩
theorem Ext.v{mu mu':List dE}{H H':Hp}(e:Ext mu mu' H H'):xP mu mu' H H':=e.w.v
theorem xP.at{mu mu':List dE}{H H':Hp}(e:xP mu mu' H H'){n:Nat}{a:dE}(h:mu[n]?=Z a):mu'[n]?=Z a:=by
 obtain⟨t,rfl⟩:=e.pre;have b:n<mu.length:=(gE1.mp h).1;rw[gL1 b];exact h
theorem jm.exv{K:Fg1}{mu mu':List dE}{H H':Hp}{a:dE}{vs:List V}(e:xP mu mu' H H')(h:jm K H a vs):jm K H' a vs:=by
 rcases h with h|h
 ·exact .inl (e.tup a vs h)
 ·exact .inr h
theorem RoL.exv{K:Fg1}{mu mu':List dE}{H H':Hp}{a:dE}{vs:List V}(e:xP mu mu' H H')(h:RoL K H a vs):RoL K H' a vs:=by
 rcases h with⟨o,h⟩|h
 ·exact .inl ⟨o,e.frl a o _ h⟩
 ·exact .inr h
theorem eJ.exv{K:Fg1}{mu mu':List dE}{H H':Hp}(e:xP mu mu' H H'):∀ {d:D} {v:V},eJ K H mu d v->eJ K H' mu' d v:=fun h=>h.rec (motive_1:=fun d v _=>eJ K H' mu' d v) (motive_2:=fun ds vs _=>d0 K H' mu' ds vs)
  .non .bl .int .str (λh _ ih=>.tup (jm.exv e h) ih) (λh _ ih=>.rol (RoL.exv e h) ih) (λh=>.ref (e.at h)) (λh=>.fn h) .nil (λ_ _ a b=>.cons a b)
theorem d0.ind{K:Fg1}{mu:List dE}{H:Hp}{P:(ds:List D)->(vs:List V)->d0 K H mu ds vs->Prop}(hn:P [] [] .nil)(hc:∀{d v ds vs} (r:eJ K H mu d v) (t:d0 K H mu ds vs),P ds vs t->P (d::ds) (v::vs) (.cons r t)){ds:List D}{vs:List V}(h:d0 K H mu ds vs):P ds vs h:=
 h.rec (motive_1:=λ_ _ _=>True) (motive_2:=P) trivial (λ_=>trivial) (λ_=>trivial) (λ_=>trivial) (λ_ _ _=>trivial) (λ_ _ _=>trivial) (λ_=>trivial) (λ_=>trivial) hn (λr t _ ih=>hc r t ih)
theorem d0.exv{K:Fg1}{mu mu':List dE}{H H':Hp}(e:xP mu mu' H H'):∀{ds:List D} {vs:List V},d0 K H mu ds vs->d0 K H' mu' ds vs:=λh=>h.ind (P:=λds vs _=>d0 K H' mu' ds vs) .nil λr _ ih=>.cons (eJ.exv e r) ih
section
variable{K:Fg1}{mu mu':List dE}{H H':Hp}{a:dE}{vs:List V}
theorem eJ.exw(e:q0 mu mu' H H'){d:D}{v:V}(h:eJ K H mu d v):eJ K H' mu' d v:=h.exv e.v
theorem d0.exw(e:q0 mu mu' H H'){ds:List D}(h:d0 K H mu ds vs):d0 K H' mu' ds vs:=h.exv e.v
theorem eJ.ext(e:Ext mu mu' H H'){d:D}{v:V}(h:eJ K H mu d v):eJ K H' mu' d v:=h.exv e.v
theorem d0.ext(e:Ext mu mu' H H'){ds:List D}(h:d0 K H mu ds vs):d0 K H' mu' ds vs:=h.exv e.v
end
section
variable{K:Fg1}{H:Hp}{mu:List dE}
theorem d0.length:∀{ds:List D} {vs:List V},d0 K H mu ds vs->ds.length=vs.length:=λh=>h.ind (P:=λds vs _=>ds.length=vs.length) O λ_ _ ih=>congrArg (· + 1) ih
theorem d0.get:∀{ds:List D} {vs:List V} {i:Nat} {d:D},d0 K H mu ds vs->ds[i]?=Z d -> ∃v,vs[i]?=Z v/\eJ K H mu d v:=by
 intro ds vs i d h e
 induction h using d0.ind generalizing i with
 |hn=>cases e
 |hc r t ih=>cases i with
  |zero=>cases e;exact⟨_,O,r⟩
  |succ i=>exact ih (i:=i) e
theorem d0.getV:∀{ds:List D} {vs:List V} {i:Nat} {v:V},d0 K H mu ds vs->vs[i]?=Z v -> ∃d,ds[i]?=Z d/\eJ K H mu d v:=by
 intro ds vs i d h e
 induction h using d0.ind generalizing i with
 |hn=>cases e
 |hc r t ih=>cases i with
  |zero=>cases e;exact⟨_,O,r⟩
  |succ i=>exact ih (i:=i) e
theorem d0.append:∀{ds es:List D} {vs ws:List V},d0 K H mu ds vs->d0 K H mu es ws->d0 K H mu (ds++es) (vs++ws):=λh s=>h.ind (P:=λds vs _=>d0 K H mu (ds++_) (vs++_)) s λr _ ih=>.cons r ih
theorem d0.take:∀{ds:List D} {vs:List V} (n:Nat),d0 K H mu ds vs->d0 K H mu (ds.take n) (vs.take n):=by
 intro ds vs n h
 induction h using d0.ind generalizing n with
 |hn=>rw[av,av];exact .nil
 |hc r t ih=>cases n with
  |zero=>exact .nil
  |succ n=>exact .cons r (ih n)
theorem d0.drop:∀{ds:List D} {vs:List V} (n:Nat),d0 K H mu ds vs->d0 K H mu (ds.drop n) (vs.drop n):=by
 intro ds vs n h
 induction h using d0.ind generalizing n with
 |hn=>rw[aw,aw];exact .nil
 |hc r t ih=>cases n with
  |zero=>exact .cons r t
  |succ n=>exact ih n
theorem d0.set{d:D}{v:V}(r:eJ K H mu d v):∀{ds:List D} {vs:List V} (i:Nat),d0 K H mu ds vs->d0 K H mu (ds.set i d) (vs.set i v):=by
 intro ds vs i h
 induction h using d0.ind generalizing i with
 |hn=>exact .nil
 |hc q t ih=>cases i with
  |zero=>exact .cons r t
  |succ i=>exact .cons q (ih i)
theorem d0.eraseIdx:∀{ds:List D} {vs:List V} (i:Nat),d0 K H mu ds vs->d0 K H mu (ds.eraseIdx i) (vs.eraseIdx i):=by
 intro ds vs i h
 induction h using d0.ind generalizing i with
 |hn=>exact .nil
 |hc q t ih=>cases i with
  |zero=>exact t
  |succ i=>exact .cons q (ih i)
theorem d0.reverse:∀{ds:List D} {vs:List V},d0 K H mu ds vs->d0 K H mu ds.reverse vs.reverse:=by
 intro ds vs h
 induction h using d0.ind with
 |hn=>exact .nil
 |hc r t ih=>rw[bo,bo];exact d0.append ih (.cons r .nil)
end
noncomputable def KR{κ:Type}(K:Fg1)(H:Hp)(mu:List dE):List (κ×D)->List (κ×V)->Prop:=Paired λp q=>p.1=q.1/\eJ K H mu p.2 q.2
mutual
noncomputable def tkD:TK->D
 | .non=>.non
 | .int i=>.int i
 | .tup xs=>.tup (hE xs)
noncomputable def hE:List TK->List D
 |[]=>[]
 |x::xs=>tkD x::hE xs
end
noncomputable def gb(a:dE)(xs:List (TK×dE×dB))(h:dN):Prop:=(a == sysModules)=J/\(xs.map (·.1)).Nodup /\ ∃o es ep,h.get? a=Z o/\o.ExactDict/\o.data = .dict es ep/\es.toList=xs.map λx=>(⟨x.1.hash,.ref x.2.1,x.2.2⟩:DictEntry)
noncomputable def wp(a:dE)(xs:List (TK×dE×dB))(o:Obj):Prop:=(a == sysModules)=J/\(xs.map (·.1)).Nodup/\o.ExactDict /\ ∃es ep,o.data = .dict es ep/\es.toList=xs.map λx=>(⟨x.1.hash,.ref x.2.1,x.2.2⟩:DictEntry)
noncomputable def KT(K:Fg1)(H:Hp)(mu:List dE):List (TK×D)->List (TK×dE×dB)->Prop:=Paired λp q=>p.1=q.1/\p.1.dep<=8/\eJ K H mu (tkD p.1) (.ref q.2.1) /\ ∃v,d7 v q.2.2/\eJ K H mu p.2 v
noncomputable def jI(K:Fg1)(H:Hp)(mu:List dE)(a:dE):Ob->Prop
 | .lst ds=>∃vs,H a=Z (.lst vs)/\d0 K H mu ds vs
 | .dct kvs=>∃ws,H a=Z (.dK ws)/\KR K H mu kvs ws
 | .dcT kvs=>∃xs,H a=Z (.ext (gb a xs))/\KT K H mu kvs xs/\xs.length<=dL
 | .iset xs=>H a=Z (.set (λk=>xs.contains k) xs.length)/\xs.Nodup
 | .dcF kvs=>∃xs,(∃o u,H a=Z (.frz o u)/\wp a xs o)/\KT K H mu kvs xs/\xs.length<=dL
 | .tst ks=>∃xs,H a=Z (.ext (HA a xs))/\KT K H mu (ks.map λk=>(k,D.non)) xs
structure Sim (K:Fg1)(H:Hp)(mu:List dE)(S:Sto):Prop where
 len:mu.length=S.length
 nd:mu.Nodup
 ob:∀(n:Nat) (o:Ob) (a:dE),S[n]?=some o->mu[n]?=some a->jI K H mu a o
structure fJ (K:Fg1)(H:Hp)(mu:List dE)(r:Ev)(σ:L2.St):Prop where
 len:r.length=σ.length
 val:∀(i:Nat) (d:D),r[i]?=some (some d) -> ∃v,σ[i]?=some (some v)/\eJ K H mu d v
theorem fJ.ext{K:Fg1}{mu mu':List dE}{H H':Hp}{r:Ev}{σ:L2.St}(e:Ext mu mu' H H')(h:fJ K H mu r σ):fJ K H' mu' r σ:=⟨h.len,λi d q=>by
 obtain⟨v,a,b⟩:=h.val i d q;exact⟨v,a,b.ext e⟩⟩
theorem KR.ext{κ:Type}{K:Fg1}{mu mu':List dE}{H H':Hp}{ks:List (κ×D)}{ws:List (κ×V)}(e:Ext mu mu' H H')(h:KR K H mu ks ws):KR K H' mu' ks ws:=
 Paired.mapP h λ_ _ z=>⟨z.1,z.2.ext e⟩
theorem KT.ext{K:Fg1}{mu mu':List dE}{H H':Hp}{ks:List (TK×D)}{ws:List (TK×dE×dB)}(e:Ext mu mu' H H')(h:KT K H mu ks ws):KT K H' mu' ks ws:=
 Paired.mapP h λ_ _ ⟨z,d,k,v,a,r⟩=>⟨z,d,k.ext e,v,a,r.ext e⟩
theorem Sim.nil{K:Fg1}{H:Hp}:Sim K H [] []:=⟨O,bq,λn o a h=>by simp at h⟩
theorem Sim.here{K:Fg1}{H:Hp}{mu:List dE}{S:Sto}(s:Sim K H mu S){a:dE}(h:a∈mu):∃o,H a=Z o:=by
 obtain⟨n,b⟩:=br h;have c:n<S.length:=by rw[<- s.len];exact(gE1.mp b).1
 have q:=s.ob n _ a (gG1 c) b;cases e:S[n]with
 |lst ds=>rw[e]at q;obtain⟨vs,z,_⟩:=q;exact⟨_,z⟩
 |dct ks=>rw[e]at q;obtain⟨vs,z,_⟩:=q;exact⟨_,z⟩
 |dcT ks=>rw[e]at q;obtain⟨vs,z,_⟩:=q;exact⟨_,z⟩
 |iset xs=>rw[e]at q;exact⟨_,q.1⟩
 |dcF ks=>rw[e]at q;obtain⟨vs,⟨_,_,z,_⟩,_⟩:=q;exact⟨_,z⟩
 |tst ks=>rw[e]at q;obtain⟨vs,z,_⟩:=q;exact⟨_,z⟩
noncomputable def n4(K:Fg1)(mu:List dE)(H:Hp)(d:D)(S':Sto)(Q:VK):Prop:=∀v H' mu',Ext mu mu' H H'->eJ K H' mu' d v->Sim K H' mu' S'->Q v H'
inductive tM (K:Fg1)(m:FE)(σ:L2.St)(H:Hp)(Q:VK):Prop
 |mk (r:Ev) (mu:List dE) (S:Sto) (d:D) (S':Sto) (he:fJ K H mu r σ) (hs:Sim K H mu S) (hm:m r S=some (d,S')) (hc:n4 K mu H d S' Q)
inductive yp (K:Fg1)(m:FT)(σ:L2.St)(H:Hp)(Q:Bool->Hp->Prop):Prop
 |mk (r:Ev) (mu:List dE) (S:Sto) (b:Bool) (S':Sto) (he:fJ K H mu r σ) (hs:Sim K H mu S) (hm:m r S=some (b,S')) (hc:∀H' mu',Ext mu mu' H H'->Sim K H' mu' S'->Q b H')
inductive Jg (K:Fg1)(m:FA)(σ:L2.St)(H:Hp)(Q:List V->Hp->Prop):Prop
 |mk (r:Ev) (mu:List dE) (S:Sto) (ds:List D) (S':Sto) (he:fJ K H mu r σ) (hs:Sim K H mu S) (hm:m r S=some (ds,S')) (hc:∀vs H' mu',Ext mu mu' H H'->d0 K H' mu' ds vs->Sim K H' mu' S'->Q vs H')
noncomputable def Ij(K:Fg1)(mu:List dE)(H:Hp)(r':Ev)(S':Sto)(E:ju)(f:Fl):Prop:=match f with
 | .nx=>∀ σ' H' mu',Ext mu mu' H H'->fJ K H' mu' r' σ'->Sim K H' mu' S'->E.nx σ' H'
 | .bk=>∀ σ' H' mu',Ext mu mu' H H'->fJ K H' mu' r' σ'->Sim K H' mu' S'->E.bk σ' H'
 | .ct=>∀ σ' H' mu',Ext mu mu' H H'->fJ K H' mu' r' σ'->Sim K H' mu' S'->E.ct σ' H'
 | .rt d=>n4 K mu H d S' E.rt
inductive xK (K:Fg1)(m:FS)(E:ju)(σ:L2.St)(H:Hp):Prop
 |mk (r:Ev) (mu:List dE) (S:Sto) (f:Fl) (r':Ev) (S':Sto) (he:fJ K H mu r σ) (hs:Sim K H mu S) (hm:m r S=some (f,r',S')) (hc:Ij K mu H r' S' E f)
inductive rN (K:Fg1)(f:FN)(vs:List V)(H:Hp)(Q:VK):Prop
 |mk (mu:List dE) (S:Sto) (ds:List D) (d:D) (S':Sto) (hr:d0 K H mu ds vs) (hs:Sim K H mu S) (hm:f ds S=some (d,S')) (hc:n4 K mu H d S' Q)
abbrev ME(X:Cx)(e:Expr)(m:FE):Prop:=PE X e (tM X.K m)
abbrev MT(X:Cx)(e:Expr)(m:FT):Prop:=PT X e (yp X.K m)
abbrev MW(X:Cx)(e:Expr)(m:FT):Prop:=PW X e (yp X.K m)
abbrev MA(X:Cx)(es:List Expr)(m:FA):Prop:=PA X es (Jg X.K m)
abbrev MS(X:Cx)(st:dQ)(m:FS):Prop:=PS X st (xK X.K m)
abbrev AN(X:Cx)(st:List dQ)(m:FS):Prop:=tH X st (xK X.K m)
section
variable{X:Cx}{e:Expr}{es:List Expr}{st:dQ}{sts:List dQ}
theorem eU{t t':TE}(h:PE X e t)(i:∀ σ H Q,t' σ H Q->t σ H Q):PE X e t':=λag s σ H Q I q=>h ag s σ H Q I (i σ H Q q)
theorem ub{t t':TT}(h:PT X e t)(i:∀ σ H Q,t' σ H Q->t σ H Q):PT X e t':=λag s σ H Q I q=>h ag s σ H Q I (i σ H Q q)
theorem yM{t t':TT}(h:PW X e t)(i:∀ σ H Q,t' σ H Q->t σ H Q):PW X e t':=λa ag s σ H Q I q=>h a ag s σ H Q I (i σ H Q q)
theorem zb{t t':TA}(h:PA X es t)(i:∀ σ H Q,t' σ H Q->t σ H Q):PA X es t':=λpos ag s σ H Q I q=>h pos ag s σ H Q I (i σ H Q q)
theorem hH{t t':TS}(h:PS X st t)(i:∀E σ H,t' E σ H->t E σ H):PS X st t':=λag s σ H E I q=>h ag s σ H E I (i E σ H q)
theorem ve{t t':TS}(h:tH X sts t)(i:∀E σ H,t' E σ H->t E σ H):tH X sts t':=λag s σ H E I q=>h ag s σ H E I (i E σ H q)
end
noncomputable def mV (i:Nat):FE:=λr S=>match r[i]? with
 |some (some d)=>some (d,S)
 |_=>none
noncomputable def mC (d:D):FE:=λ_ S=>some (d,S)
section
variable{X:Cx}{pos:Pos}
theorem EL (i:Nat){x:Str}(hN:X.N[i]?=Z x)(hv:Vis X.env.scope x)(hd:(x == ("__debug__":Str))=J:=by decide)(hcd:(x == ("__classdict__":Str))=J:=by decide):ME X (.Name x pos) (mV i):=
 eU (yZ hN hv hd hcd) <| by
  rintro σ H Q ⟨r,mu,S,d,h,c,g,a,hc⟩;unfold mV at a;split at a
  ·rename_i j e;cases a;obtain⟨v,b,f⟩:=c.val i _ e;exact⟨v,b,hc v H mu (.refl _ _) f g⟩
  ·cases a
theorem zA{e:Expr}{v:V}(d:D)(h:PE X e (tC v))(hr:∀H mu,eJ X.K H mu d v):ME X e (mC d):=
 eU h <| by
  rintro σ H Q ⟨r,mu,S,f,c,g,b,a,hc⟩;cases a;exact hc v H mu (.refl _ _) (hr H mu) b
theorem ES{i:Int}{j}:ME X (.Constant (.int i) j pos) (mC (.int i)):=zA _ Ef λ_ _=>.int i
theorem GL{b:Bool}{j}:ME X (.Constant (.bool b) j pos) (mC (.bl b)):=zA _ Gv λ_ _=>.bl b
theorem EQ{j}:ME X (.Constant .none j pos) (mC .non):=zA _ Ed λ_ _=>.non
theorem EN{x:Str}{j}:ME X (.Constant (.str x) j pos) (mC (.str x)):=zA _ Ec λ_ _=>.str x
end
noncomputable def dU:FA:=λ_ S=>Z ([],S)
noncomputable def dS (m:FE)(n:FA):FA:=λr S=>(m r S).bind λp=>(n r p.2).bind λq=>some (p.1::q.1,q.2)
section
variable{X:Cx}{pos:Pos}{e:Expr}{es:List Expr}{m:FE}{n:FA}
theorem EU:MA X [] dU:=zb mR <| by
 rintro σ H Q ⟨r,mu,S,ds,c,d,b,a,hc⟩;cases a;exact hc [] H mu (.refl _ _) .nil b
theorem BZ(h:ME X e m)(ht:MA X es n)(hs:dJ (e::es) X.env=(J,eval e X.env)::dJ es X.env:=by rfl):MA X (e::es) (dS m n):=
 zb (j7 h ht hs) <| by
  rintro σ H Q ⟨r,mu,S,ds,s,f,hs,a,hc⟩;unfold dS at a;obtain⟨⟨d,i⟩,l,a⟩:=oB1.mp a;obtain⟨⟨b,t⟩,q,a⟩:=oB1.mp a;cases a;refine⟨r,mu,S,d,i,f,hs,l,λv H1 mu1 j o k=>?_⟩;refine⟨r,mu1,i,b,_,f.ext j,k,q,λvs H2 c g r2 p=>?_⟩;exact hc _ H2 c (j.trans g) (.cons (o.ext g) r2) p
end
noncomputable def m2 (f:FN)(a b:FE):FE:=λr S=>(a r S).bind λp=>(b r p.2).bind λq=>f [p.1,q.1] q.2
noncomputable def m1 (f:FN)(a:FE):FE:=λr S=>(a r S).bind λp=>f [p.1] p.2
noncomputable def mN (f:FN)(a:FA):FE:=λr S=>(a r S).bind λp=>f p.1 p.2
abbrev r2(K:Fg1)(f:FN):R2:=λx y H Q=>rN K f [x,y] H Q
section
variable{X:Cx}{K:Fg1}{f:FN}{a b:FE}{σ:L2.St}{H:Hp}{Q:VK}
theorem vA(h:tM K (m2 f a b) σ H Q):F6 (r2 K f) (tM K a) (tM K b) σ H Q:=by
 obtain⟨r,mu,S,d,z,i,x,c,hc⟩:=h;obtain⟨⟨m,n⟩,q,c⟩:=oB1.mp c;obtain⟨⟨k,l⟩,t,c⟩:=oB1.mp c;refine⟨r,mu,S,m,n,i,x,q,λv H1 mu1 o s p=>?_⟩;refine⟨r,mu1,n,k,l,i.ext o,p,t,λu H2 g j r2 B=>?_⟩;exact⟨g,l,[m,k],d,z,.cons (s.ext j) (.cons r2 .nil),B,c,λv C e w y A=>hc v C e ((o.trans j).trans w) y A⟩
theorem GQ(h:tM K (m1 f a) σ H Q):Jf (λx H Q=>rN K f [x] H Q) (tM K a) σ H Q:=by
 obtain⟨r,mu,S,d,k,n,s,c,hc⟩:=h;obtain⟨⟨e,g⟩,m,c⟩:=oB1.mp c;refine⟨r,mu,S,e,g,n,s,m,λv H1 mu1 t o i=>?_⟩;exact⟨mu1,g,[e],d,k,.cons o .nil,i,c,λv p b q j l=>hc v p b (t.trans q) j l⟩
theorem zC{a:FA}(h:tM K (mN f a) σ H Q):Jg K a σ H λvs H1=>rN K f vs H1 Q:=by
 obtain⟨r,mu,S,d,k,n,s,c,hc⟩:=h;obtain⟨⟨e,g⟩,m,c⟩:=oB1.mp c;refine⟨r,mu,S,e,g,n,s,m,λv H1 mu1 t o i=>?_⟩;exact⟨mu1,g,e,d,k,o,i,c,λv p b q j l=>hc v p b (t.trans q) j l⟩
theorem GI{op:Operator}{x y:Expr}{pos:Pos}(ho:gp X (binaryOp op) (r2 X.K f))(hx:ME X x a)(hy:ME X y b):ME X (.BinOp x op y pos) (m2 f a b):=eU (Gr ho hx hy) λ_ _ _=>vA
theorem GH{op:UnaryOp}{x:Expr}{pos:Pos}(ho:FQ X (unaryOp op) (λx H Q=>rN X.K f [x] H Q))(hx:ME X x a):ME X (.UnaryOp op x pos) (m1 f a):=eU (Gq ho hx) λ_ _ _=>GQ
theorem ET{op:CmpOp}{x y:Expr}{pos:Pos}(ho:gp X (compareOp op) (r2 X.K f))(hx:ME X x a)(hy:ME X y b)(hm:behindInMarks op y=J):ME X (.Compare x [op] [y] pos) (m2 f a b):=eU (BA ho hx hy hm) λ_ _ _=>vA
theorem GJ{x y:Expr}{pos:Pos}(ho:Di X (r2 X.K f))(hx:ME X x a)(hy:ME X y b)(hs:mm y):ME X (.Subscript x y pos) (m2 f a b):=eU (Gs ho hx hy hs) λ_ _ _=>vA
theorem zz {x:Str}{p pos:Pos}{e:Expr}{es:List Expr}{id:String}{a:FA}(hc:fj X (.builtin id) (rN X.K f))(hg:Gl X x)(hm:X.mg x=none)(hv:bootBuiltins x=some (.builtin id))(ha:MA X (e::es) a)(hn:x≠"__name__":=by decide)(hdb:(x == ("__debug__":Str))=false:=by decide)
  (he:dJ (e::es) X.env=(J,eval e X.env)::dJ es X.env:=by rfl) (hpl:(backTo pos (dJ es X.env)).any (·.1)=J:=by rfl):ME X (.Call (.Name x p) (e::es) [] pos) (mN f a):=
 eU (rK hc hg hm hv ha hn hdb he hpl) λ_ _ _=>zC
theorem wR {x:Str}{p pos:Pos}{e:Expr}{es:List Expr}{T:String}{a:FA}(hc:fj X (.type T) (rN X.K f))(hg:Gl X x)(hm:X.mg x=none)(hv:bootBuiltins x=some (.type T))(ha:MA X (e::es) a)(hn:x≠"__name__":=by decide)(hdb:(x == ("__debug__":Str))=false:=by decide)
  (he:dJ (e::es) X.env=(J,eval e X.env)::dJ es X.env:=by rfl) (hpl:(backTo pos (dJ es X.env)).any (·.1)=J:=by rfl):ME X (.Call (.Name x p) (e::es) [] pos) (mN f a):=
 eU (ji hc hg hm hv ha hn hdb he hpl) λ_ _ _=>zC
end
noncomputable def mB (m:FE):FT:=λr S=>(m r S).bind λp=>match p.1 with
 | .bl b=>some (b,p.2)
 |_=>none
theorem GP{K:Fg1}{m:FE}{σ:L2.St}{H:Hp}{Q:Bool->Hp->Prop}(h:yp K (mB m) σ H Q):tB (tM K m) σ H Q:=by
 obtain⟨r,mu,S,b,l,e,i,a,hc⟩:=h;obtain⟨⟨g,n⟩,d,a⟩:=oB1.mp a;cases g with
 |bl k=>
  cases a;refine⟨r,mu,S,_,_,e,i,d,λv H1 mu1 j f c=>?_⟩;cases f;exact⟨_,O,hc H1 mu1 j c⟩
 |_=>cases a
noncomputable def sd(a b:FT):FT:=λr S=>(a r S).bind λp=>if p.1=M then b r p.2 else Z (J,p.2)
noncomputable def FK(a b:FT):FT:=λr S=>(a r S).bind λp=>if p.1=M then Z (M,p.2)else b r p.2
noncomputable def wT(a:FT):FT:=λr S=>(a r S).bind λp=>Z (!p.1,p.2)
noncomputable def Jn(a b:FE):FE:=λr S=>(a r S).bind λp=>match p.1 with
 | .bl c=>if c=M then b r p.2 else Z (.bl J,p.2)
 |_=>Y
noncomputable def J9(a b:FE):FE:=λr S=>(a r S).bind λp=>match p.1 with
 | .bl c=>if c=M then Z (.bl M,p.2)else b r p.2
 |_=>Y
noncomputable def Jk(a:FE):FE:=λr S=>(a r S).bind λp=>match p.1 with
 | .bl c=>Z (.bl (!c),p.2)
 |_=>Y
noncomputable def vz(c:FT)(a b:FE):FE:=λr S=>(c r S).bind λp=>if p.1=M then a r p.2 else b r p.2
section
variable{X:Cx}{x y c:Expr}{rest:List Expr}{pos:Pos}{a b:FT}{f g:FE}
theorem Ey{op:CmpOp}{f:FN}{a b:FE}(ho:gp X (compareOp op) (r2 X.K f))(hx:ME X x a)(hy:ME X y b)(hm:behindInMarks op y=J):MT X (.Compare x [op] [y] pos) (mB (m2 f a b)):=
 ub (Bk ho hx hy hm) fun σ H Q h=>by
  obtain⟨r,mu,S,d,e,g,j,hm,hc⟩:=GP h;exact vA ⟨r,mu,S,d,e,g,j,hm,λv H' mu' k i c=>hc v H' mu' k i c⟩
theorem BJ(ha:MT X x a):MW X (.BoolOp .And [x] pos) a:=Bi ha
theorem Eu(ha:MT X x a):MW X (.BoolOp .Or [x] pos) a:=DU ha
theorem Ew(ha:MT X x a)(hb:MW X (.BoolOp .And (y::rest) pos) b):MW X (.BoolOp .And (x::y::rest) pos) (sd a b):=
 yM (DV ha hb) <| by
  rintro σ H Q ⟨r,mu,S,k,i,g,n,c,hc⟩;obtain⟨⟨b1,h⟩,j,c⟩:=oB1.mp c;refine⟨r,mu,S,b1,h,g,n,j,λH1 mu1 d f=>?_⟩;cases b1 with
  |true=>exact⟨r,mu1,h,k,i,g.ext d,f,c,λH2 e m l=>hc H2 e (d.trans m) l⟩
  |false=>cases c;exact hc H1 mu1 d f
theorem GF(ha:MT X x a)(hb:MW X (.BoolOp .Or (y::rest) pos) b):MW X (.BoolOp .Or (x::y::rest) pos) (FK a b):=
 yM (Gn ha hb) <| by
  rintro σ H Q ⟨r,mu,S,k,i,g,n,c,hc⟩;obtain⟨⟨b1,h⟩,j,c⟩:=oB1.mp c;refine⟨r,mu,S,b1,h,g,n,j,λH1 mu1 d f=>?_⟩;cases b1 with
  |false=>exact⟨r,mu1,h,k,i,g.ext d,f,c,λH2 e m l=>hc H2 e (d.trans m) l⟩
  |true=>cases c;exact hc H1 mu1 d f
theorem IH(h:MW X x a):MT X x a:=PW.pt h
theorem Ex(ha:MT X x a):MT X (.UnaryOp .Not x pos) (wT a):=
 ub (DX ha) <| by
  rintro σ H Q ⟨r,mu,S,k,i,e,g,b,hc⟩;obtain⟨⟨b1,f⟩,d,b⟩:=oB1.mp b;cases b;exact⟨r,mu,S,b1,f,e,g,d,λH1 mu1 h c=>hc H1 mu1 h c⟩
theorem GK(hc:MT X c a)(hx:ME X x f)(hy:ME X y g):ME X (.IfExp c x y pos) (vz a f g):=
 eU (y1 hc hx hy) <| by
  rintro σ H Q ⟨r,mu,S,k,o,i,q,d,hc⟩;obtain⟨⟨b1,m⟩,p,d⟩:=oB1.mp d;refine⟨r,mu,S,b1,m,i,q,p,λH1 mu1 e n=>?_⟩;cases b1 with
  |true=>exact⟨r,mu1,m,k,o,i.ext e,n,d,λh H2 b l r2 j=>hc h H2 b (e.trans l) r2 j⟩
  |false=>exact⟨r,mu1,m,k,o,i.ext e,n,d,λh H2 b l r2 j=>hc h H2 b (e.trans l) r2 j⟩
end
section
variable{X:Cx}{x y z:Expr}{pos:Pos}{f g:FN}{a b c:FE}{op op':CmpOp}
end
mutual
noncomputable def D.und(n:Nat):D->Bool
 | .tup xs=>D.unds n xs
 | .rol xs=>D.unds n xs
 | .ref k=>decide (k<n)
 | .non=>M
 | .bl _=>M
 | .int _=>M
 | .str _=>M
 | .fn _=>M
noncomputable def D.unds(n:Nat):List D->Bool
 |[]=>M
 |d::ds=>D.und n d&&D.unds n ds
end
noncomputable def D.sames(a b:List D):Bool:=@decide (a=b) (Classical.propDecidable _)
theorem D.sames_eq{a b:List D}(h:D.sames a b=M):a=b:=@of_decide_eq_true _ (Classical.propDecidable _) h
theorem D.sames_refl(a:List D):D.sames a a=M:=@decide_eq_true _ (Classical.propDecidable _) O
section
variable{K:Fg1}{H:Hp}{mu mu':List dE}
theorem eJ.cut{n:Nat}(h:∀ k,k<n->mu[k]? = mu'[k]?):∀ {d:D} {v:V},eJ K H mu d v->d.und n=true->eJ K H mu' d v:=fun c=>c.rec (motive_1:=fun d v _=>d.und n=true->eJ K H mu' d v) (motive_2:=fun ds vs _=>D.unds n ds=true->d0 K H mu' ds vs)
  (λ_=>.non) (λb _=>.bl b) (λi _=>.int i) (λx _=>.str x) (λq _ ih e=>.tup q (ih (by rw[D.und]at e;exact e))) (λq _ ih e=>.rol q (ih (by rw[D.und]at e;exact e)))
  (λq e=>.ref (by rw[D.und]at e;rw[<- h _ (of_decide_eq_true e)];exact q)) (λq _=>.fn q) (λ_=>.nil) (λ_ _ a b e=>by rw[D.unds,bA1]at e;exact .cons (a e.1) (b e.2))
theorem d0.cut{n:Nat}(h:∀k,k<n->mu[k]?=mu'[k]?):∀{ds:List D} {vs:List V},d0 K H mu ds vs->D.unds n ds=M->d0 K H mu' ds vs:=λa=>a.ind (P:=λds vs _=>D.unds n ds=M->d0 K H mu' ds vs) (λ_=>.nil) λr _ b e=>by rw[D.unds,bA1]at e;exact .cons (eJ.cut h r e.1) (b e.2)
end
noncomputable def Ob.und(n:Nat):Ob->Bool
 | .lst xs=>D.unds n xs
 | .dct kvs=>D.unds n (kvs.map (·.2))
 | .dcT kvs=>D.unds n (kvs.map (·.2))
 | .iset _=>M
 | .dcF kvs=>D.unds n (kvs.map (·.2))
 | .tst _=>M
theorem KR.cut{κ:Type}{K:Fg1}{H:Hp}{mu mu':List dE}{n:Nat}(h:∀k,k<n->mu[k]?=mu'[k]?):∀{ks:List (κ×D)} {ws:List (κ×V)},KR K H mu ks ws->D.unds n (ks.map (·.2))=M->KR K H mu' ks ws:=by
 intro ks ws a e
 induction a with
 |nil=>exact .nil
 |cons r t ih=>
  rw[mP1,D.unds,bA1]at e;exact .cons ⟨r.1,r.2.cut h e.1⟩ (ih e.2)
mutual
theorem ym(n:Nat):∀k:TK,(tkD k).und n=M
 | .non=>rfl
 | .int _=>rfl
 | .tup xs=>by rw[tkD,D.und];exact uX n xs
theorem uX(n:Nat):∀ks:List TK,D.unds n (hE ks)=M
 |[]=>rfl
 |x::xs=>by rw[hE,D.unds,ym n x,uX n xs];rfl
end
theorem KT.cut{K:Fg1}{H:Hp}{mu mu':List dE}{n:Nat}(h:∀k,k<n->mu[k]?=mu'[k]?):∀{ks:List (TK×D)} {ws:List (TK×dE×dB)},KT K H mu ks ws->D.unds n (ks.map (·.2))=M->KT K H mu' ks ws:=by
 intro ks ws a e
 induction a with
 |nil=>exact .nil
 |cons r t ih=>
  rw[mP1,D.unds,bA1]at e;obtain⟨z,d,k,v,b,r⟩:=r;exact .cons ⟨z,d,k.cut h (ym n _),v,b,r.cut h e.1⟩ (ih e.2)
theorem vw(n:Nat):∀ks:List TK,D.unds n ((ks.map λk=>(k,D.non)).map (·.2))=M
 |[]=>rfl
 |_::ks=>by rw[mP1,mP1,D.unds,vw n ks];rfl
theorem jI.cut{K:Fg1}{H:Hp}{mu mu':List dE}{n:Nat}{a:dE}(h:∀k,k<n->mu[k]?=mu'[k]?):∀{o:Ob},jI K H mu a o->o.und n=M->jI K H mu' a o
 | .lst _,⟨vs,e,r⟩,b=>⟨vs,e,r.cut h b⟩
 | .dct _,⟨ws,e,r⟩,b=>⟨ws,e,KR.cut h r b⟩
 | .dcT _,⟨ws,e,r,l⟩,b=>⟨ws,e,KT.cut h r b,l⟩
 | .iset _,q,_=>q
 | .dcF _,⟨ws,e,r,l⟩,b=>⟨ws,e,KT.cut h r b,l⟩
 | .tst ks,⟨ws,e,r⟩,_=>⟨ws,e,KT.cut h r (vw n ks)⟩
noncomputable def gc(n:Nat)(p:D×Sto):D×Sto:=if p.1.und n&&(p.2.take n).all (Ob.und n)then(p.1,p.2.take n)else p
mutual
noncomputable def D.sh(n:Nat):D->D
 | .tup xs=>.tup (D.shs n xs)
 | .rol xs=>.rol (D.shs n xs)
 | .ref k=>.ref (n+k)
 | .fn x=>.fn x
 | .non=>.non
 | .bl b=>.bl b
 | .int i=>.int i
 | .str x=>.str x
noncomputable def D.shs(n:Nat):List D->List D
 |[]=>[]
 |d::ds=>D.sh n d::D.shs n ds
end
noncomputable def Ob.sh(n:Nat):Ob->Ob
 | .lst xs=>.lst (D.shs n xs)
 | .dct kvs=>.dct (kvs.map λp=>(p.1,p.2.sh n))
 | .dcT kvs=>.dcT (kvs.map λp=>(p.1,p.2.sh n))
 | .iset xs=>.iset xs
 | .dcF kvs=>.dcF (kvs.map λp=>(p.1,p.2.sh n))
 | .tst ks=>.tst ks
theorem eJ.sh{K:Fg1}{H:Hp}{mu mu':List dE}:∀ {d:D} {v:V},eJ K H mu' d v->eJ K H (mu++mu') (d.sh mu.length) v:=fun c=>c.rec (motive_1:=fun d v _=>eJ K H (mu++mu') (d.sh mu.length) v) (motive_2:=fun ds vs _=>d0 K H (mu++mu') (D.shs mu.length ds) vs)
  .non .bl .int .str (λh _ ih=>.tup h ih) (λh _ ih=>.rol h ih) (λh=>.ref (by rw[gR1 (bt _ _),bu];exact h)) (λh=>.fn h) .nil (λ_ _ a b=>.cons a b)
theorem d0.sh{K:Fg1}{H:Hp}{mu mu':List dE}:∀{ds:List D} {vs:List V},d0 K H mu' ds vs->d0 K H (mu++mu') (D.shs mu.length ds) vs:=λh=>h.ind (P:=λds vs _=>d0 K H (mu++mu') (D.shs mu.length ds) vs) .nil λr _ ih=>.cons (eJ.sh r) ih
theorem KR.sh{κ:Type}{K:Fg1}{H:Hp}{mu mu':List dE}:∀{ks:List (κ×D)} {ws:List (κ×V)},KR K H mu' ks ws->KR K H (mu++mu') (ks.map λp=>(p.1,p.2.sh mu.length)) ws:=by
 intro ks ws h
 induction h with
 |nil=>exact .nil
 |cons r t ih=>exact .cons ⟨r.1,r.2.sh⟩ ih
mutual
theorem CT(n:Nat):∀k:TK,(tkD k).sh n=tkD k
 | .non=>rfl
 | .int _=>rfl
 | .tup xs=>by rw[tkD,D.sh,yg n xs]
theorem yg(n:Nat):∀ks:List TK,D.shs n (hE ks)=hE ks
 |[]=>rfl
 |x::xs=>by rw[hE,D.shs,CT n x,yg n xs]
end
theorem KT.sh{K:Fg1}{H:Hp}{mu mu':List dE}:∀{ks:List (TK×D)} {ws:List (TK×dE×dB)},KT K H mu' ks ws->KT K H (mu++mu') (ks.map λp=>(p.1,p.2.sh mu.length)) ws:=by
 intro ks ws h
 induction h with
 |nil=>exact .nil
 |cons r t ih=>
  obtain⟨z,d,k,v,a,r⟩:=r;exact .cons ⟨z,d,by have:=k.sh (mu:=mu);rw[CT]at this;exact this,v,a,r.sh⟩ ih
theorem jI.sh{K:Fg1}{H:Hp}{mu mu':List dE}{a:dE}:∀{o:Ob},jI K H mu' a o->jI K H (mu++mu') a (o.sh mu.length)
 | .lst _,⟨vs,e,r⟩=>⟨vs,e,r.sh⟩
 | .dct _,⟨ws,e,r⟩=>⟨ws,e,KR.sh r⟩
 | .dcT _,⟨ws,e,r,l⟩=>⟨ws,e,KT.sh r,l⟩
 | .iset _,q=>q
 | .dcF _,⟨ws,e,r,l⟩=>⟨ws,e,KT.sh r,l⟩
 | .tst ks,⟨ws,e,r⟩=>⟨ws,e,by have:=KT.sh (mu:=mu) r;rw[bv]at this;exact this⟩
theorem eJ.mor{K:Fg1}{H:Hp}{mu:List dE}(mu':List dE):∀{d:D} {v:V},eJ K H mu d v->eJ K H (mu++mu') d v:=λh=>h.exv ⟨bw _ _,λ_ _ h=>h,λ_ _ _ h=>h⟩
theorem d0.mor{K:Fg1}{H:Hp}{mu:List dE}(mu':List dE):∀{ds:List D} {vs:List V},d0 K H mu ds vs->d0 K H (mu++mu') ds vs:=λh=>h.exv ⟨bw _ _,λ_ _ h=>h,λ_ _ _ h=>h⟩
theorem KR.mor{κ:Type}{K:Fg1}{H:Hp}{mu:List dE}(mu':List dE){ks:List (κ×D)}{ws:List (κ×V)}(h:KR K H mu ks ws):KR K H (mu++mu') ks ws:=Paired.mapP h λ_ _ z=>⟨z.1,z.2.mor mu'⟩
theorem jI.mor{K:Fg1}{H:Hp}{mu:List dE}{a:dE}(mu':List dE):∀{o:Ob},jI K H mu a o->jI K H (mu++mu') a o
 | .lst _,⟨vs,e,r⟩=>⟨vs,e,r.mor mu'⟩
 | .dct _,⟨ws,e,r⟩=>⟨ws,e,KR.mor mu' r⟩
 | .dcT _,⟨ws,e,r,l⟩=>⟨ws,e,Paired.mapP r λ_ _ ⟨z,d,k,v,b,r⟩=>⟨z,d,k.mor mu',v,b,r.mor mu'⟩,l⟩
 | .iset _,q=>q
 | .dcF _,⟨ws,e,r,l⟩=>⟨ws,e,Paired.mapP r λ_ _ ⟨z,d,k,v,b,r⟩=>⟨z,d,k.mor mu',v,b,r.mor mu'⟩,l⟩
 | .tst _,⟨ws,e,r⟩=>⟨ws,e,Paired.mapP r λ_ _ ⟨z,d,k,v,b,r⟩=>⟨z,d,k.mor mu',v,b,r.mor mu'⟩⟩
noncomputable def lQ(f:FN):FN:=λds S=>if D.unds 0 ds=M then(f ds []).map λp=>if p.1.und 0=M then(p.1,S)else(p.1.sh S.length,S++p.2.map (Ob.sh S.length))else(f ds S).map (gc S.length)
theorem jI.keep{K:Fg1}{H H':Hp}{mu:List dE}{a:dE}(e:Ext mu mu H H')(h:∀o,H a=Z o->H' a=Z o):∀{o:Ob},jI K H mu a o->jI K H' mu a o
 | .lst _,⟨vs,q,r⟩=>⟨vs,h _ q,r.ext e⟩
 | .dct _,⟨ws,q,r⟩=>⟨ws,h _ q,KR.ext e r⟩
 | .dcT _,⟨ws,q,r,l⟩=>⟨ws,h _ q,KT.ext e r,l⟩
 | .iset _,q=>⟨h _ q.1,q.2⟩
 | .dcF _,⟨ws,⟨o,u,c,b⟩,r,l⟩=>⟨ws,⟨o,u,h _ c,b⟩,KT.ext e r,l⟩
 | .tst _,⟨ws,q,r⟩=>⟨ws,h _ q,KT.ext e r⟩
theorem sZ{K:Fg1}{f:FN}{vs:List V}{H:Hp}{Q:VK}(h:rN K (lQ f) vs H Q):rN K f vs H Q:=by
 obtain⟨mu,S,ds,d,ao,C,c,g,hc⟩:=h;unfold lQ at g;split at g
 ·rename_i j;obtain⟨⟨A,p⟩,u,g⟩:=oM1.mp g;refine⟨[],[],ds,A,p,C.cut (n:=0) (λk i=>absurd i (bA _)) j,.nil,u,λv H' mu' x r s=>?_⟩;have B:Ext mu mu H H':=⟨bn,λa o e _=>x.old a o e (by simp),x.tup,x.frz,λ_ z=>.inl z⟩;dsimp only at g;split at g
  ·rename_i I;cases g;refine hc v H' mu B (r.cut (n:=0) (λk i=>absurd i (bA _)) I) ⟨c.len,c.nd,λn o a h1 h2=>?_⟩;exact(c.ob n o a h1 h2).keep B λo e=>x.old a o e (by simp)
  ·cases g;have D:∀ a∈mu',H a=none:=fun a w=>(x.new a w).resolve_left (by simp);have F:Ext mu (mu++mu') H H':=⟨bw _ _,fun a o e _=>x.old a o e (by simp),x.tup,x.frz,fun a z=>by
    rcases aG.mp z with z|z
    ·exact .inl z
    ·exact .inr (D a z)⟩
   refine hc v H' (mu++mu') F (by rw[<- c.len];exact r.sh) ⟨by rw[lA1,lA1,lM1,c.len,s.len],?_,λn o a h1 h2=>?_⟩
   ·refine bB.mpr ⟨c.nd,s.nd,λa w b j z=>?_⟩;subst z;obtain⟨o,e⟩:=c.here w;rw[D a j]at e;cases e
   ·by_cases l:n<S.length
    ·rw[gL1 l]at h1;rw[gL1 (by rw[c.len];exact l)]at h2;exact((c.ob n o a h1 h2).keep B λo e=>x.old a o e (by simp)).mor mu'
    ·have m:=a0 l;rw[gR1 m]at h1;rw[gR1 (by rw[c.len];exact m)]at h2;rw[gP1]at h1;obtain⟨am,L,G⟩:=oM1.mp h1;subst G;have q:=s.ob (n-S.length) am a L (by rw[c.len]at h2;exact h2);rw[<- c.len];exact q.sh
 ·obtain⟨⟨A,p⟩,u,g⟩:=oM1.mp g;refine⟨mu,S,ds,A,p,C,c,u,λv H' mu' x r s=>?_⟩;unfold gc at g;split at g
  ·rename_i j;cases g;rw [bA1] at j;have i:∀ k,k<S.length->mu'[k]? = mu[k]?:=fun k i=>by
    obtain⟨t,rfl⟩:=x.pre;rw[gL1 (by rw[c.len];exact i)]
   refine hc v H' mu x.back (r.cut i j.1) ⟨?_,c.nd,λn o a h1 h2=>?_⟩
   ·have:=s.len;have E:=x.pre.length_le;rw[aQ,<- s.len];rw[c.len]at E ⊢;exact(bC E).symm
   ·have l:n<S.length:=by rw[<- c.len];exact(gE1.mp h2).1
    have y:p[n]?=Z o:=by rw[aS l]at h1;exact h1
    refine(s.ob n o a y ((i n l).trans h2)).cut i ?_;exact bD.mp j.2 o (gM1 h1)
  ·cases g;exact hc v H' mu' x r s
noncomputable def AR(K:Fg1)(n:Nat)(f:FN):Sp:=λvs H Q _=>vs.length=n/\rN K f vs H Q
section
variable{X:Cx}{k n:Nat}{f:dE}{fd:dP}{ps:List Str}{x:Str}{p pos:Pos}{e:Expr}{es:List Expr}{m:FN}{a:FA}
noncomputable def dX (n:Nat)(f:FN):FN:=λds S=>if ds.length=n then lQ f ds S else none
theorem BY (F:jt X.prog X.w X.K X.mg X.base tz k f fd ps (AR X.K n m))(hr:fN k X.A)(hg:Gl X x)(hm:X.mg x=some (.ref f))(hk:wK1 X.K (.ref f)=true)(hb:kT X.K fd ps [])
  (ha:MA X (e::es) a) (hdb:(x == ("__debug__":Str))=J:=by decide) (he:dJ (e::es) X.env=(J,eval e X.env)::dJ es X.env:=by rfl) (hpl:(backTo pos (dJ es X.env)).any (·.1)=J:=by rfl):
  ME X (.Call (.Name x p) (e::es) [] pos) (mN (dX n m) a):=
 eU (BB (E:=E0) F hr hg hm hk hb .nil Gw ha hdb he hpl) fun σ H Q h=>by
  obtain⟨r,mu,S,ds,i,he,v,hm,hc⟩:=zC h;refine⟨r,mu,S,ds,i,he,v,hm,λvs H' mu' w l g=>?_⟩;have q:=hc vs H' mu' w l g;show AR X.K n m (vs++[]) H' Q E0;rw[aM];obtain⟨d,j,c,s,t,h1,h2,b,o⟩:=q;unfold dX at b;split at b
  ·rename_i u;exact⟨by rw[<- h1.length];exact u,sZ ⟨d,j,c,s,t,h1,h2,b,o⟩⟩
  ·cases b
end
noncomputable def qS:FS:=λr S=>Z (.nx,r,S)
noncomputable def d9 (a b:FS):FS:=λr S=>(a r S).bind λp=>match p.1 with
 | .nx=>b p.2.1 p.2.2
 |f=>some (f,p.2.1,p.2.2)
noncomputable def fu (m:FE):FS:=λr S=>(m r S).bind λp=>some (.rt p.1,r,p.2)
noncomputable def Jj:FS:=λr S=>Z (.rt .non,r,S)
noncomputable def fi (m:FE):FS:=λr S=>(m r S).bind λp=>some (.nx,r,p.2)
noncomputable def hI (c:FT)(a b:FS):FS:=λr S=>(c r S).bind λp=>if p.1=true then a r p.2 else b r p.2
section
variable{X:Cx}{pos:Pos}{e c:Expr}{st:dQ}{rest as bs:List dQ}{a b:FS}{m:FE}{t:FT}
theorem BM:AN X [] qS:=ve Bm <| by
 rintro E σ H ⟨r,mu,S,f,e,d,a,c,b,hc⟩;cases b;exact hc σ H mu (.refl _ _) a c
theorem zt(h1:MS X st a)(h2:AN X rest b):AN X (st::rest) (d9 a b):=ve (yP h1 h2) <| by
 rintro E σ H ⟨r,mu,S,f,s,o,q,u,h,hc⟩;obtain⟨⟨n,l,m⟩,p,h⟩:=oB1.mp h;refine⟨r,mu,S,n,l,m,q,u,p,?_⟩;cases n with
 |nx=>
  intro t H1 mu1 i j k;refine⟨l,mu1,m,f,s,o,j,k,h,?_⟩;cases f with
  |nx=>exact λe H2 c g=>hc e H2 c (i.trans g)
  |bk=>exact λe H2 c g=>hc e H2 c (i.trans g)
  |ct=>exact λe H2 c g=>hc e H2 c (i.trans g)
  |rt d=>exact λv H2 c g=>hc v H2 c (i.trans g)
 |bk=>cases h;exact hc
 |ct=>cases h;exact hc
 |rt d=>cases h;exact hc
theorem BK(h1:MS X st a):AN X [st] a:=Bl h1
theorem BN(h:ME X e m)(hs:swapsWith e Y pos.line X.env=pure J:=by rfl):MS X (.Expr e pos) (fi m):=hH (Bn h hs) <| by
 rintro E σ H ⟨r,mu,S,f,k,i,b,hs,a,hc⟩;obtain⟨⟨d,l⟩,g,a⟩:=oB1.mp a;cases a;exact⟨r,mu,S,d,_,b,hs,g,λv H' mu' x j c=>hc σ H' mu' x (b.ext x) c⟩
theorem EA(h:ME X e m):MS X (.Return (Z e) pos) (fu m):=hH (D0 h) <| by
 rintro E σ H ⟨r,mu,S,f,j,i,c,g,a,hc⟩;obtain⟨⟨d,k⟩,b,a⟩:=oB1.mp a;cases a;exact⟨r,mu,S,d,_,c,g,b,hc⟩
theorem GG(hc:MT X c t)(ha:AN X as a)(hb:AN X bs b):MS X (.If c as bs pos) (hI t a b):=hH (Go hc ha hb) <| by
 rintro E σ H ⟨r,mu,S,f,o,m,n,u,i,hc⟩;obtain⟨⟨k,l⟩,s,i⟩:=oB1.mp i;refine⟨r,mu,S,k,l,n,u,s,λH1 mu1 j q=>?_⟩;have p:∀c:FS,c r l=Z (f,o,m)->xK X.K c E σ H1:=λc i=>by
  refine⟨r,mu1,l,f,o,m,n.ext j,q,i,?_⟩;cases f with
  |nx=>exact λg H2 e h=>hc g H2 e (j.trans h)
  |bk=>exact λg H2 e h=>hc g H2 e (j.trans h)
  |ct=>exact λg H2 e h=>hc g H2 e (j.trans h)
  |rt d=>exact λv H2 e h=>hc v H2 e (j.trans h)
 cases k with
 |true=>exact p a i
 |false=>exact p b i
end
abbrev FG:=D->Ev->Sto->Option (Ev×Sto)
abbrev AQ:=List D->Ev->Sto->Option (Ev×Sto)
inductive DB (K:Fg1)(g:FG)(v:V)(σ:L2.St)(H:Hp)(Q:L2.St->Hp->Prop):Prop
 |mk (r:Ev) (mu:List dE) (S:Sto) (d:D) (r':Ev) (S':Sto) (he:fJ K H mu r σ) (hs:Sim K H mu S) (hr:eJ K H mu d v) (hm:g d r S=some (r',S')) (hc:∀ σ' H' mu',Ext mu mu' H H'->fJ K H' mu' r' σ'->Sim K H' mu' S'->Q σ' H')
inductive Il (K:Fg1)(g:AQ)(vs:List V)(σ:L2.St)(H:Hp)(Q:L2.St->Hp->Prop):Prop
 |mk (r:Ev) (mu:List dE) (S:Sto) (ds:List D) (r':Ev) (S':Sto) (he:fJ K H mu r σ) (hs:Sim K H mu S) (hr:d0 K H mu ds vs) (hm:g ds r S=some (r',S')) (hc:∀ σ' H' mu',Ext mu mu' H H'->fJ K H' mu' r' σ'->Sim K H' mu' S'->Q σ' H')
abbrev MG(X:Cx)(e:Expr)(g:FG):Prop:=PG X e (DB X.K g)
abbrev HD(X:Cx)(es:List Expr)(g:AQ):Prop:=FF X es (Il X.K g)
noncomputable def gN (i:Nat):FG:=λd r S=>some (r.set i (some d),S)
noncomputable def gNl:AQ:=λds r S=>match ds with
 |[]=>Z (r,S)
 |_=>Y
noncomputable def gCs (g:FG)(gs:AQ):AQ:=λds r S=>match ds with
 |d::ds=>(g d r S).bind λp=>gs ds p.1 p.2
 |[]=>none
noncomputable def gT (n:Nat)(gs:AQ):FG:=λd r S=>match d with
 | .tup ds=>if ds.length=n then gs ds r S else none
 |_=>none
theorem fJ.set{K:Fg1}{H:Hp}{mu:List dE}{r:Ev}{σ:L2.St}{i:Nat}{d:D}{v:V}(h:fJ K H mu r σ)(q:eJ K H mu d v):fJ K H mu (r.set i (Z d)) (σ.set i (Z v)):=by
 refine⟨by rw[aW,aW];exact h.len,λj f e=>?_⟩;by_cases a:i=j
 ·subst a;have b:i<r.length:=by
   have:=(gE1.mp e).1
   rwa [aW]at this
  rw[aI b]at e;cases e;exact⟨v,aI (by rw[<- h.len];exact b),q⟩
 ·rw[gS1 a]at e;obtain⟨k,c,g⟩:=h.val j f e;exact⟨k,by rw[gS1 a];exact c,g⟩
section
variable{X:Cx}{pos:Pos}
theorem ud{e:Expr}{t t':TG}(h:PG X e t)(i:∀v σ H Q,t' v σ H Q->t v σ H Q):PG X e t':=λag s σ H v u Q I r q=>h ag s σ H v u Q I r (i v σ H Q q)
theorem vh{e:List Expr}{t t':Dg}(h:FF X e t)(i:∀v σ H Q,t' v σ H Q->t v σ H Q):FF X e t':=λag s σ H v u Q I r q=>h ag s σ H v u Q I r (i v σ H Q q)
theorem BW(i:Nat){x:Str}(hN:X.N.Nodup)(hi:X.N[i]?=Z x)(hx:uQ X.env.scope x)(hf:X.fn x=M\/X.env.scope.names.lookup x=Z .local:=by first|exact .inl rfl|exact .inr rfl|assumption):MG X (.Name x pos) (gN i):=
 ud (vi hN hi hx hf) <| by
  rintro v σ H Q ⟨r,mu,S,d,g,f,a,e,b,c,hc⟩;cases c;exact hc _ H mu (.refl _ _) (a.set b) e
theorem BV:HD X [] gNl:=vh Bx <| by
 rintro vs σ H Q ⟨r,mu,S,ds,f,e,b,d,c,a,hc⟩;unfold gNl at a;split at a
 ·cases a;cases c;exact⟨O,hc σ H mu (.refl _ _) b d⟩
 ·cases a
theorem zw{e:Expr}{es:List Expr}{g:FG}{h:AQ}(h1:MG X e g)(h2:HD X es h)(hs:(assignEach (e::es) X.env).map (·.2)=assign e X.env::(assignEach es X.env).map (·.2):=by rfl):HD X (e::es) (gCs g h):=
 vh (yY h1 h2 hs) <| by
  rintro vs σ H Q ⟨r,mu,S,ds,o,l,n,hs,u,a,hc⟩;unfold gCs at a;split at a
  ·obtain⟨⟨f,i⟩,m,a⟩:=oB1.mp a;cases u with
   |cons q t=>
    exact⟨_,_,O,r,mu,S,_,f,i,n,hs,q,m,λp H1 mu1 j c k=>⟨f,mu1,i,_,o,l,c,k,t.ext j,a,λb H2 d s=>hc b H2 d (j.trans s)⟩⟩
  ·cases a
theorem EI{es:List Expr}{k:Nat}{b:AQ}{n:Nat}(hc:X.calm=M)(h:HD X es b)(hn:(assignEach es X.env).length=n:=by rfl)(hst:(assignEach es X.env).findIdx? (·.1)=Y:=by rfl):MG X (.Tuple es k pos) (gT n b):=
 ud (D9 hc h hn hst) <| by
  rintro v σ H Q ⟨r,mu,S,d,f,c,e,j,g,a,hc⟩;cases d with
  |tup ds=>
   rw[gT]at a;split at a
   ·rename_i i;cases g with
    |tup q t=>exact⟨_,_,O,q,by rw[<- t.length];exact i,r,mu,S,ds,f,c,e,j,t,a,hc⟩
   ·cases a
  |_=>cases a
inductive rU (K:Fg1)(f:FN)(o i v:V)(H:Hp)(Q:Hp->Prop):Prop
 |mk (mu:List dE) (S:Sto) (ds:List D) (d:D) (S':Sto) (hr:d0 K H mu ds [o,i,v]) (hs:Sim K H mu S) (hm:f ds S=some (d,S')) (hc:∀H' mu',Ext mu mu' H H'->Sim K H' mu' S'->Q H')
noncomputable def gS(f:FN)(a b:FE):FG:=λd r S=>(a r S).bind λp=>(b r p.2).bind λq=>(f [p.1,q.1,d] q.2).bind λt=>Z (r,t.2)
theorem EJ{o i:Expr}{a b:FE}{f:FN}(ho:ME X o a)(hi:ME X i b)(hs:uP X (rU X.K f))(ha:∀v,assign (.Subscript o i pos) X.env v=(do
   let ov<-holding [v] (eval o X.env)
   let iv<-holding [v,ov] (eval i X.env)
   standAt pos
   holding [v,ov,iv] (setItem ov iv v)
   release [v,ov,iv] []):=by intro _;rfl):MG X (.Subscript o i pos) (gS f a b):=
 ud (Ea ho hi hs ha) <| by
  rintro v σ H Q ⟨r,mu,S,d,D,F,j,hs,y,c,hc⟩;obtain⟨⟨p,q⟩,t,c⟩:=oB1.mp c;obtain⟨⟨m,n⟩,w,c⟩:=oB1.mp c;obtain⟨⟨z,I⟩,x,c⟩:=oB1.mp c;cases c;refine⟨r,mu,S,p,q,j,hs,t,λG H1 mu1 g u s=>?_⟩;refine⟨r,mu1,q,m,n,j.ext g,s,w,λE H2 k e r2 B=>?_⟩;exact⟨k,n,[p,m,d],z,_,.cons (u.ext e) (.cons r2 (.cons ((y.ext g).ext e) .nil)),B,x,λC h l A=>hc σ C h ((g.trans e).trans l) (((j.ext g).ext e).ext l) A⟩
noncomputable def eh (m:FE)(g:FG):FS:=λr S=>(m r S).bind λp=>(g p.1 r p.2).bind λq=>some (.nx,q.1,q.2)
theorem qh{K:Fg1}{m:FE}{g:FG}{E:ju}{σ:L2.St}{H:Hp}(h:xK K (eh m g) E σ H):yq (tM K m) (DB K g) E σ H:=by
 obtain⟨r,mu,S,f,u,s,d,q,a,hc⟩:=h;obtain⟨⟨e,i⟩,l,a⟩:=oB1.mp a;obtain⟨⟨r2,t⟩,p,a⟩:=oB1.mp a;cases a;refine⟨r,mu,S,e,i,d,q,l,λv H1 mu1 j n k=>?_⟩;exact⟨r,mu1,i,e,_,_,d.ext j,k,n,p,λb H2 c o=>hc b H2 c (j.trans o)⟩
theorem ED{tg e:Expr}{m:FE}{g:FG}(he:ME X e m)(hg:MG X tg g)(hs:swapsWithSole [tg] e pos.line X.env=pure J:=by rfl)(hw:swappedStores [tg] e X.env=pure Y:=by rfl)(h1:(assignEach [tg] X.env).map (·.2)=[assign tg X.env]:=by rfl):MS X (.Assign [tg] e pos) (eh m g):=hH (D4 he hg hs hw h1) λ_ _ _=>qh
theorem Ez(i:Nat){x:Str}{e:Expr}{m:FE}{pos':Pos}(hN:X.N.Nodup)(hi:X.N[i]? = some x)(hx:uQ X.env.scope x)(he:ME X e m)(hs:swapsWith e (some (.Name x pos')) pos.line X.env=pure false:=by rfl)(hf:X.fn x=true\/X.env.scope.names.lookup x=some .local:=by first | exact .inl rfl | exact .inr rfl | assumption):
  MS X (.Assign [.Name x pos'] e pos) (eh m (gN i)):=hH (DZ hN hi hx he hs hf) λE σ H h=>by
 obtain⟨r,mu,S,d,c,h1,h2,k,g⟩:=qh h;refine⟨r,mu,S,d,c,h1,h2,k,λv H' mu' p f b=>?_⟩;obtain⟨r2,a,t,u,s,w,l,o,q,n,j⟩:=g v H' mu' p f b;cases n;exact j _ H' a (.refl _ _) (l.set q) o
noncomputable def B2(i:Nat)(f:FN)(m:FE):FS:=λr S=>match r[i]? with
 |some (Z d)=>(m r S).bind λp=>(f [d,p.1] p.2).bind λq=>Z (.nx,r.set i (Z q.1),q.2)
 |_=>Y
theorem EC(i:Nat){x:Str}{e:Expr}{m:FE}{op:Operator}{f:FN}{pos':Pos}(hN:X.N.Nodup)(hi:X.N[i]? = some x)(hx:uQ X.env.scope x)(he:ME X e m)(ho:H7 X op (r2 X.K f))(hf:X.fn x=true\/X.env.scope.names.lookup x=some .local:=by first | exact .inl rfl | exact .inr rfl | assumption):
  MS X (.AugAssign (.Name x pos') op e pos) (B2 i f m):=hH (D3 hN hi hx he ho hf) <| by
 rintro E σ H ⟨r,mu,S,B,z,D,he,p,a,hc⟩;unfold B2 at a;split at a
 ·rename_i d e;obtain⟨⟨h,j⟩,n,a⟩:=oB1.mp a;obtain⟨⟨q,C⟩,o,a⟩:=oB1.mp a;cases a;obtain⟨v,s,t⟩:=he.val i d e;refine⟨v,s,r,mu,S,h,j,he,p,n,λF H1 mu1 c l k=>?_⟩;exact⟨mu1,j,[d,h],q,_,.cons (t.ext c) (.cons l .nil),k,o,λA y b g u w=>hc _ y b (c.trans g) (((he.ext c).ext g).set u) w⟩
 ·cases a
end
noncomputable def qM (c:FT)(b:FS):Nat->FS
 |0=>λ_ _=>none
 | n+1=>fun r S=>(c r S).bind fun p=>if p.1=true then (b r p.2).bind fun q=>match q.1 with
   | .nx=>qM c b n q.2.1 q.2.2
   | .ct=>qM c b n q.2.1 q.2.2
   | .bk=>some (.nx,q.2.1,q.2.2)
   | .rt d=>some (.rt d,q.2.1,q.2.2)
  else some (.nx,r,p.2)
theorem Dn{K:Fg1}{c:FT}{b:FS}{n:Nat}{E:ju}{σ:L2.St}{H:Hp}(h:xK K (qM c b n) E σ H):yo (yp K c) (xK K b) E σ H:=by
 refine⟨λm a H'=>xK K (qM c b m) E a H',⟨n,h⟩,λm u H1 q=>?_⟩;obtain⟨r,mu,S,f,w,C,t,I,i,hc⟩:=q;cases m with
 |zero=>cases i
 |succ m=>
  obtain⟨⟨k,B⟩,F,i⟩:=oB1.mp i;refine⟨r,mu,S,k,B,t,I,F,λH2 e l D=>?_⟩;cases k with
  |false=>
   cases i;exact hc u H2 e l (t.ext l) D
  |true=>
   obtain⟨⟨z,p,s⟩,G,i⟩:=oB1.mp i;have A:∀{a H' mu'},Ext e mu' H2 H'->fJ K H' mu' p a->Sim K H' mu' s->qM c b m p s=Z (f,w,C)->xK K (qM c b m) E a H':=λ{a H' mu'} x g o i=>by
    refine⟨p,mu',s,f,w,C,g,o,i,?_⟩;cases f with
    |nx=>exact λj H2 e y=>hc j H2 e ((l.trans x).trans y)
    |bk=>exact λj H2 e y=>hc j H2 e ((l.trans x).trans y)
    |ct=>exact λj H2 e y=>hc j H2 e ((l.trans x).trans y)
    |rt d=>exact λv H2 e y=>hc v H2 e ((l.trans x).trans y)
   refine⟨λa H'=>xK K (qM c b m) E a H',λa H' q=>⟨m,bE _,q⟩,r,e,B,z,p,s,t.ext l,D,G,?_⟩;cases z with
   |nx=>exact λa H' mu' x g o=>A x g o i
   |ct=>exact λa H' mu' x g o=>A x g o i
   |bk=>cases i;exact λa H' mu' x g o=>hc a H' mu' (l.trans x) g o
   |rt d=>cases i;exact λv H' mu' x p o=>hc v H' mu' (l.trans x) p o
theorem zu{X:Cx}{pos:Pos}(n:Nat){c:Expr}{a:List dQ}{t:FT}{b:FS}(hp:PassesOwn (model X.prog X.w) X.A X.env X.xe)(hc:MT X c t)(hb:AN X a b):MS X (.While c a [] pos) (qM t b n):=
 hH (yQ hp hc hb) λ_ _ _=>Dn
structure AO where
 items:List D
 chk:List (Nat×List D)
noncomputable def oB (S:Sto):List (Nat×List D)->Bool
 |[]=>true
 | (n,xs)::c=>(match S[n]? with
   |some (.lst ys)=>D.sames ys xs
   |_=>false)&&oB S c
noncomputable def ItR(K:Fg1)(j:It)(am:AO)(mu:List dE)(H:Hp):Prop:=∀i H1 mu1 S1,q0 mu mu1 H H1->Sim K H1 mu1 S1->oB S1 am.chk=M ->
 (∀d,am.items[i]?=Z d->j.go i H1 /\ ∀x H2,j.yld i H1 x H2->Ext mu1 mu1 H1 H2/\Sim K H2 mu1 S1/\eJ K H2 mu1 d x)/\(am.items.length<=i->j.stop i H1)
abbrev FI:=Ev->Sto->Option (AO×Sto)
inductive Ik (K:Fg1)(m:FI)(σ:L2.St)(H:Hp)(R:It->Hp->Prop):Prop
 |mk (r:Ev) (mu:List dE) (S:Sto) (am:AO) (S':Sto) (he:fJ K H mu r σ) (hs:Sim K H mu S) (hm:m r S=some (am,S')) (hc:∀j H' mu',Ext mu mu' H H'->ItR K j am mu' H'->Sim K H' mu' S'->R j H')
abbrev MI(X:Cx)(tg iter:Expr)(m:FI):Prop:=PI X tg iter (Ik X.K m)
theorem mO{X:Cx}{tg e:Expr}{t t':TI}(h:PI X tg e t)(i:∀ σ H R,t' σ H R->t σ H R):PI X tg e t':=λag s σ H R I q=>h ag s σ H R I (i σ H R q)
theorem Gp{X:Cx}{tg e:Expr}{t t':TI}(h:PI X tg e t)(h':PI X tg e t'):PI X tg e (fun σ H R=>t σ H R\/t' σ H R):=λag s σ H R I q=>q.elim (h ag s σ H R I) (h' ag s σ H R I)
noncomputable def km (c:List (Nat×List D))(g:FG)(b:FS):List D->FS
 |[]=>λr S=>if oB S c=true then some (.nx,r,S)else none
 | d::ds=>fun r S=>if oB S c=true then (g d r S).bind fun p=>(b p.1 p.2).bind fun q=>match q.1 with
   | .nx=>km c g b ds q.2.1 q.2.2
   | .ct=>km c g b ds q.2.1 q.2.2
   | .bk=>some (.nx,q.2.1,q.2.2)
   | .rt v=>some (.rt v,q.2.1,q.2.2)
  else none
noncomputable def iU (m:FI)(g:FG)(b:FS):FS:=λr S=>(m r S).bind λp=>km p.1.chk g b p.1.items r p.2
theorem lK{α:Type}{l:List α}{i:Nat}{d:α}{ds:List α}(h:l.drop i=d::ds):l[i]?=Z d/\l.drop (i+1)=ds:=by
 have h1:l[i]?=Z d:=by
  have:=congrArg (·[0]?) h;simpa using this
 refine⟨h1,?_⟩;rw[<- bF,h];rfl
inductive Jb (K:Fg1)(mu1:List dE)(H1:Hp)(c:List (Nat×List D))(g:FG)(b:FS)(f:Fl)(r':Ev)(S':Sto)(L:List D)(σ':L2.St)(H':Hp):Prop
 |mk (r2:Ev) (mu2:List dE) (S2:Sto):Ext mu1 mu2 H1 H'->fJ K H' mu2 r2 σ'->Sim K H' mu2 S2->km c g b L r2 S2=some (f,r',S')->Jb K mu1 H1 c g b f r' S' L σ' H'
theorem B1{K:Fg1}{m:FI}{g:FG}{b:FS}{E:ju}{σ:L2.St}{H:Hp}(h:xK K (iU m g b) E σ H):F9 (Ik K m) (DB K g) (xK K b) E σ H:=by
 obtain⟨r,mu,S,f,N,U,ao,hs,B,hc⟩:=h;obtain⟨⟨am,T⟩,X,B⟩:=oB1.mp B;refine⟨r,mu,S,am,T,ao,hs,X,λj H1 mu1 A P W=>?_⟩;refine⟨λi k t H'=>k=(am.items.drop i).length/\Jb K mu1 H1 am.chk g b f N U (am.items.drop i) t H',⟨_,O,r,mu1,T,.refl _ _,ao.ext A,W,B⟩,?_⟩;rintro i k D H2 ⟨rfl,r2,l,S2,n,w,I,a⟩;cases hl:am.items.drop i with
 |nil=>
  left;rw[hl]at a;rw[km]at a;dsimp only at a;split at a
  ·rename_i ok;cases a;refine⟨(P i H2 l _ n.w I ok).2 (List.drop_eq_nil_iff.mp hl),?_⟩;exact hc D H2 l (A.trans n) w I
  ·cases a
 |cons d ds=>
  right;rw[hl]at a;obtain⟨hi,Q⟩:=lK hl;rw[km]at a;dsimp only at a;split at a
  ·rename_i ok;obtain⟨⟨R,V⟩,e3,a⟩:=oB1.mp a;obtain⟨⟨au,C,F⟩,e4,a⟩:=oB1.mp a;obtain⟨go,yl⟩:=(P i H2 l _ n.w I ok).1 d hi;refine⟨go,Jb K mu1 H1 am.chk g b f N U ds,?_,λx H3 y=>?_⟩
   ·intro t H' aq;exact⟨ds.length,bE _,(congrArg List.length Q).symm,Q.symm ▸ aq⟩
   ·obtain⟨u,s3,q3⟩:=yl x H3 y;refine⟨r2,l,S2,d,R,V,w.ext u,s3,q3,e3,fun σ4 H4 L z G wq=>?_⟩;refine⟨R,L,V,au,C,F,G,wq,e4,?_⟩;cases au with
    |nx=>exact λp s c q e o=>⟨C,c,F,(n.trans u).trans (z.trans q),e,o,a⟩
    |ct=>exact λp s c q e o=>⟨C,c,F,(n.trans u).trans (z.trans q),e,o,a⟩
    |bk=>cases a;exact λp s c q e o=>hc p s c ((A.trans n).trans (u.trans (z.trans q))) e o
    |rt v=>cases a;exact λv5 s c q r5 o=>hc v5 s c ((A.trans n).trans (u.trans (z.trans q))) r5 o
  ·cases a
theorem EB{X:Cx}{pos:Pos}{tg iter:Expr}{a:List dQ}{m:FI}{g:FG}{b:FS}(hp:PassesOwn (model X.prog X.w) X.A X.env X.xe)(hc:X.calm=M)(hi:MI X tg iter m)(hg:MG X tg g)(hb:AN X a b)(hs:∀x,foldedSetIterable iter X.env x=pure x:=by intro _;rfl):MS X (.For tg iter a [] pos) (iU m g b):=hH (D2 hp hc hi hg hb hs) λ_ _ _=>B1
noncomputable def hG(n:Nat)(ds:List D):Ev:=ds.map Z++aO (n-ds.length) Y
noncomputable def iD (n:Nat)(b:FS):FN:=λds S=>(b (hG n ds) S).bind λp=>match p.1 with
 | .rt d=>some (d,p.2.2)
 | .nx=>some (.non,p.2.2)
 |_=>none
theorem wE{K:Fg1}{H:Hp}{mu:List dE}{ds:List D}{vs:List V}(N:List Str)(h:d0 K H mu ds vs):fJ K H mu (hG N.length ds) (L2.iM N vs):=by
 refine⟨?_,λi d e=>?_⟩
 ·unfold hG L2.iM;rw[lA1,lA1,lM1,lM1,lR1,lR1,h.length]
 ·unfold hG at e;unfold L2.iM;by_cases hi:i<ds.length
  ·rw[gL1 (by rw[lM1];exact hi),gP1]at e;obtain⟨f,b,a⟩:=oM1.mp e;cases a;obtain⟨v,c,r⟩:=h.get b;refine⟨v,?_,r⟩;rw[gL1 (by rw[lM1,<- h.length];exact hi),gP1,c];rfl
  ·rw[gR1 (by rw[lM1];lia)]at e;have:=gM1 e;rw[List.mem_replicate]at this;cases this.2
theorem Hb{P:dF}{w:dH}{K:Fg1}{mg:Str->Option dB}{base:dN}{x c:Str}{st:dQ}{f:dE}{fd:dP}{N ps:List Str}{k:Nat}{b:FS}(F:xO K x c st f fd)(S:gh N ps (ec st))(g:∀(e:dB) (A:dG) (a:List Env) (s:dD) (H:Hp) (E:XK),fN k (A.deeper (envOfC c (ec st) s.heap.objs.size f e)) ->
   AN (lY tz P w K mg base N c (ec st) f e A a s H E).nox (fq st) b):jt P w K mg base tz (k+1) f fd ps (AR K ps.length (iD N.length b)):=by
 refine xO.ok F S (λvs H Q E h=>h.1) λe A a s H vs Q E p j=>⟨_,g e A a s H E p,?_⟩;obtain⟨_,mu,St,ds,d,t,h1,h2,i,l⟩:=j;unfold iD at i;obtain⟨⟨m,o,r⟩,n,i⟩:=oB1.mp i;refine⟨_,mu,St,m,o,r,wE N h1,h2,n,?_⟩;cases m with
 |nx=>cases i;exact λq H' mu' x u s=>l .non H' mu' x .non s
 |rt d=>cases i;exact l
 |bk=>cases i
 |ct=>cases i
noncomputable def i5(cells:List (Str×dE)):List (Str×NameKind)->List (Str×dE)->Option (List (Str×dE))
 |[],acc=>Z acc
 |(n,k)::r,acc=>if k == .free then(cells.lookup n).bind λc=>i5 cells r ((n,c)::acc)else i5 cells r acc
theorem uI{env:Env}(f:Str×NameKind->List (Str×dE)->Sem (ForInStep (List (Str×dE))))(hf:∀n k d,f (n,k) d=if k == .free then(do let c<-cellOf env n;pure (.yield ((n,c)::d)))else pure (.yield d)):
  ∀(a:List (Str×NameKind)) (acc b:List (Str×dE)),i5 env.cells a acc=Z b->forIn a acc f=(pure b:Sem (List (Str×dE)))
 |[],acc,b,h=>by cases h;rfl
 |(n,k)::r,acc,b,h=>by
  rw[bG,hf];unfold i5 at h;split at h
  ·rename_i g;rw[ak g];obtain⟨c,e,h⟩:=oB1.mp h;have:cellOf env n=pure c:=by unfold cellOf;rw[e]
   rw[this,pure_bind,pure_bind];exact uI f hf r _ b h
  ·rename_i g;rw[aj g,pure_bind];exact uI f hf r _ b h
theorem Az{scope:dR}{env:Env}{cl:List (Str×dE)}(h:i5 env.cells scope.names []=Z cl):closureFor scope env=pure cl:=by
 simp only[closureFor];rw[uI (env:=env) _ (λn k a=>by cases hk:k == NameKind.free<;>simp[hk]) scope.names [] cl h];rfl
theorem uH{a:List (Str×dE)}:∀{b:List (Str×NameKind)} {acc d:List (Str×dE)},i5 a b acc=Z d->(∀x c,acc.lookup x=Z c->a.lookup x=Z c) -> ∀x c,d.lookup x=Z c->a.lookup x=Z c
 |[],acc,d,h,ha=>by cases h;exact ha
 |(n,k)::r,acc,d,h,ha=>by
  unfold i5 at h;split at h
  ·obtain⟨c,e,h⟩:=oB1.mp h;refine uH h λx f q=>?_;rw[bH]at q;split at q
   ·rename_i g;cases q;rw[beq_iff_eq.mp g];exact e
   ·exact ha x f q
  ·exact uH h ha
theorem mj{b:List (Str×dE)}{x:Str}:∀{a:List (Str×NameKind)} {acc d:List (Str×dE)},i5 b a acc=Z d->(a.lookup x=Z .free\/(acc.lookup x).isSome=M)->(d.lookup x).isSome=M
 |[],acc,d,h,ha=>by
  cases h;rcases ha with q|q
  ·cases q
  ·exact q
 |(n,k)::r,acc,d,h,ha=>by
  unfold i5 at h;split at h
  ·obtain⟨c,e,h⟩:=oB1.mp h;refine mj h ?_;rcases ha with q|q
   ·rw[bH]at q;split at q
    ·rename_i g;right;rw[bH,g];rfl
    ·exact .inl q
   ·right;rw[bH];split
    ·rfl
    ·exact q
  ·rename_i f;refine mj h ?_;rcases ha with q|q
   ·rw[bH]at q;split at q
    ·cases q;exact absurd O f
    ·exact .inl q
   ·exact .inr q
theorem gg{x:Str}{c:dE}:∀{a:List (Str×NameKind)} {n:Nat} {acc:List (Str×dE)},(cellsFrom n a acc).lookup x=Z c->(n<=c/\(x,c)∈cellsFrom n a [])\/acc.lookup x=Z c
 |[],_,_,h=>.inr h
 |(y,k)::r,n,acc,h=>by
  unfold cellsFrom at h ⊢;split at h
  ·rename_i b;rw [if_pos b];have app:∀ (a:List (Str×NameKind)) (m:Nat) (acc:List (Str×dE)),cellsFrom m a acc=cellsFrom m a []++acc:=by
    intro a
    induction a with
    |nil=>intro m acc;rfl
    |cons p r ih=>
     obtain⟨z,q⟩:=p;intro m acc;unfold cellsFrom;split
     ·rw[ih _ ((z,m)::acc),ih _ [(z,m)],bI];rfl
     ·exact ih m acc
   rcases gg h with⟨h1,h2⟩|h1
   ·refine .inl ⟨by lia,?_⟩;rw[app];exact aH _ h2
   ·rw[bH]at h1;split at h1
    ·rename_i d;cases h1;refine .inl ⟨nR1 _,?_⟩;rw[app,beq_iff_eq.mp d];exact mA1 _ mS1
    ·exact .inr h1
  ·rename_i b;rw[aj b];exact gg h
theorem nX{x:Str}{c:dE}{n:Nat}{acc:List (Str×dE)}{a:List (Str×NameKind)}(hx:a.lookup x=Z .cell)(h:(cellsFrom n a acc).lookup x=Z c):n<=c:=by
 have app:∀(a:List (Str×NameKind)) (m:Nat) (acc:List (Str×dE)),cellsFrom m a acc=cellsFrom m a []++acc:=by
  intro a
  induction a with
  |nil=>intro m acc;rfl
  |cons p r ih=>
   obtain⟨z,q⟩:=p;intro m acc;unfold cellsFrom;split
   ·rw[ih _ ((z,m)::acc),ih _ [(z,m)],bI];rfl
   ·exact ih m acc
 rw[app,List.lookup_append]at h;have q:=PySem.W.cellsFrom_some a n [] (.inl hx);obtain⟨b,e⟩:=aP.mp q;rw[e]at h;cases h;rcases gg e with⟨h1,_⟩|h1
 ·exact h1
 ·cases h1
theorem jy {ao:Model}{A:dG}{E:dB->dD->Prop}{s:dD}{scope:dR}{globals:dE}{c:List (Str×dE)}{qual:Str}{func:Option dE}{code:dB}{env:Env}{b:dE}{Q:Env->dD->Prop}
  (d:Q {scope,locals:=s.heap.objs.size,globals,cells:=cellsFrom (s.heap.objs.size+1) scope.names c,qual,func,code:=env.code,frame:=env.frame,builtins:=env.builtins}
   {s with heap:=pushCells (s.heap.push {cls:=.type "dict",data:=.dict #[]}) scope.names}):
  dM ao A (newFunctionEnv scope globals c [] qual func code (Z env) b) Q E s:=by
 simp only[newFunctionEnv,Option.isSome_some,if_true];refine wB1 (wpAny_alloc ?_);refine wB1 (wpAny_layCells _ (λname a cells=>by cases hkc:a == NameKind.cell<;>simp[hkc]) _ _ _ _ ?_);rw[show({s with heap:=s.heap.push {cls:=.type "dict",data:=.dict #[]}}:dD).heap.objs.size=s.heap.objs.size+1 from hZ1 ..];refine wB1 ?_;rw[List.forIn_nil];exact wP1 (wP1 d)
noncomputable def cxC(X:Cx)(scope:dR)(cl:List (Str×dE))(T:List Str)(keep:List Nat)(s:dD)(H:Hp)(fp:List dE):Cx where
 prog:=X.prog
 w:=X.w
 K:=X.K
 mg:=X.mg
 base:=X.base
 A:=X.A
 N:=T++keep.map λi=>X.N.getD i (Str.ofString "")
 s₀:=s
 H₀:=H
 env:=compEnvC scope (cellsFrom (s.heap.objs.size+1) scope.names cl) s.heap.objs.size X.env
 outer:=X.stack
 stack:=X.stack
 ex:=fp
 fn:=λx=>scope.names.lookup x == Z .cell
 calm:=X.calm
 pn:=[]
 xe:=λ_ _=>False
noncomputable def qm(k:Nat)(keep:List Nat)(σ:L2.St):L2.St:=aO k Y++keep.map λi=>(σ[i]?).join
theorem iV{env:Env}{x:Str}:∀ {a:List (Str×NameKind)},
  (a.map λ(n,k)=>if(k == NameKind.free&&env.scope.kind == .function&&env.kindOf n == Z .cell)then(n,NameKind.cell)else(n,k)).lookup x =
   (a.lookup x).map λk=>if(k == NameKind.free&&env.scope.kind == .function&&env.kindOf x == Z .cell)then NameKind.cell else k
 |[]=>rfl
 |(n,k)::r=>by
  show List.lookup x ((if(k == NameKind.free&&env.scope.kind == .function&&env.kindOf n == Z .cell)=M then(n,NameKind.cell)else(n,k))::_)=_;cases hx:x == n with
  |true=>
   have e:=beq_iff_eq.mp hx;subst e;by_cases hc:(k == NameKind.free&&env.scope.kind == .function&&env.kindOf x == Z .cell)=M
   ·rw[ak hc,bH,hx,bH,hx];simp only[oP1,ak hc]
   ·rw[aj hc,bH,hx,bH,hx];simp only[oP1,aj hc]
  |false=>
   have ih:=@iV env x r;by_cases hc:(k == NameKind.free&&env.scope.kind == .function&&env.kindOf n == Z .cell)=M
   ·rw[ak hc,bH,hx,bH,hx];exact ih
   ·rw[aj hc,bH,hx,bH,hx];exact ih
structure FR (X:Cx)(scope:dR)(T:List Str)(keep:List Nat):Prop where
 kind:scope.kind = .function
 names:∀x∈scope.names,x.2 = .local->scope.names.lookup x.1=some .local
 free:∀i∈keep,∃x,X.N[i]?=some x/\scope.names.lookup x=some .free/\(X.env.kindOf x=some .cell\/X.env.kindOf x=some .free)/\(x,NameKind.cell)∉scope.names
theorem sx{X:Cx}{ag:List (dE×Obj)}{σ:L2.St}{H:Hp}{s:dD}{scope:dR}{w:List (Str×dE)}{T:List Str}{keep:List Nat}{D:List dE}(I:Inv X ag σ H s)(C:FR X scope T keep)(A:i5 X.env.cells scope.names []=some w)(hf:∀b∈D,js X ag H b)(K:∀b∈D,∃o,s.heap.get? b=some o):
  Inv (cxC X scope w T keep s H D) [] (qm T.length keep σ) H {s with heap:=pushCells (s.heap.push {cls:=.type "dict",data:=.dict #[]}) scope.names}:=by
 have kept:∀b o,s.heap.get? b=Z o->(pushCells (s.heap.push {cls:=.type "dict",data:=.dict #[]}) scope.names).get? b=Z o:=λb o e=>pushCells_keeps _ _ b o (hP1 _ e);have B:=cellsFrom_ok scope.names (s.heap.push {cls:=.type "dict",data:=.dict #[]}) (s.heap.objs.size+1) [] ⟨λ_ _ U=>(nomatch U),List.Pairwise.nil⟩ (by rw[hZ1];exact nR1 _);rw[hZ1]at B;have L:=uH A (λx c q=>by cases q)
 -- a cell of the block: its own or an elder one
 have d:∀x c,(cellsFrom (s.heap.objs.size+1) scope.names w).lookup x=Z c->(s.heap.objs.size+1<=c/\(x,c)∈cellsFrom (s.heap.objs.size+1) scope.names [])\/X.env.cells.lookup x=Z c:=λx c h=>by
  rcases gg h with h1|h1
  ·exact .inl h1
  ·exact .inr (L x c h1)
 have g:∀x c,X.env.cells.lookup x=Z c->c<s.heap.objs.size:=λx c e=>by
  obtain⟨v,z⟩:=I.cell x c e;exact z.lt
 have t:∀b∈D,b<s.heap.objs.size:=λb l=>by
  obtain⟨o,e⟩:=K b l;exact hL1 e
 have fst:∀b∈D,b∉frs X.stack:=λb l z=>by
  rcases aF.mp (I.stkSub b z)with q|q
  ·exact(hf b l).2.1 q
  ·exact(hf b l).2.2.1 q
 have kindOf:∀x,(cxC X scope w T keep s H D).env.kindOf x=(scope.names.lookup x).map λk=>if(k == NameKind.free&&X.env.scope.kind == .function&&X.env.kindOf x == Z .cell)then NameKind.cell else k:=λx=>iV
 refine⟨⟨I.ok.mod,C.kind,I.ok.glob,I.ok.blt,nR1 _,λx y c h1 h2=>?_,λx E=>?_,λx c h1 h2=>?_,I.ok.hd,I.ok.frames,.inl O,λb l=>⟨nN1 (t b l),λx c h z=>?_⟩,λb o e=>I.bs b o e,aC I.ok.bsz I.sz,λb o e l=>?_,fst,I.stack,I.stkFree⟩,
  rfl,I.bare,Un.kept kept,⟨λ_=>Y,(Heap.Ns.new s.heap (.type "dict")).keeps (pushCells_keeps _ _),λi x v h1 h2 h3=>?_⟩,λx c h=>?_,I.hok.fresh (nR1 _),λx c h=>?_,λp aq=>absurd (show p∈([]:List (dE×Obj))from aq) (by simp),I.hok.kept kept,?_⟩
 ·rcases d x c h1 with⟨a1,a2⟩|a1<;>rcases d y c h2 with⟨b1,b2⟩|b1
  ·exact name_of_addr B.apart a2 b2
  ·exact absurd (bJ (bK a1) (g y c b1)) (az _)
  ·exact absurd (bJ (bK b1) (g x c a1)) (az _)
  ·exact I.ok.inj x y c a1 b1
 ·have F:scope.names.lookup x=some .cell\/scope.names.lookup x=some .free:=by
   rw[kindOf x]at E;cases e:scope.names.lookup x with
   |none=>rw[e]at E;rcases E with z|z<;>cases z
   |some k=>
    rw[e]at E;simp only[oP1]at E;cases k<;>simp_all
  have:((cellsFrom (s.heap.objs.size+1) scope.names w).lookup x).isSome=M:=by
   rcases F with z|z
   ·exact PySem.W.cellsFrom_some _ _ _ (.inl z)
   ·exact PySem.W.cellsFrom_some _ _ _ (.inr (mj A (.inl z)))
  exact aP.mp this
 ·have f:scope.names.lookup x=Z .cell:=by simpa[cxC]using h1
  have:=nX f h2;exact aC (aX _) this
 ·subst z;rcases d x c h with⟨a1,_⟩|a1
  ·exact absurd (bJ (bK a1) (t c l)) (az _)
  ·exact(hf c l).2.2.2.2.1 x c a1 O
 ·rcases(hf b l).2.2.2.1 with z|z
  ·exact I.ok.noex b o e z
  ·exact absurd (nL1 (hL1 e) (aC I.ok.bsz z)) (az _)
 ·-- a name of the block that has a value:one of the outer text's
  have hi:T.length<=i:=by
   refine a0 λhi=>?_;unfold qm at h2;rw[gL1 (by rw[lR1];exact hi),aR]at h2;split at h2<;>cases h2
  unfold qm at h2;rw[gR1 (by rw[lR1];exact hi),lR1,gP1]at h2;obtain⟨j,au,h2⟩:=oM1.mp h2;have f:X.N.getD j (Str.ofString "")=x:=by
   have f:(T++keep.map λi=>X.N.getD i (Str.ofString ""))[i]?=Z x:=h1;rw[gR1 hi,gP1,au]at f;exact Option.some.inj f
  obtain⟨y,Q,P,ky,wq⟩:=C.free j (gM1 au);have am:y=x:=by rw[<- f,bL,Q];rfl
  subst am;have ao:σ[j]?=Z (Z v):=by
   cases e:σ[j]? with
   |none=>rw[e]at h2;cases h2
   |some o=>rw[e]at h2;cases h2;rfl
  obtain⟨m,hn,hl⟩:=I.loc;obtain⟨u,R,lu⟩:=hl j y v Q ao (by
   rcases ky with z|z
   ·exact .inr (.inl z)
   ·exact .inr (.inr z))
  refine⟨u,R,?_⟩;rcases lu with⟨z,_⟩|⟨_,c,W,zc⟩
  ·rcases ky with q|q<;>(rw[z]at q;cases q)
  ·right;refine⟨?_,c,?_,zc.keeps kept⟩
   ·rw[kindOf,P];simp only[oP1];split
    ·exact .inl O
    ·exact .inr O
   ·obtain⟨c',S⟩:=aP.mp (PySem.W.cellsFrom_some scope.names (s.heap.objs.size+1) w (.inr (mj A (.inl P))):((cellsFrom (s.heap.objs.size+1) scope.names w).lookup y).isSome=M);have N:(cellsFrom (s.heap.objs.size+1) scope.names w).lookup y=Z c':=S;rcases d y c' N with⟨a1,a2⟩|a1
    ·-- an own cell of that name:its kind would be cell
     exfalso;have:∀(names:List (Str×NameKind)) (n:Nat),(y,c')∈cellsFrom n names []->(y,NameKind.cell)∈names:=by
      have app:∀(names:List (Str×NameKind)) (m:Nat) (acc:List (Str×dE)),cellsFrom m names acc=cellsFrom m names []++acc:=by
       intro names
       induction names with
       |nil=>intro m acc;rfl
       |cons p r ih=>
        obtain⟨z,q⟩:=p;intro m acc;unfold cellsFrom;split
        ·rw[ih _ ((z,m)::acc),ih _ [(z,m)],bI];rfl
        ·exact ih m acc
      intro names
      induction names with
      |nil=>intro n h;cases h
      |cons p r ih=>
       obtain⟨z,q⟩:=p;intro n h;unfold cellsFrom at h;split at h
       ·rename_i V;rw[app]at h;rcases aG.mp h with h|h
        ·exact mC1 _ (ih _ h)
        ·have:(y,c')=(z,n):=by simpa using h
         cases this;have G:q=NameKind.cell:=by simpa using V
         subst G;exact mS1
       ·exact mC1 _ (ih _ h)
     exact wq (this _ _ a2)
    ·rw[W]at a1;cases a1;exact N
 ·rcases d x c h with⟨a1,a2⟩|a1
  ·exact⟨_,(B.empty x c a2).1⟩
  ·obtain⟨v,z⟩:=I.cell x c a1;exact⟨v,z.keeps kept⟩
 ·rcases d x c h with⟨a1,a2⟩|a1
  ·exact I.hok.fresh (bK a1)
  ·exact I.freeC x c a1
 ·show(qm T.length keep σ).length=(T++keep.map λi=>X.N.getD i (Str.ofString "")).length;unfold qm;rw[lA1,lA1,lR1,lM1,lM1]
noncomputable def ri(p:Pos)(tg:Expr)(ifs:List Expr)(it:dB)(env:Env)(emit:Sem Unit)(c:Code):Sem PySem.Fin:=do
 standAt p
 match<-pyNext it with
 |none=>pure (.done .next)
 |some v=>
  letOwnedTupleGo tg it v
  assign tg env v
  let mut ok:=M
  for c in ifs do
   if ok then ok<-isTrue c env (eval c env)
  if ok then emit
  again c
noncomputable def oY(elt:Expr)(acc:dB)(env:Env):Sem Unit:=do let _<-call (.builtin "list.append") [acc,<- eval elt env]
theorem tW(elt tg iter:Expr)(ifs:List Expr)(scope:dR)(pos:Pos)(it acc:dB)(env:Env):
  compTurn (.ListComp elt [⟨tg,iter,ifs,0⟩] scope pos) 0 it acc env=ri iter.pos tg ifs it env (oY elt acc env) (.compLoop (.ListComp elt [⟨tg,iter,ifs,0⟩] scope pos) 0 it acc env):=by rfl
noncomputable def n0(X:Cx)(ifs:List Expr)(t:TT):Prop:=
 ∀(ag:List (dE×Obj)) (s:dD) (σ:L2.St) (H:Hp) (Q:Bool->Hp->Prop),Inv X ag σ H s->t σ H Q ->
  dM (model X.prog X.w) X.A (forIn ifs M λc r=>if r=M then do let ok<-isTrue c X.env (eval c X.env);pure (ForInStep.yield ok)else pure (ForInStep.yield r)) (TP X ag σ Q) X.xe s
theorem yV{X:Cx}:n0 X [] (fun σ H Q=>Q M H):=λag s σ H Q I h=>wpAny_tests_nil ⟨H,I,h⟩
theorem yU{X:Cx}{c:Expr}{t:TT}(h:PT X c t):n0 X [c] t:=λag s σ H Q I q=>wpAny_tests_one (h ag s σ H Q I q)
noncomputable def PU(X:Cx)(m:Sem Unit)(t:TS):Prop:=
 ∀(ag:List (dE×Obj)) (s:dD) (σ:L2.St) (H:Hp) (E:ju),Inv X ag σ H s->t E σ H->dM (model X.prog X.w) X.A m (λ_ s'=>∃ σ' H',Inv X ag σ' H' s'/\E.nx σ' H') X.xe s
theorem oZ{X:Cx}(hx:X.xe=fun _ _=>False)(hc:X.calm=true){elt:Expr}{c:List Comprehension}{scope:dR}{pos p:Pos}{d:Nat}{tg:Expr}{ifs:List Expr}{acc:dB}{emit:Sem Unit}{am:It}{z:List dE}{it:dE}{P:Nat->dN->Prop}{g:TG}{ti:TT}{tb:TS}(eq:compTurn (.ListComp elt c scope pos) d (.ref it) acc X.env=ri p tg ifs (.ref it) X.env emit (.compLoop (.ListComp elt c scope pos) d (.ref it) acc X.env))(T:tu X.prog X.w X.K tg am z it P)(hg:PG X tg g)(hi:n0 X ifs ti)(he:PU X emit tb){ag:List (dE×Obj)}{s:dD}{σ:L2.St}{H:Hp}{D:ju}(I:Inv X ag σ H s)(st:P 0 s.heap)(wq:∀b∈z,js X ag H b)(h:∃W:Nat->Nat->L2.St->Hp->Prop,(∃m,W 0 m σ H) /\ ∀i m σ H,W i m σ H ->
   (am.stop i H/\D.nx σ H)\/(am.go i H /\ ∃N:L2.St->Hp->Prop,(∀a H',N a H' -> ∃au,au<m/\W (i+1) au a H') /\ ∀x H',am.yld i H x H'->g x σ H' λw H2=>ti w H2 λb y=>if b=M then tb {D with nx:=N} w y else N w y)):
  codeAny (model X.prog X.w) X.A (.compLoop (.ListComp elt c scope pos) d (.ref it) acc X.env) (λr s'=>match r with | .ok _=>∃a H',Inv X ag a H' s'/\D.nx a H' | .error _=>False) s:=by
 obtain⟨W,⟨m0,w0⟩,ao⟩:=h;have f:∀{H':Hp},(∀b∈z,H' b=Y) -> ∀b∈z,js X ag H' b:=λhn b l=>⟨hn b l,(wq b l).2⟩;refine codeAny_loop O (λn s'=>∃i a H',Inv X ag a H' s'/\P i s'.heap/\(∀b∈z,H' b=Y)/\W i n a H') ?_ m0 ⟨0,σ,H,I,st,λb l=>(wq b l).1,w0⟩;rintro n V ⟨i,j,y,I3,G,K,w3⟩;show dM _ _ ((compTurn (.ListComp elt c scope pos) d (.ref it) acc X.env).onRaise (λx=>do noteFrame x X.env;theTreesLotGoes x)) _ _ V;refine wpAny_noted ?_;rw[eq];have A:∀{α:Type} {m:Sem α} {Q:α->dD->Prop} {s:dD} {E:dB->dD->Prop},dM (model X.prog X.w) X.A m Q X.xe s->dM (model X.prog X.w) X.A m Q E s:=λh=>by
  rw[hx]at h;exact wpAny_mono h (λ_ _ q=>q) λ_ _ q=>q.elim
 unfold ri;refine wB1 (wpAny_standAt (wB1 ?_));rcases ao i n j y w3 with⟨F,qn⟩|⟨go,N,hN,step⟩
 ·refine A (fg (T.done X O O O hc i ag V j y X.xe I3 (f K) G F) λr s4 ⟨R,I4⟩=>?_);subst R;exact wP1 ⟨j,y,I4,qn⟩
 ·refine A (fg (T.item X rfl rfl rfl hc i ag V j y X.xe I3 (f K) G go) fun r s4 ⟨u,R,h4⟩=>?_);subst R;refine wB1 (A (fg h4 fun _ s5 ⟨x,aq,I5,r5,y5,t,U⟩=>?_));have S:=I5.pinned (f U) (T.obj _ _ t);refine wB1 (A (fg (hg _ s5 j aq x u _ S r5 (step x aq y5)) fun _ s6 ⟨L,H6,I6,q6⟩=>?_));refine wB1 (A (fg (hi _ s6 L H6 _ I6 q6) fun ok C ⟨v,B,q7⟩=>?_));have again':∀ {k:L2.St} {v:Hp} {C:dD},Inv X (ag++mM z s5.heap) k v C->N k v -> ∃ m,m<n /\ ∃ i a H',Inv X ag a H' C/\P i C.heap/\(∀ b∈z,H' b=none)/\W i m a H':=fun {k v C} B n7=>by
   obtain⟨au,hm,w7⟩:=hN k v n7;refine⟨au,hm,i+1,k,v,B.unpinned,T.keep _ _ _ t λb l o e=>(B.pin (b,o) (mA1 _ (mA1 _ (iA l e)))).1,λb l=>?_,w7⟩;obtain⟨o,e,d⟩:=T.obj _ _ t b l;exact(B.pin (b,o) (mA1 _ (mA1 _ (iA l e)))).2.1
  cases ok with
  |false=>exact wP1 ⟨O,again' B q7⟩
  |true=>exact wB1 (A (fg (he _ C L v _ B q7) λ_ s8 ⟨σ8,H8,I8,q8⟩=>wP1 ⟨O,again' I8 q8⟩))
noncomputable def rn(p:dE)(te:TE):TS:=λD σ H=>te σ H λx H1=>∃xs,H1 p=Z (.lst xs)/\xs.length<dL/\D.nx σ (upd H1 p (.lst (xs++[x])))
theorem pW{X:Cx}{elt:Expr}{te:TE}(h:PE X elt te)(p:dE):PU X (oY elt (.ref p) X.env) (rn p te):=by
 intro ag s σ H E I q;unfold oY;refine wB1 (fg (h ag s σ H _ I q) λu a ⟨x,H1,i,c,xs,b,f,e⟩=>?_);refine wB1 (fg (oE ag a σ H1 (.ref p) [x] (.ref p) [u] (λ_ H'=>E.nx σ H') i O (.cons c .nil) ⟨p,xs,x,O,O,b,f,e⟩) λ_ j ⟨_,H2,d,_,g⟩=>?_);exact wP1 ⟨σ,H2,d,g⟩
noncomputable def CY(am:It)(g:TG)(ti:TT)(tb:TS):TS:=λD σ H=>∃W:Nat->Nat->L2.St->Hp->Prop,(∃m,W 0 m σ H) /\ ∀i m σ H,W i m σ H ->
 (am.stop i H/\D.nx σ H)\/(am.go i H /\ ∃N:L2.St->Hp->Prop,(∀ σ' H',N σ' H' -> ∃m',m'<m/\W (i+1) m' σ' H') /\ ∀x H',am.yld i H x H'->g x σ H' fun σ2 H2=>ti σ2 H2 λb H3=>if b=M then tb {D with nx:=N} σ2 H3 else N σ2 H3)
theorem Un.sameBut{fs ex:List dE}{H H':Hp}{h h1 h2:dN}{c:dE}(u:Un fs ex H H' h h1)(hs:Heap.SameBut c h1 h2)(hc:h.get? c=Y):Un fs ex H H' h h2:=by
 have ne:∀{b o},h.get? b=Z o->b≠c:=λe z=>by rw[z,hc]at e;cases e
 refine⟨λb o e n d a=>(hs.2 b (ne e)).trans (u.keep b o e n d a),λb o e n d a=>?_,u.free,λb o e a=>?_,u.tups,u.frzs,u.tbls⟩
 ·obtain⟨sl,q⟩:=u.slot b o e n d a;exact⟨sl,(hs.2 b (ne e)).trans q⟩
 ·obtain⟨o',q⟩:=u.there b o e a;exact⟨o',(hs.2 b (ne e)).trans q⟩
noncomputable def u5(k:Nat)(keep:List Nat)(wi:TI)(g:TG)(ti:TT)(tb:dE->TS):TE:=fun σ H Q=>wi σ H λam H1=>∀p,H1 p=Y ->
 CY am g ti (tb p) {nx:=λ_ H'=>Q (.ref p) H',rt:=λ_ _=>False} (qm k keep σ) (upd H1 p (.lst []))
theorem vk{X:Cx}(hc:X.calm=true){elt tg iter:Expr}{ifs:List Expr}{rest:List Comprehension}{scope:dR}{pos:Pos}{T:List Str}{keep:List Nat}{l:List (Str×dE)}{L:TI}{g:TG}{ti:TT}{tb:dE->TS}{emit:dB->Env->Sem Unit}(eq:∀it k i,compTurn (.ListComp elt (⟨tg,iter,ifs,0⟩::rest) scope pos) 0 it k i=ri iter.pos tg ifs it i (emit k i) (.compLoop (.ListComp elt (⟨tg,iter,ifs,0⟩::rest) scope pos) 0 it k i))(C:FR X scope T keep)(t:i5 X.env.cells scope.names []=some l)(hi:PI X tg iter L)(hb:∀s H d p,PG (cxC X scope l T keep s H d) tg g/\n0 (cxC X scope l T keep s H d) ifs ti/\PU (cxC X scope l T keep s H d) (emit (.ref p) (cxC X scope l T keep s H d).env) (tb p))(hs:∀x,foldedSetIterable iter X.env x=pure x:=by intro _;rfl):
  PE X (.ListComp elt (⟨tg,iter,ifs,0⟩::rest) scope pos) (u5 T.length keep L g ti tb):=by
 intro ag s σ H Q I h;rw[eval_ListComp];refine wpAny_comprehension_free (use:=Y) O hs (Az t) C.kind C.names ?_;refine fg (hi ag s σ H _ I h) λv s1 h1=>fg h1 λS a h2=>?_;obtain⟨it,d,V,am,H2,rfl,ao,TT,y,E,wq⟩:=h2;refine wO1 ?_;have K:Inv X ag σ (upd H2 a.heap.objs.size (.lst [])) {a with heap:=a.heap.push {cls:=.type "list",data:=.seq ([]:List dB).toArray}}:=ao.lnew (t':=a.toks) .nil (bi _);have old:∀b∈d,∃o,a.heap.get? b=Z o:=λb hb=>by
  obtain⟨o,e,_⟩:=TT.obj 0 a.heap y b hb;exact⟨o,e⟩
 have D:∀b∈d,b≠a.heap.objs.size:=λb hb z=>by
  obtain⟨o,e⟩:=old b hb;have:=hL1 e;rw[z]at this;exact az _ this
 have A:∀b∈d,js X ag (upd H2 a.heap.objs.size (.lst [])) b:=λb hb=>⟨by rw[dY (D b hb)];exact(E b hb).1,(E b hb).2⟩;have W:∀b∈d,∃o,({a with heap:=a.heap.push {cls:=.type "list",data:=.seq ([]:List dB).toArray}}:dD).heap.get? b=Z o:=λb hb=>by
  obtain⟨o,e⟩:=old b hb;exact⟨o,hP1 _ e⟩
 have B:=sx K C t A W;obtain⟨hg,R,N⟩:=hb {a with heap:=a.heap.push {cls:=.type "list",data:=.seq ([]:List dB).toArray}} (upd H2 a.heap.objs.size (.lst [])) d a.heap.objs.size;refine jy ?_;have P:∀b∈d,js (cxC X scope l T keep {a with heap:=a.heap.push {cls:=.type "list",data:=.seq ([]:List dB).toArray}} (upd H2 a.heap.objs.size (.lst [])) d) [] (upd H2 a.heap.objs.size (.lst [])) b:=λb hb=>
  ⟨(A b hb).1,(B.ok.exf b hb).1,B.ok.exfs b hb,.inl hb,(B.ok.exf b hb).2,λp aq=>absurd (show p∈([]:List (dE×Obj))from aq) (by simp)⟩
 have u:V 0 (pushCells ((a.heap.push {cls:=.type "list",data:=.seq ([]:List dB).toArray}).push {cls:=.type "dict",data:=.dict #[]}) scope.names):=
  TT.keep 0 a.heap _ y λb hb o e=>pushCells_keeps scope.names _ b o (hP1 _ (hP1 _ e))
 have j:=oZ (X:=cxC X scope l T keep {a with heap:=a.heap.push {cls:=.type "list",data:=.seq ([]:List dB).toArray}} (upd H2 a.heap.objs.size (.lst [])) d) O hc (eq (.ref it) (.ref a.heap.objs.size) _) TT hg R N B u P
  (wq a.heap.objs.size (ao.hok.fresh (nR1 _)))
 refine codeAny_mono (codeAny_compStart_list j (TT.self X.A 0 _ _ _ u j)) λr s' F=>?_;cases r with
 |error e=>exact F.elim
 |ok f=>
  obtain⟨au,H',n,q'⟩:=F;obtain⟨m,hn,_⟩:=id n.loc;refine⟨m,hn,λh' w=>⟨.ref a.heap.objs.size,H',?_,O,q'⟩⟩;refine K.call' (s':={s' with heap:=h'}) (ch:=d) n.os (Un.sameBut n.base w (Heap.get?_none_of_le (nR1 _))) (λb U e=>?_) n.bare λb hb=>(A b hb).2.2.2 |> λz=>⟨z.1,(A b hb).2.1,z.2.1,z.2.2⟩
  refine(n.hok b U e).stay (λc w' hc q=>(w.2 c ?_).trans q) (λ_ q=>q) λ_ _ q=>q;rintro rfl;have G:=n.free;rcases hc with rfl|hc
  ·exact nomatch G.symm.trans e
  ·exact nomatch G.symm.trans hc
section
variable{K:Fg1}{H:Hp}{mu:List dE}{S:Sto}{p:dE}{u:HO}{o:Ob}{n:Nat}
theorem Rd.ne{a:dE}{x:HO}(h:H p=Y)(q:Rd H a x):a≠p:=by
 rintro rfl;rcases q with q|⟨_,q⟩<;>(rw[h]at q;cases q)
theorem Ext.fresh(hp:H p=Y):Ext mu mu H (upd H p u) where
 pre:=bn
 old:=λa o h _=>by rw[dY (eD h hp)];exact h
 tup:=λa xs h=>by
  have ne:=Rd.ne hp h;rcases h with h|⟨b,h⟩
  ·exact .inl (by rw[dY ne];exact h)
  ·exact .inr ⟨b,by rw[dY ne];exact h⟩
 frz:=λa o x h=>by rw[dY (eD h hp)];exact h
 new:=λ_ h=>.inl h
theorem Ext.new_(hp:H p=Y):Ext mu (mu++[p]) H (upd H p u) where
 pre:=bw _ _
 old:=(Ext.fresh (mu:=mu) hp).old
 tup:=(Ext.fresh (mu:=mu) hp).tup
 frz:=(Ext.fresh (mu:=mu) hp).frz
 new:=λa h=>by
  rcases aG.mp h with h|h
  ·exact .inl h
  ·have:a=p:=by simpa using h
   subst this;exact .inr hp
theorem Sim.fresh(s:Sim K H mu S)(hp:H p=Y):Sim K (upd H p u) mu S:=
 ⟨s.len,s.nd,λk o a h1 h2=>(s.ob k o a h1 h2).keep (Ext.fresh hp) λb e=>by rw[dY (eD e hp)];exact e⟩
theorem Sim.notin(s:Sim K H mu S)(hp:H p=Y):p∉mu:=λh=>by
 obtain⟨o,e⟩:=s.here h;rw[hp]at e;cases e
theorem jI.more{a:dE}{mu':List dE}{H':Hp}(e:Ext mu mu' H H')(h:∀o,H a=Z o->H' a=Z o):∀{o:Ob},jI K H mu a o->jI K H' mu' a o
 | .lst _,⟨vs,q,r⟩=>⟨vs,h _ q,r.ext e⟩
 | .dct _,⟨ws,q,r⟩=>⟨ws,h _ q,KR.ext e r⟩
 | .dcT _,⟨ws,q,r,l⟩=>⟨ws,h _ q,KT.ext e r,l⟩
 | .iset _,q=>⟨h _ q.1,q.2⟩
 | .dcF _,⟨ws,⟨o,u,c,b⟩,r,l⟩=>⟨ws,⟨o,u,h _ c,b⟩,KT.ext e r,l⟩
 | .tst _,⟨ws,q,r⟩=>⟨ws,h _ q,KT.ext e r⟩
theorem Sim.new(s:Sim K H mu S)(hp:H p=Y)(ho:jI K (upd H p u) (mu++[p]) p o):Sim K (upd H p u) (mu++[p]) (S++[o]):=by
 refine⟨by rw[lA1,lA1,s.len];rfl,?_,λk o' a h1 h2=>?_⟩
 ·rw[bB];refine⟨s.nd,by simp,λa f b g e=>?_⟩;have:b=p:=by simpa using g
  subst this;subst e;exact s.notin hp f
 ·by_cases d:k<S.length
  ·rw[gL1 d]at h1;rw[gL1 (by rw[s.len];exact d)]at h2;exact(s.ob k o' a h1 h2).more (Ext.new_ hp) λh e=>by rw[dY (eD e hp)];exact e
  ·have c:k=S.length:=by
    have:=(gE1.mp h1).1;rw[lA1]at this;simp at this;lia
   subst c;rw[gR1 (nR1 _)]at h1;rw[<- s.len,gR1 (nR1 _)]at h2;simp at h1 h2;subst h1;subst h2;exact ho
theorem Ext.put{x:HO}(hp:H p=Z x)(hm:Mut (Z x))(b:p∈mu):Ext mu mu H (upd H p u) where
 pre:=bn
 old:=λa o h n=>by rw[dY (λe=>n (by rw[e];exact b))];exact h
 tup:=λa xs h=>by
  have ne:a≠p:=by
   rintro rfl;rcases h with h|⟨_,h⟩<;>(rw[hp]at h;cases h;exact hm)
  rcases h with h|⟨c,h⟩
  ·exact .inl (by rw[dY ne];exact h)
  ·exact .inr ⟨c,by rw[dY ne];exact h⟩
 frz:=λa o y h=>by
  rw[dY (λe=>?_)]
  ·exact h
  ·subst e;rw[hp]at h;cases h;exact hm
 new:=λ_ h=>.inl h
theorem Sim.put(s:Sim K H mu S){x:HO}(hn:mu[n]?=Z p)(hp:H p=Z x)(hm:Mut (Z x))(ho:jI K (upd H p u) mu p o):Sim K (upd H p u) mu (S.set n o):=by
 refine⟨by rw[aW];exact s.len,s.nd,λk o' a h1 h2=>?_⟩;by_cases b:n=k
 ·subst b;have f:n<S.length:=by
   have:=(gE1.mp h1).1
   rwa [aW]at this
  rw[aI f]at h1;cases h1;rw[hn]at h2;cases h2;exact ho
 ·rw [gS1 b] at h1;have ne:a≠p:=fun e=>by
   subst e;obtain⟨i,c⟩:=gE1.mp hn;obtain⟨h,d⟩:=gE1.mp h2;exact b ((List.getElem_inj s.nd).mp (c.trans d.symm))
  exact(s.ob k o' a h1 h2).keep (Ext.put hp hm (gM1 hn)) λg e=>by rw[dY ne];exact e
theorem Sim.lst(s:Sim K H mu S){ds:List D}{a:dE}(h:S[n]?=Z (.lst ds))(hn:mu[n]?=Z a):∃vs,H a=Z (.lst vs)/\d0 K H mu ds vs:=s.ob n _ a h hn
theorem Sim.dcT(s:Sim K H mu S){ks:List (TK×D)}{a:dE}(h:S[n]?=Z (.dcT ks))(hn:mu[n]?=Z a):∃ws,H a=Z (.ext (gb a ws))/\KT K H mu ks ws/\ws.length<=dL:=s.ob n _ a h hn
theorem Sim.dct(s:Sim K H mu S){ks:List (Key×D)}{a:dE}(h:S[n]?=Z (.dct ks))(hn:mu[n]?=Z a):∃ws,H a=Z (.dK ws)/\KR K H mu ks ws:=s.ob n _ a h hn
theorem Sim.newL(s:Sim K H mu S){ds:List D}{vs:List V}(r:d0 K H mu ds vs)(hp:H p=Y):Sim K (upd H p (.lst vs)) (mu++[p]) (S++[.lst ds]):=s.new hp ⟨vs,d4,r.ext (Ext.new_ hp)⟩
theorem Sim.putL(s:Sim K H mu S){ds:List D}{vs ws:List V}(r:d0 K H mu ds vs)(hn:mu[n]?=Z p)(hp:H p=Z (.lst ws)):Sim K (upd H p (.lst vs)) mu (S.set n (.lst ds)):=
 s.put hn hp trivial ⟨vs,d4,r.ext (Ext.put hp trivial (gM1 hn))⟩
end
theorem fZ{mu:List dE}{S:Sto}(h:mu.length=S.length)(p:dE):(mu++[p])[S.length]?=Z p:=by
 rw[<- h,gR1 (nR1 _)];simp
noncomputable def eQ (a:FA):FE:=λr S=>(a r S).bind λp=>if p.1.length<=dL then some (.tup p.1,p.2)else none
noncomputable def jD (a:FA):FE:=λr S=>(a r S).bind λp=>if p.1.length<=dL then some (.ref p.2.length,p.2++[.lst p.1])else none
section
variable{X:Cx}{es:List Expr}{pos:Pos}{a:FA}
theorem EM{x1}(h:MA X es a):ME X (.Tuple es x1 pos) (eQ a):=eU (Eb h) <| by
 rintro σ H Q ⟨r,mu,S,d,l,i,k,b,hc⟩;obtain⟨⟨ds,m⟩,g,b⟩:=oB1.mp b;dsimp only at b;split at b
 ·rename_i j;cases b;refine⟨r,mu,S,ds,_,i,k,g,λvs H1 mu1 x1 e f=>⟨by rw[<- e.length];exact j,λp c=>?_⟩⟩;exact hc _ _ mu1 (x1.trans (Ext.fresh c)) (.tup (jm.of d4) (e.ext (Ext.fresh c))) (f.fresh c)
 ·cases b
theorem ER(h:MA X es a):ME X (.List es pos) (jD a):=eU (Ee h) <| by
 rintro σ H Q ⟨r,mu,S,d,m,i,k,b,hc⟩;obtain⟨⟨ds,n⟩,g,b⟩:=oB1.mp b;dsimp only at b;split at b
 ·rename_i j;cases b;refine⟨r,mu,S,ds,_,i,k,g,λvs H1 mu1 l e c=>⟨by rw[<- e.length];exact j,λp f=>?_⟩⟩;exact hc _ _ (mu1++[p]) (l.trans (Ext.new_ f)) (.ref (fZ c.len p)) (c.newL e f)
 ·cases b
end
noncomputable def nR(k:Nat)(keep:List Nat)(r:Ev):Ev:=aO k Y++keep.map λi=>(r[i]?).join
noncomputable def gu:FT:=λ_ S=>Z (M,S)
theorem C7{K:Fg1}{H:Hp}{mu:List dE}{r:Ev}{σ:L2.St}(k:Nat)(keep:List Nat)(h:fJ K H mu r σ):fJ K H mu (nR k keep r) (qm k keep σ):=by
 refine⟨by unfold nR qm;rw[lA1,lA1,lM1,lM1,lR1,lR1],λi d e=>?_⟩;unfold nR at e;unfold qm;by_cases hi:i<k
 ·rw[gL1 (by rw[lR1];exact hi),aR]at e;split at e<;>cases e
 ·rw [gR1 (by rw [lR1];lia),lR1,gP1] at e;rw [gR1 (by rw [lR1];lia),lR1,gP1];obtain ⟨j,c,e⟩:=oM1.mp e;rw [c];have f:r[j]? = some (some d):=by
   cases q:r[j]? with
   |none=>rw[q]at e;cases e
   |some o=>rw[q]at e;cases e;rfl
  obtain⟨v,a,b⟩:=h.val j d f;exact⟨v,by rw[oP1,a];rfl,b⟩
section
variable{X:Cx}
theorem yW{ifs:List Expr}{t t':L2.TT}(h:n0 X ifs t)(i:∀ σ H Q,t' σ H Q->t σ H Q):n0 X ifs t':=λag s σ H Q I q=>h ag s σ H Q I (i σ H Q q)
theorem BS:n0 X [] (yp X.K gu):=yW yV fun σ H Q ⟨r,mu,S,b,d,e,c,a,hc⟩=>by cases a;exact hc H mu (.refl _ _) c
theorem BR{c:Expr}{t:FT}(h:MT X c t):n0 X [c] (yp X.K t):=yU h
end
open PySem.AutoSeq1 (wpAny_loadPart')
noncomputable def SIt(b:Bool)(h:dN)(it a:dE)(i:Nat):Prop:=match b with
 |true=>h.IsListIter it a i
 |false=>h.IsTupleIter it a i
noncomputable def SCo(b:Bool)(h:dN)(a:dE)(xs:Array dB):Prop:=match b with
 |true=>h.IsList a xs
 |false=>h.IsTuple a xs
theorem SIt.to{b:Bool}{h h':dN}{it a:dE}{i:Nat}(x:SIt b h it a i)(k:∀o,h.get? it=Z o->h'.get? it=Z o):SIt b h' it a i:=by
 cases b<;>(obtain⟨o,e,r⟩:=x;exact⟨o,k o e,r⟩)
theorem SIt.rec_{b:Bool}{h:dN}{it a:dE}{i:Nat}(x:SIt b h it a i):∃o,h.get? it=Z o /\ ∀v,o.data ≠ .cell v:=by
 cases b<;>(obtain⟨o,e,c,d⟩:=x;exact⟨o,e,λv z=>by rw[d]at z;cases z⟩)
theorem SCo.to{b:Bool}{h h':dN}{a:dE}{xs:Array dB}(x:SCo b h a xs)(k:∀o,h.get? a=Z o->h'.get? a=Z o):SCo b h' a xs:=by
 cases b<;>(obtain⟨o,e,r⟩:=x;exact⟨o,k o e,r⟩)
noncomputable def gm(b:Bool)(a:dE):Obj:=match b with
 |true=>{cls:=.type "list_iterator",data:=.fields #[.ref a,.int 0 0]}
 |false=>{cls:=.type "tuple_iterator",data:=.fields #[.ref a,.int 0 0]}
section
variable{prog:dF}{w:dH}{A:dG}{E:dB->dD->Prop}{s:dD}
theorem pO{b:Bool}{h:dN}{it a:dE}(e:h.get? it=Z (gm b a)):SIt b h it a 0:=by
 cases b<;>exact⟨_,e,O,O⟩
theorem jS{b:Bool}{a:dE}{xs:Array dB}{Q:dB->dD->Prop}(x:SCo b s.heap a xs)(h:Q (.ref s.heap.objs.size) {s with heap:=s.heap.push (gm b a)}):dM (model prog w) A (pyIter (.ref a)) Q E s:=by
 cases b
 ·exact wpAny_pyIter_tuple x h
 ·exact wpAny_pyIter_list x h
theorem zp{it l:dE}{i:Nat}{xs:Array dB}{x:dB}{Q:dB->dD->Prop}(ti:s.heap.IsTupleIter it l i)(tl:s.heap.IsTuple l xs)(hx:xs[i]? = Z x)(e:∀h',h'.IsTupleIter it l (i+1)->Heap.SameBut it s.heap h'->Q x {s with heap:=h'}):dM (model prog w) A (Builtin.SmallTypes.nextOf (.ref it)) Q E s:=by
 obtain⟨o,b,hc,a⟩:=id ti;obtain⟨g,d,_,f,c⟩:=tl;unfold Builtin.SmallTypes.nextOf;refine wB1 (wpAny_callSpecial?_slot (name:=Str.ofString "__next__") ti.typeIs F.slot_tuple_iterator_next (wE1 F.slot_tuple_iterator_next ti.typeIs F.entry_tuple_iterator_next ?_ (F.args_tuple_iterator_next_1 _)));show dM _ _ (field (.ref it) 0 >>= _) _ _ s;refine wB1 (wpAny_field b a (x:=.ref l) O ?_);show dM _ _ (if(Value.ref l == Value.none)=M then _ else _) _ _ s;rw[aj (show¬ ((Value.ref l == Value.none)=M)from aK)];show dM _ _ (field (.ref it) 1 >>= _) _ _ s;refine wB1 (wpAny_field b a (x:=.int i 0) O ?_);show dM _ _ (seqItems? (.ref l) >>= _) _ _ s;refine wB1 (wpAny_seqItems d c ?_);simp only[Int.toNat_natCast,hx];refine wB1 (wpAny_setField b a (by simp) (wP1 ⟨x,O,wP1 (e _ ⟨_,hW1 _ b (Obj.isFreed_of_fields (Obj.data_mapFields a _)),(Obj.cls_mapFields ..).trans hc,by rw[Obj.data_mapFields a];simp[rawInt]⟩ (Heap.SameBut.update ..))⟩))
theorem qf {it l:dE}{i:Nat}{xs:Array dB}{Q:dB->dD->Prop}(g:A.handled=none)(ti:s.heap.IsTupleIter it l i)(tl:s.heap.IsTuple l xs)(hx:xs[i]? = none)
  (h:∀h' e,Heap.ExtBut it s.heap h'->(∃o,h'.get? e=Z o/\o.cls = .type "StopIteration")->E (.ref e) {s with heap:=h'}):dM (model prog w) A (Builtin.SmallTypes.nextOf (.ref it)) Q E s:=by
 obtain⟨o,d,hc,b⟩:=id ti;obtain⟨k,f,_,j,c⟩:=tl;unfold Builtin.SmallTypes.nextOf;refine wB1 (wpAny_callSpecial?_slot (name:=Str.ofString "__next__") ti.typeIs F.slot_tuple_iterator_next (wE1 F.slot_tuple_iterator_next ti.typeIs F.entry_tuple_iterator_next ?_ (F.args_tuple_iterator_next_1 _)));show dM _ _ (field (.ref it) 0 >>= _) _ _ s;refine wB1 (wpAny_field d b (x:=.ref l) O ?_);show dM _ _ (if(Value.ref l == Value.none)=M then _ else _) _ _ s;rw[aj (show¬ ((Value.ref l == Value.none)=M)from aK)];show dM _ _ (field (.ref it) 1 >>= _) _ _ s;refine wB1 (wpAny_field d b (x:=.int i 0) O ?_);show dM _ _ (seqItems? (.ref l) >>= _) _ _ s;refine wB1 (wpAny_seqItems f c ?_);simp only[Int.toNat_natCast,hx];refine wB1 (wpAny_rule (wB1 (wpAny_setField d b (by simp) ?_)));show dM _ _ (newExc (.type "StopIteration") [] >>= _) _ _ _;refine wB1 ?_;simp only[newExc,newTuple];refine wB1 (wO1 ?_ (by size_fits));refine wB1 (m:=firstArgMember _ _) (wpAny_of_eq (a:=Value.none) (by first|rfl|(simp only[firstArgMember];rfl)) ?_);refine wO1 ?_ (by size_fits);simp only[raiseNew];refine wB1 (wpAny_handled ?_)
 first|rw[show A.in1.handled=Y from g] | rw[g]
 refine wB1 (wP1 (wpAny_throw ?_));exact h _ _ (((Heap.SameBut.update ..).extBut.push _).push _) ⟨_,hS1 _ O,O⟩
theorem ke{b:Bool}{it l:dE}{i:Nat}{xs:Array dB}{x:dB}{Q:dB->dD->Prop}(ti:SIt b s.heap it l i)(tl:SCo b s.heap l xs)(hx:xs[i]? = Z x)(a:∀h',SIt b h' it l (i+1)->Heap.SameBut it s.heap h'->Q x {s with heap:=h'}):dM (model prog w) A (Builtin.SmallTypes.nextOf (.ref it)) Q E s:=by
 cases b
 ·exact zp ti tl hx a
 ·exact wpAny_nextOf_list_item ti tl hx a
theorem iy {b:Bool}{it l:dE}{i:Nat}{xs:Array dB}{Q:dB->dD->Prop}(a:A.handled=none)(ti:SIt b s.heap it l i)(tl:SCo b s.heap l xs)(hx:xs[i]? = none)
  (c:∀h' e,Heap.ExtBut it s.heap h'->(∃o,h'.get? e=Z o/\o.cls = .type "StopIteration")->E (.ref e) {s with heap:=h'}):dM (model prog w) A (Builtin.SmallTypes.nextOf (.ref it)) Q E s:=by
 cases b
 ·exact qf a ti tl hx c
 ·exact wpAny_nextOf_list_end a ti tl hx c
theorem An{b:Bool}(l:dE)(xs:Array dB):
  Meets (Builtin.«enumerate.__new__» ⟨[.type "enumerate",.ref l],[]⟩) (λ_ R s=>SCo b s.heap l xs /\
   R (.ok (.ret (.ref (s.heap.push (gm b l)).objs.size))) {s with heap:=(s.heap.push (gm b l)).push {cls:=.type "enumerate",data:=.fields #[.none,.bool J,.ref s.heap.objs.size,rawInt 0,.none,.none]}}):=
 .of_wp λprog w A R s h=>by
  obtain⟨j,g,d,tk,m⟩:=s;obtain⟨k,h⟩:=h;have i:=sub_enumerate
  have f:SCo b (Shared.heap ⟨j,g,d,tk,m⟩) l xs:=k;obtain⟨n,a⟩:∃o,j.get? l=some o:=by cases b<;>(obtain⟨o,e,_⟩:=k;exact⟨o,e⟩)
  wp_walk using wpAny_loadPart' a
  refine wpAny_stack_any λst=>wP1 ?_;split
  ·rename_i c _ _ _ _ _;cases(c == Value.type "enumerate")<;>(wp_walk using wpAny_loadPart' a,jS f;exact⟨_,O,h⟩)
  ·wp_walk using wpAny_loadPart' a,jS f
   exact⟨_,O,h⟩
theorem xj{b:Bool}{l:dE}{xs:Array dB}{Q:dB->dD->Prop}(f:SCo b s.heap l xs)(h:∀h',IsEnum h' (s.heap.objs.size+1) s.heap.objs.size 0 .none->SIt b h' s.heap.objs.size l 0->h'.objs.size=s.heap.objs.size+2->(∀b o,s.heap.get? b=some o->h'.get? b=some o)->Q (.ref (s.heap.objs.size+1)) {s with heap:=h'}):
  dM (model prog w) A (call (.type "enumerate") [.ref l]) Q E s:=by
 refine callType_new F.called_enumerate (by decide) (F.typeCall_enumerate_1 _) (F.newCall_enumerate_1 _) (λd=>F.args_object_init_2 d _) F.entry_enumerate_new (An (b:=b) l xs) ⟨f,?_⟩;have a:(s.heap.push (gm b l)).objs.size=s.heap.objs.size+1:=hZ1 ..
 show _/\_;rw[a];have e:IsEnum ((s.heap.push (gm b l)).push {cls:=.type "enumerate",data:=.fields #[.none,.bool J,.ref s.heap.objs.size,rawInt 0,.none,.none]}) (s.heap.objs.size+1) s.heap.objs.size 0 .none:=by
  have q:=hS1 (s.heap.push (gm b l)) (o:={cls:=.type "enumerate",data:=.fields #[.none,.bool J,.ref s.heap.objs.size,rawInt 0,.none,.none]}) O;rw[a]at q;exact q
 have hi:(s.heap.push (gm b l)).get? s.heap.objs.size=Z (gm b l):=hS1 _ (by cases b<;>rfl);refine⟨⟨_,e,O⟩,h _ e (pO (hP1 _ hi)) (by rw[hZ1,a]) λc o x=>hP1 _ (hP1 _ x)⟩
theorem xi {b:Bool}{e it l:dE}{i:Nat}{xs:Array dB}{x old:dB}{Q:Option dB->dD->Prop}(he:IsEnum s.heap e it i old)(ti:SIt b s.heap it l i)(tl:SCo b s.heap l xs)(hx:xs[i]? = some x)(n:e≠it)
  (U:∀h',IsEnumOut h' e it ((i:Int)+1) x s.heap.objs.size->SIt b h' it l (i+1)->h'.get? s.heap.objs.size=Z {cls:=.type "tuple",data:=.seq #[.int i s.toks,x]}->h'.objs.size=s.heap.objs.size+1 ->
   (∀b o,b≠e->b≠it->s.heap.get? b=Z o->h'.get? b=Z o)->Q (Z (.ref s.heap.objs.size)) {s with heap:=h',toks:=s.toks+1}):dM (model prog w) A (pyNext (.ref e)) Q E s:=by
 have T:s.TypeIs (.ref e) "enumerate":=⟨_,he,O⟩;unfold pyNext;refine wB1 (wpAny_attempt (wpAny_callSpecial?_slot (name:=Str.ofString "__next__") T F.slot_enumerate_next (wE1 F.slot_enumerate_next T F.entry_enumerate_next ?_ (F.args_enumerate_next_1 _))));obtain⟨j,g,d,tk,t⟩:=s;show dM _ _ (field (.ref e) 2 >>= _) _ _ _;refine wB1 (wpAny_field he O (x:=.ref it) O ?_);refine wB1 (ke ti tl hx λh1 H C=>?_);replace C:Heap.SameBut it j h1:=C;have r:IsEnum h1 e it i old:=(C.2 e n).trans he;show dM _ _ (field (.ref e) 3 >>= _) _ _ ⟨h1,g,d,tk,t⟩;refine wB1 (wpAny_field r O (x:=rawInt i) O ?_);show dM _ _ (field (.ref e) 4 >>= _) _ _ ⟨h1,g,d,tk,t⟩;refine wB1 (wpAny_field r O (x:=.none) O ?_);show dM _ _ (mkInt i >>= _) _ _ ⟨h1,g,d,tk,t⟩;refine wB1 (wpAny_mkInt ?_);show dM _ _ (setField (.ref e) 3 (rawInt ((i:Int)+1)) >>= _) _ _ ⟨h1,g,d,tk+1,t⟩;refine wB1 (wS1 r (by simp) λh2 p D=>?_);replace D:Heap.SameBut e h1 h2:=D;replace p:IsEnum h2 e it ((i:Int)+1) old:=p;show dM _ _ (setField (.ref e) 4 .none >>= _) _ _ ⟨h2,g,d,tk+1,t⟩;refine wB1 (wS1 p (by simp) λh3 h G=>?_);replace G:Heap.SameBut e h2 h3:=G;replace h:IsEnum h3 e it ((i:Int)+1) old:=h;show dM _ _ (newTuple [.int i tk,x] >>= _) _ _ ⟨h3,g,d,tk+1,t⟩;refine wB1 (wpAny_newTuple ?_);have m:IsEnum (h3.push {cls:=.type "tuple",data:=.seq #[.int i tk,x]}) e it ((i:Int)+1) old:=hP1 _ h;generalize a:h3.push {cls:=.type "tuple",data:=.seq #[.int i tk,x]}=h4 at m;have k:h3.objs.size=j.objs.size:=by rw[G.1,D.1,C.1]
 have P:e<j.objs.size:=hL1 he;have ao:h4.get? j.objs.size=Z {cls:=.type "tuple",data:=.seq #[.int i tk,x]}:=by rw[<- a,<- k];exact hS1 _ O
 have R:h4.objs.size=j.objs.size+1:=by rw[<- a,hZ1,k]
 have au:∀b o,b≠e->b≠it->j.get? b=Z o->h4.get? b=Z o:=λb o f u S=>by
  rw[<- a];exact hP1 _ (G.extBut b o f (D.extBut b o f (C.extBut b o u S)))
 have N:SIt b h4 it l (i+1):=H.to λo q=>by rw[<- a];exact hP1 _ (G.extBut _ _ (Ne.symm n) (D.extBut _ _ (Ne.symm n) q))
 show dM _ _ (Builtin.SmallTypes.ownedTupleIsFree (.ref e) >>= _) _ _ ⟨h4,g,d,tk+1,t⟩;rw[k];clear a h G p D r C H k h3 h2 h1;refine wB1 ?_;unfold Builtin.SmallTypes.ownedTupleIsFree;refine wB1 (wpAny_field m O (x:=.none) O (wP1 ?_));simp only[if_true];refine wB1 (wpAny_rule ?_);refine wB1 (wpAny_field m O (x:=old) O ?_);refine wB1 (wS1 m (by simp) λh5 v am=>?_);replace am:Heap.SameBut e h4 h5:=am;replace v:IsEnum h5 e it ((i:Int)+1) x:=v;show dM _ _ (Builtin.SmallTypes.ownedTupleHandOut (.ref e) (.ref j.objs.size) >>= _) _ _ ⟨h5,g,d,tk+1,t⟩;refine wB1 ?_;unfold Builtin.SmallTypes.ownedTupleHandOut;refine wB1 (wS1 v (by simp) λh6 B I=>?_);replace I:Heap.SameBut e h5 h6:=I;replace B:IsEnumOut h6 e it ((i:Int)+1) x j.objs.size:=B;refine wS1 B (by simp) λh7 y K=>?_;replace K:Heap.SameBut e h6 h7:=K;replace y:IsEnumOut h7 e it ((i:Int)+1) x j.objs.size:=y;have L:∀c o,c≠e->h4.get? c=Z o->h7.get? c=Z o:=λc o z q=>K.extBut _ _ z (I.extBut _ _ z (am.extBut _ _ z q));refine wB1 (wpAny_letGo (wP1 ⟨_,O,wP1 (U h7 y (N.to λo q=>L _ o (Ne.symm n) q) (L _ _ (nG1 P) ao) (by rw[K.1,I.1,am.1,R]) λc o f u S=>L c o f (au c o f u S))⟩))
theorem Ao{b:Bool}{e it l:dE}{i:Nat}{xs:Array dB}{old:dB}{Q:Option dB->dD->Prop}(f:A.handled=Y)(he:IsEnum s.heap e it i old)(ti:SIt b s.heap it l i)(tl:SCo b s.heap l xs)(hx:xs[i]? = Y)(h:∀h',Heap.ExtBut it s.heap h'->Q Y {s with heap:=h'}):dM (model prog w) A (pyNext (.ref e)) Q E s:=by
 have d:s.TypeIs (.ref e) "enumerate":=⟨_,he,O⟩;unfold pyNext;refine wB1 (wpAny_attempt (wpAny_callSpecial?_slot (name:=Str.ofString "__next__") d F.slot_enumerate_next (wE1 F.slot_enumerate_next d F.entry_enumerate_next ?_ (F.args_enumerate_next_1 _))));show dM _ _ (field (.ref e) 2 >>= _) _ _ _;refine wB1 (wpAny_field he O (x:=.ref it) O ?_);refine wB1 (iy f ti tl hx λh' x c a=>?_);obtain⟨o,g,hc⟩:=a;refine wB1 (wpAny_isInstance (T:="StopIteration") (b:=M) ⟨o,g,hc⟩ isSubtype_stop ?_);exact wP1 (h _ c)
theorem oV{e it:dE}{i:Int}{old:dB}{Q:dB->dD->Prop}(he:IsEnum s.heap e it i old)(h:Q (.ref e) s):dM (model prog w) A (pyIter (.ref e)) Q E s:=by
 have a:s.TypeIs (.ref e) "enumerate":=⟨_,he,O⟩;refine wpAny_pyIter_slot a F.slot_enumerate_iter (wE1 F.slot_enumerate_iter a F.entry_enumerate_iter ?_ (F.args_enumerate_iter_1 _));show dM _ _ (ret (.ref e)) _ _ s;exact wP1 ⟨_,O,"enumerate",_,a,F.slot_enumerate_next.lookup,h⟩
end
open PySem.AutoSeq1 (wpAny_loadPart')
structure I1 (z ti to i1 i2:dE):Prop where
 a1:ti≠z
 a2:to≠z
 a3:i1≠z
 a4:i2≠z
 a5:ti≠to
 a6:ti≠i1
 a7:ti≠i2
 a8:to≠i1
 a9:to≠i2
 a10:i1≠i2
section
variable{prog:dF}{w:dH}{A:dG}{E:dB->dD->Prop}{s:dD}{b1 b2:Bool}
theorem SCo.ne{b:Bool}{h:dN}{a c:dE}{xs:Array dB}{o:Obj}(x:SCo b h a xs)(e:h.get? c=Z o)(n:∀ys k,o.data ≠ .seq ys k):a≠c:=by
 rintro rfl;cases b<;>(obtain⟨o',f,g,k,d⟩:=x;rw[e]at f;cases f;exact n _ _ d)
theorem SCo.ne_it{b f:Bool}{h:dN}{a it l:dE}{xs:Array dB}{i:Nat}(x:SCo b h a xs)(y:SIt f h it l i):a≠it:=by
 cases f<;>(obtain⟨o,e,c,d⟩:=y;exact x.ne e λys k z=>by rw[d]at z;cases z)
theorem xQ{z ti to i1 k u r:dE}{P N:Nat}{xs ys:Array dB}{x y a b:dB}{Q:Option dB->dD->Prop}(D:I1 z ti to i1 k)(j:IsZip s.heap z ti to .none)(hti:IsPair s.heap ti (.ref i1) (.ref k))(wq:IsPair s.heap to a b)(n1:u≠to)(n2:r≠to)(h1:SIt b1 s.heap i1 u P)(h2:SIt b2 s.heap k r N)(c1:SCo b1 s.heap u xs)(c2:SCo b2 s.heap r ys)(hx:xs[P]?=some x)(hy:ys[N]?=some y)(hQ:∀h',IsZip h' z ti to (rawInt s.heap.objs.size)->IsPair h' to x y->SIt b1 h' i1 u (P+1)->SIt b2 h' k r (N+1)->IsPair h' s.heap.objs.size x y->h'.objs.size=s.heap.objs.size+1 ->
   (∀c o,c≠z->c≠to->c≠i1->c≠k->s.heap.get? c=Z o->h'.get? c=Z o)->Q (Z (.ref s.heap.objs.size)) {s with heap:=h'}):dM (model prog w) A (pyNext (.ref z)) Q E s:=by
 have hT:s.TypeIs (.ref z) "zip":=⟨_,j,O⟩;have U:u≠z:=c1.ne j λ_ _ q=>by cases q
 have l2z:r≠z:=c2.ne j λ_ _ q=>by cases q
 have C:r≠i1:=c2.ne_it h1;unfold pyNext;refine wB1 (wpAny_attempt (wpAny_callSpecial?_slot (name:=Str.ofString "__next__") hT F.slot_zip_next (wE1 F.slot_zip_next hT F.entry_zip_next ?_ (F.args_zip_next_1 _))));show dM _ _ (field (.ref z) 2 >>= _) _ _ _;refine wB1 (wpAny_field j O (x:=.bool J) O ?_);show dM _ _ (field (.ref z) 3 >>= _) _ _ _;refine wB1 (wpAny_field j O (x:=.ref ti) O ?_);refine wB1 (wpAny_seqItems hti O ?_);show dM _ _ (Builtin.SmallTypes.ownedTupleIsFree (.ref z) >>= _) _ _ _;refine wB1 ?_;unfold Builtin.SmallTypes.ownedTupleIsFree;refine wB1 (wpAny_field j O (x:=.none) O (wP1 ?_));simp only[if_true];refine wB1 (wpAny_rule ?_);refine wB1 (wpAny_field j O (x:=.ref to) O ?_);refine wB1 (wS1 j (by simp) λg1 n m=>?_);replace n:IsZip g1 z ti to .ellipsis:=n;refine wB1 ?_;simp only[bM,List.zipIdx_nil,bG,List.forIn_nil];refine wB1 (wB1 (wpAny_onRaise ?_));show dM _ _ (Builtin.SmallTypes.nextOf (.ref i1) >>= _) _ _ _
 refine wB1 (ke (h1.to λo q=>m.extBut _ _ D.a3 q) (c1.to λo q=>m.extBut _ _ U q) hx λg2 T B=>wP1 ?_);have l:IsPair g2 to a b:=B.extBut _ _ D.a8 (m.extBut _ _ D.a2 wq);refine wB1 (wpAny_seqItems l O ?_);refine wB1 (wpAny_updateSeq_pair l λg3 f v=>?_);replace f:IsPair g3 to x b:=f;refine wB1 (wpAny_letGo (wP1 ?_));refine wB1 (wB1 (wpAny_onRaise ?_));show dM _ _ (Builtin.SmallTypes.nextOf (.ref k) >>= _) _ _ _
 refine wB1 (ke (h2.to λo q=>v.extBut _ _ D.a9.symm (B.extBut _ _ D.a10.symm (m.extBut _ _ D.a4 q))) (c2.to λo q=>v.extBut _ _ n2 (B.extBut _ _ C (m.extBut _ _ l2z q))) hy λg4 h24 H=>wP1 ?_);have i:IsPair g4 to x b:=H.extBut _ _ D.a9 f;refine wB1 (wpAny_seqItems i O ?_);refine wB1 (wpAny_updateSeq_pair i λd e am=>?_);replace e:IsPair d to x y:=e;refine wB1 (wpAny_letGo (wP1 (wP1 ?_)));refine wB1 (wpAny_seqItems e O ?_);refine wB1 (wpAny_newTuple ?_);have K:d.objs.size=s.heap.objs.size:=by rw[am.1,H.1,v.1,B.1,m.1]
 have G:IsZip d z ti to .ellipsis:=am.extBut _ _ D.a2.symm (H.extBut _ _ D.a4.symm (v.extBut _ _ D.a2.symm (B.extBut _ _ D.a3.symm n)));have S:∀c o,c≠z->c≠to->c≠i1->c≠k->s.heap.get? c=Z o->d.get? c=Z o:=λc o p R W q4 q=>am.extBut _ _ R (H.extBut _ _ q4 (v.extBut _ _ R (B.extBut _ _ W (m.extBut _ _ p q))));have aq:SIt b1 d i1 u (P+1):=T.to λo q=>am.extBut _ _ D.a8.symm (H.extBut _ _ D.a10 (v.extBut _ _ D.a8.symm q));have V:SIt b2 d k r (N+1):=h24.to λo q=>am.extBut _ _ D.a9.symm q;have h:z<d.objs.size:=hL1 G;show dM _ _ (Builtin.SmallTypes.ownedTupleHandOut (.ref z) (.ref d.objs.size) >>= _) _ _ _;refine wB1 ?_;unfold Builtin.SmallTypes.ownedTupleHandOut;have hz6:IsZip (d.push {cls:=.type "tuple",data:=.seq #[x,y]}) z ti to .ellipsis:=hP1 _ G;refine wB1 (wS1 hz6 (by simp) λg7 t s7=>?_);replace t:IsZip g7 z ti to (rawInt d.objs.size):=t;refine wS1 t (by simp) λL g X=>?_;replace g:IsZip L z ti to (rawInt d.objs.size):=g;have au:∀c o,c≠z->d.get? c=Z o->L.get? c=Z o:=λc o p q=>X.extBut _ _ p (s7.extBut _ _ p (hP1 _ q));have ao:IsPair L d.objs.size x y:=X.extBut _ _ (nG1 h) (s7.extBut _ _ (nG1 h) (hS1 _ O));have I:L.objs.size=d.objs.size+1:=by rw[X.1,s7.1,hZ1]
 rw[K]at g ao I;refine wP1 ⟨_,O,wP1 ?_⟩;show Q (Z (.ref d.objs.size)) _;rw[K]
 exact hQ L g (au _ _ D.a2 e) (aq.to λo q=>au _ o D.a3 q) (V.to λo q=>au _ o D.a4 q) ao I λc o p R W q4 q=>au c o p (S c o p R W q4 q)
theorem AX{z ti to i1 C G v:dE}{ao I:Nat}{xs ys:Array dB}{a b:dB}{Q:Option dB->dD->Prop}(aq:A.handled=Y)(D:I1 z ti to i1 C)(j:IsZip s.heap z ti to .none)(P:IsPair s.heap ti (.ref i1) (.ref C))(L:IsPair s.heap to a b)(n1:G≠to)(n2:v≠to)(h1:SIt b1 s.heap i1 G ao)(h2:SIt b2 s.heap C v I)(S:SCo b1 s.heap G xs)(R:SCo b2 s.heap v ys)(u:xs[ao]?=Y\/ys[I]?=Y)(U:∀h',(∀c o,c≠z->c≠to->c≠i1->c≠C->s.heap.get? c=Z o->h'.get? c=Z o)->Q Y {s with heap:=h'}):dM (model prog w) A (pyNext (.ref z)) Q E s:=by
 have X:s.TypeIs (.ref z) "zip":=⟨_,j,O⟩;have t:G≠z:=S.ne j λ_ _ q=>by cases q
 have au:v≠z:=R.ne j λ_ _ q=>by cases q
 have p:v≠i1:=R.ne_it h1;unfold pyNext;refine wB1 (wpAny_attempt (wpAny_callSpecial?_slot (name:=Str.ofString "__next__") X F.slot_zip_next (wE1 F.slot_zip_next X F.entry_zip_next ?_ (F.args_zip_next_1 _))));show dM _ _ (field (.ref z) 2 >>= _) _ _ _;refine wB1 (wpAny_field j O (x:=.bool J) O ?_);show dM _ _ (field (.ref z) 3 >>= _) _ _ _;refine wB1 (wpAny_field j O (x:=.ref ti) O ?_);refine wB1 (wpAny_seqItems P O ?_);show dM _ _ (Builtin.SmallTypes.ownedTupleIsFree (.ref z) >>= _) _ _ _;refine wB1 ?_;unfold Builtin.SmallTypes.ownedTupleIsFree;refine wB1 (wpAny_field j O (x:=.none) O (wP1 ?_));simp only[if_true];refine wB1 (wpAny_rule ?_);refine wB1 (wpAny_field j O (x:=.ref to) O ?_);refine wB1 (wS1 j (by simp) λg1 i g=>?_);replace i:IsZip g1 z ti to .ellipsis:=i;refine wB1 ?_;simp only[bM,List.zipIdx_nil,bG,List.forIn_nil];refine wB1 (wB1 (wpAny_onRaise ?_));show dM _ _ (Builtin.SmallTypes.nextOf (.ref i1) >>= _) _ _ _
 cases hx:xs[ao]? with
 |none=>
  refine wB1 (iy aq (h1.to λo q=>g.extBut _ _ D.a3 q) (S.to λo q=>g.extBut _ _ t q) hx λam e k H=>?_);obtain⟨N,d,f⟩:=H;have y:IsZip am z ti to .ellipsis:=k _ _ D.a3.symm i;have m:e≠z:=λq=>by subst q;rw[y]at d;cases d;simp at f
  refine wS1 y (by simp) λg3 _ n=>?_;refine wB1 (wpAny_isInstance (T:="StopIteration") (b:=M) ⟨N,n.extBut _ _ m d,f⟩ isSubtype_stop ?_);exact wP1 (U g3 λc o r _ K _ q=>n.extBut _ _ r (k _ _ K (g.extBut _ _ r q)))
 |some x=>
  have hy:ys[I]?=Y:=by rcases u with h|h;rw[hx]at h;cases h;exact h
  refine wB1 (ke (h1.to λo q=>g.extBut _ _ D.a3 q) (S.to λo q=>g.extBut _ _ t q) hx λam h12 k=>wP1 ?_);have l:IsPair am to a b:=k.extBut _ _ D.a8 (g.extBut _ _ D.a2 L);refine wB1 (wpAny_seqItems l O ?_);refine wB1 (wpAny_updateSeq_pair l λg3 V n=>?_);refine wB1 (wpAny_letGo (wP1 ?_));refine wB1 (wB1 (wpAny_onRaise ?_));show dM _ _ (Builtin.SmallTypes.nextOf (.ref C) >>= _) _ _ _
  refine wB1 (iy aq (h2.to λo q=>n.extBut _ _ D.a9.symm (k.extBut _ _ D.a10.symm (g.extBut _ _ D.a4 q))) (R.to λo q=>n.extBut _ _ n2 (k.extBut _ _ p (g.extBut _ _ au q))) hy λg4 e W H=>?_);obtain⟨N,d,f⟩:=H;have B:IsZip g4 z ti to .ellipsis:=W _ _ D.a4.symm (n.extBut _ _ D.a2.symm (k.extBut _ _ D.a3.symm i));have m:e≠z:=λq=>by subst q;rw[B]at d;cases d;simp at f
  refine wS1 B (by simp) λg5 _ wq=>?_;refine wB1 (wpAny_isInstance (T:="StopIteration") (b:=M) ⟨N,wq.extBut _ _ m d,f⟩ isSubtype_stop ?_);exact wP1 (U g5 λc o r q2 K q4 q=>wq.extBut _ _ r (W _ _ q4 (n.extBut _ _ q2 (k.extBut _ _ K (g.extBut _ _ r q)))))
noncomputable def zH(b1 b2:Bool)(h:dN)(l1 l2:dE):dN:=((((h.push (gm b1 l1)).push (gm b2 l2)).push {cls:=.type "tuple",data:=.seq #[.ref h.objs.size,.ref (h.objs.size+1)]}).push {cls:=.type "tuple",data:=.seq #[.none,.none]}).push
 {cls:=.type "zip",data:=.fields #[.none,.bool J,.bool J,.ref (h.objs.size+2),.ref (h.objs.size+3)]}
theorem AW(a b:dE)(xs ys:Array dB):Meets (Builtin.«zip.__new__» ⟨[.type "zip",.ref a,.ref b],[]⟩) (λ_ R s=>SCo b1 s.heap a xs/\SCo b2 s.heap b ys/\R (.ok (.ret (.ref (s.heap.objs.size+4)))) {s with heap:=zH b1 b2 s.heap a b}):=
 .of_wp λprog w A R s h=>by
  obtain⟨c,g,d,tk,f⟩:=s;obtain⟨i,l,h⟩:=h;have e:=sub_zip
  have k:SCo b1 (Shared.heap ⟨c,g,d,tk,f⟩) a xs:=i;have j:SCo b2 (Shared.heap ⟨c.push (gm b1 a),g,d,tk,f⟩) b ys:=l.to λo q=>hP1 _ q
  wp_walk using jS k,jS j
  refine⟨_,O,?_⟩;have m:(c.push (gm b1 a)).objs.size=c.objs.size+1:=hZ1 ..
  simp only[hZ1,zH]at h ⊢;exact h
theorem xR{d b:dE}{xs ys:Array dB}{Q:dB->dD->Prop}(r:SCo b1 s.heap d xs)(v:SCo b2 s.heap b ys)(h:∀h',IsZip h' (s.heap.objs.size+4) (s.heap.objs.size+2) (s.heap.objs.size+3) .none->IsPair h' (s.heap.objs.size+2) (.ref s.heap.objs.size) (.ref (s.heap.objs.size+1))->IsPair h' (s.heap.objs.size+3) .none .none ->
   SIt b1 h' s.heap.objs.size d 0->SIt b2 h' (s.heap.objs.size+1) b 0->h'.objs.size=s.heap.objs.size+5->(∀c o,s.heap.get? c=Z o->h'.get? c=Z o)->Q (.ref (s.heap.objs.size+4)) {s with heap:=h'}):
  dM (model prog w) A (call (.type "zip") [.ref d,.ref b]) Q E s:=by
 refine callType_new F.called_zip (by decide) (F.typeCall_zip_2 _ _) (F.newCall_zip_2 _ _) (λg=>F.args_object_init_3 g _ _) F.entry_zip_new (AW (b1:=b1) (b2:=b2) d b xs ys) ⟨r,v,?_⟩;have a:∀{h:dN} {o:Obj} {c:dE} {u:Obj},h.get? c=Z u->(h.push o).get? c=Z u:=λq=>hP1 _ q;have at_:∀{h:dN} {o:Obj} {n:Nat},h.objs.size=n->o.isFreed=J->(h.push o).get? n=Z o:=λe f=>by rw[<- e];exact hS1 _ f
 have t:(gm b1 d).isFreed=J:=by cases b1<;>rfl
 have k:(gm b2 b).isFreed=J:=by cases b2<;>rfl
 have p:(zH b1 b2 s.heap d b).get? s.heap.objs.size=Z (gm b1 d):=a (a (a (a (at_ O t))));have m:(zH b1 b2 s.heap d b).get? (s.heap.objs.size+1)=Z (gm b2 b):=a (a (a (at_ (by simp only[hZ1]) k)));have j:IsPair (zH b1 b2 s.heap d b) (s.heap.objs.size+2) (.ref s.heap.objs.size) (.ref (s.heap.objs.size+1)):=a (a (at_ (by simp only[hZ1]) O));have l:IsPair (zH b1 b2 s.heap d b) (s.heap.objs.size+3) .none .none:=a (at_ (by simp only[hZ1]) O);have i:IsZip (zH b1 b2 s.heap d b) (s.heap.objs.size+4) (s.heap.objs.size+2) (s.heap.objs.size+3) .none:=at_ (by simp only[hZ1]) O;exact⟨⟨_,i,O⟩,h _ i j l (pO p) (pO m) (by simp only[zH,hZ1]) λc o q=>a (a (a (a (a q))))⟩
end
noncomputable def qT(K:Fg1)(b:Bool)(H:Hp)(a:dE)(xs:List V):Prop:=match b with
 |true=>lU K H a xs
 |false=>jm K H a xs
section
variable{X:Cx}{ag:List (dE×Obj)}{σ:L2.St}{H:Hp}{s:dD}
theorem fb{b:Bool}{a:dE}{xs:List V}(I:Inv X ag σ H s)(h:qT X.K b H a xs):∃c:List dB,ei xs c/\SCo b s.heap a c.toArray/\xs.length<=dL:=by
 cases b
 ·obtain⟨c,r,p,z⟩:=I.tuple h;exact⟨c,r,p,z⟩
 ·obtain⟨c,r,p,z⟩:=I.list h;exact⟨c,r,p.isList,z⟩
theorem l8{b:Bool}{a:dE}{xs ys:List V}(I:Inv X ag σ H s)(h:qT X.K b H a xs)(h':qT X.K b H a ys):xs=ys:=by
 cases b
 ·exact I.tuple_inj h h'
 ·exact I.list_inj h h'
theorem pM{b:Bool}{a c:dE}{xs:List V}(I:Inv X ag σ H s)(h:qT X.K b H a xs)(f:js X ag H c):a≠c:=by
 rintro rfl;have d:∀{o},X.K.lookup a=Z o->False:=λ{o} e=>by
  have g:=I.ok.mod.kin _ _ e;rcases f.2.2.2.1 with z|z
  ·exact I.ok.noex _ _ g z
  ·exact absurd (nL1 (hL1 g) (aC I.ok.bsz z)) (az _)
 cases b
 ·rcases h with(h|⟨_,h⟩)|⟨_,_,_,h,_⟩
  ·rw[f.1]at h;cases h
  ·rw[f.1]at h;cases h
  ·exact d h
 ·rcases h with(h|⟨_,h⟩)|⟨_,_,_,h,_⟩
  ·rw[f.1]at h;cases h
  ·rw[f.1]at h;cases h
  ·exact d h
theorem sw(I:Inv X ag σ H s){fp:List dE}(hf:∀ b∈fp,js X ag H b){h':dN}{p:dE}{xs:List V}{its:List dB}{t':Nat}(hp:s.heap.objs.size<=p)(f:∀ b o,b∉fp->s.heap.get? b=Z o->h'.get? b=Z o)(j:IsTup h' p its.toArray)(t:ei xs its)(l:xs.length<=dL):Inv X ag σ (upd H p (.tup xs)) {s with heap:=h',toks:=t'}:=by
 have d:H p=Y:=I.hok.fresh hp;have g:∀{b o},s.heap.get? b=Z o->b≠p:=λe=>nN1 (nL1 (hL1 e) hp);have h:∀{b u},H b=Z u->b∉fp:=λe z=>by rw[(hf _ z).1]at e;cases e
 refine I.step (g':=s.gens) (d':=s.drawn) (ch:=fp) (λb a=>⟨(hf b a).2.2.2.1,(hf b a).2.1,(hf b a).2.2.2.2.1,(hf b a).2.2.2.2.2⟩) (λb o _ _ hc e _=>f b o hc e) (λb o _ _ hc e _=>⟨o.slots,f b o hc e⟩) (λb o _ e n=>?_)
  (λb o hc e=>⟨o,f b o hc e⟩) (λb ys e=>?_) (λb o u e=>?_) (λb ps e=>⟨#[],?_⟩) (λm k=>?_) (λb u e=>?_) I.bare
 ·rw[dY (g e)];exact n
 ·rw[dY (eD e d)];exact e
 ·rw[dY (eD e d)];exact e
 ·rw[dY (eD e d),e];simp
 ·obtain⟨o,es,ep,i,r⟩:=k;exact⟨o,es,ep,f _ o (λz=>(hf _ z).2.1 O) i,r⟩
 ·by_cases a:b=p
  ·subst a;rw[d4]at e;cases e;exact⟨l,its,t,j⟩
  ·rw[dY a]at e;refine(I.hok b u e).stay (λc v hc q=>f c v ?_ q) (λc q=>by rw[dY (eD q d)];exact q) λc ys q=>by rw[dY (eD q d)];exact q
   rcases hc with z|z
   ·rw[z];exact h e
   ·exact h z
theorem m6(I:Inv X ag σ H s){fp:List dE}(hf:∀b∈fp,js X ag H b){h':dN}{t':Nat}(a:∀b o,b∉fp->s.heap.get? b=Z o->h'.get? b=Z o):Inv X ag σ H {s with heap:=h',toks:=t'}:=by
 have f:∀{b u},H b=Z u->b∉fp:=λe z=>by rw[(hf _ z).1]at e;cases e
 refine I.step (g':=s.gens) (d':=s.drawn) (ch:=fp) (λb d=>⟨(hf b d).2.2.2.1,(hf b d).2.1,(hf b d).2.2.2.2.1,(hf b d).2.2.2.2.2⟩) (λb o _ _ hc e _=>a b o hc e) (λb o _ _ hc e _=>⟨o.slots,a b o hc e⟩) (λb o _ e n=>n)
  (λb o hc e=>⟨o,a b o hc e⟩) (λb ys e=>e) (λb o u e=>e) (λb ps e=>⟨#[],by rw[e];simp⟩) (λm h=>?_) (λb u e=>?_) I.bare
 ·obtain⟨o,es,ep,g,r⟩:=h;exact⟨o,es,ep,a _ o (λz=>(hf _ z).2.1 O) g,r⟩
 ·refine(I.hok b u e).stay (λc v hc q=>a c v ?_ q) (λc q=>q) λc ys q=>q;rcases hc with z|z
  ·rw[z];exact f e
  ·exact f z
end
theorem rh:(2:Nat)<=dL:=by decide
noncomputable def JD(K:Fg1)(b:Bool)(a:dE):It:=
 ⟨λi H=>∃xs x,qT K b H a xs/\xs[i]?=Z x,λi H x H'=>∃p v,H p=Y/\x = .ref p/\H'=upd H p (.tup [.int i,v]) /\ ∀xs,qT K b H a xs->xs[i]?=Z v,λi H=>∃xs,qT K b H a xs/\xs.length<=i⟩
theorem wz{P:dF}{w:dH}{K:Fg1}{elts:List Expr}{k:Nat}{pos:Pos}(b:Bool)(a e it:dE)(ne:e≠it):tu P w K (.Tuple elts k pos) (JD K b a) [e,it] e (λi h=>(∃old,IsEnum h e it (i:Nat) old)/\SIt b h it a i) where
 mem:=by simp
 obj:=by
  rintro i h ⟨⟨old,st⟩,L⟩ c hc;rcases aF.mp hc with z|z
  ·subst z;exact⟨_,st,λv q=>by cases q⟩
  ·have V:c=it:=by simpa using z
   subst V;exact L.rec_
 keep:=λi h h' ⟨⟨old,st⟩,L⟩ au=>⟨⟨old,au e (by simp) _ st⟩,L.to λo q=>au it (by simp) o q⟩
 item:=by
  intro X r A B hc i ag s σ H E I j st F;subst r A B;obtain⟨⟨old,g⟩,f⟩:=st;obtain⟨xs,x,l,y⟩:=F;obtain⟨p,D,G,W⟩:=fb I l;obtain⟨u,hu,S⟩:=D.get y;refine xi g f G (x:=u) (by simpa using hu) ne λh1 n t N T ao=>?_;refine⟨.ref s.heap.objs.size,O,?_⟩;refine wpAny_letOwnedTupleGo_enum n λh2 am d=>?_;have R:s.heap.objs.size≠e:=nG1 (hL1 g);have C:∀c o,c∉[e,it]->s.heap.get? c=Z o->h2.get? c=Z o:=λc o hc q=>by
   have m:c≠e:=λz=>hc (by simp[z]);have c2:c≠it:=λz=>hc (by simp[z]);exact d.extBut _ _ m (ao c o m c2 q)
  have U:IsTup h2 s.heap.objs.size [.int (i:Nat) s.toks,u].toArray:=⟨_,d.extBut _ _ R N,O,_,O⟩;have I2:=sw I j (t':=s.toks+1) (nR1 _) C U (xs:=[.int i,x]) (.cons ⟨_,O⟩ (.cons S .nil)) rh;have hn:H s.heap.objs.size=Y:=I.hok.fresh (nR1 _);refine⟨.ref s.heap.objs.size,_,I2,O,⟨_,x,hn,O,O,λys wq=>by rw[l8 I wq l];exact y⟩,⟨⟨u,?_⟩,t.to λo q=>d.extBut _ _ (Ne.symm ne) q⟩,λc hc=>?_⟩
  ·have:((i+1:Nat):Int)=(i:Int)+1:=by push_cast;rfl
   rw[this];exact am
  ·have m:c≠s.heap.objs.size:=fun z=>by
    rcases aF.mp hc with q|q
    ·exact R (z.symm.trans q)
    ·have q':c=it:=by simpa using q
     obtain⟨o,Q,_⟩:=f.rec_;rw[<- q',z]at Q;exact az _ (hL1 Q)
   rw[dY m];exact(j c hc).1
 done:=by
  intro X r A B hc i ag s σ H E I j st F;subst r A B;obtain⟨⟨old,g⟩,f⟩:=st;obtain⟨xs,l,y⟩:=F;obtain⟨p,D,G,W⟩:=fb I l;have hl:=D.length;refine Ao (I.ok.hd hc) g f G (by simp;lia) λh' aq=>⟨O,m6 I (t':=s.toks) j λc o hc q=>aq c o (λz=>hc (by simp[z])) q⟩
 self:=λ_ _ _ _ _ ⟨⟨_,st⟩,_⟩ h=>oV st h
noncomputable def JA(K:Fg1)(b1 b2:Bool)(a1 a2:dE):It:=
 ⟨λi H=>∃xs ys x y,qT K b1 H a1 xs/\qT K b2 H a2 ys/\xs[i]?=Z x/\ys[i]?=Z y,λi H x H'=>∃p v u,H p=Y/\x = .ref p/\H'=upd H p (.tup [v,u])/\(∀xs,qT K b1 H a1 xs->xs[i]?=Z v) /\ ∀ys,qT K b2 H a2 ys->ys[i]?=Z u,
  λi H=>∃xs ys,qT K b1 H a1 xs/\qT K b2 H a2 ys/\(xs.length<=i\/ys.length<=i)⟩
theorem yc{P:dF}{w:dH}{K:Fg1}{elts:List Expr}{k:Nat}{pos:Pos}(b1 b2:Bool)(a1 a2 z ti to p r:dE)(D:I1 z ti to p r):tu P w K (.Tuple elts k pos) (JA K b1 b2 a1 a2) [z,ti,to,p,r] z
  (λi h=>IsZip h z ti to .none/\IsPair h ti (.ref p) (.ref r)/\(∃u v,IsPair h to u v)/\SIt b1 h p a1 i/\SIt b2 h r a2 i) where
 mem:=by simp
 obj:=by
  rintro i h ⟨d,b,⟨u,v,g⟩,l,j⟩ c hc;simp only[aF,bN,or_false]at hc;rcases hc with rfl|rfl|rfl|rfl|rfl
  ·exact⟨_,d,λv q=>by cases q⟩
  ·exact⟨_,b,λv q=>by cases q⟩
  ·exact⟨_,g,λv q=>by cases q⟩
  ·exact l.rec_
  ·exact j.rec_
 keep:=λi h h' ⟨d,b,⟨u,v,g⟩,l,j⟩ C=>⟨C z (by simp) _ d,C ti (by simp) _ b,⟨u,v,C to (by simp) _ g⟩,l.to λo q=>C p (by simp) o q,j.to λo q=>C r (by simp) o q⟩
 item:=by
  intro X ao N au hc i ag s σ H E I f st T;subst ao N au;obtain⟨d,b,⟨u0,v0,g⟩,l,j⟩:=st;obtain⟨xs,ys,x,y,A,B,ex,ey⟩:=T;obtain⟨L,S,V,hz⟩:=fb I A;obtain⟨F,t,m,U⟩:=fb I B;obtain⟨u,hu,ru⟩:=S.get ex;obtain⟨am,W,Q⟩:=t.get ey;refine xQ D d b g (pM I A (f to (by simp))) (pM I B (f to (by simp))) l j V m (x:=u) (y:=am) (by simpa using hu) (by simpa using W) λh1 p1 p2 p3 p4 p5 p6 G=>?_;refine⟨.ref s.heap.objs.size,O,?_⟩;refine wpAny_letOwnedTupleGo_zip p1 λh2 z2 a=>?_;have lt:∀c∈[z,ti,to,p,r],c≠s.heap.objs.size:=λc hc e=>by
   obtain⟨o,wq⟩:∃o,s.heap.get? c=some o:=by
    simp only[aF,bN,or_false]at hc;rcases hc with rfl|rfl|rfl|rfl|rfl
    ·exact⟨_,d⟩
    ·exact⟨_,b⟩
    ·exact⟨_,g⟩
    ·obtain⟨o,e,_⟩:=l.rec_;exact⟨o,e⟩
    ·obtain⟨o,e,_⟩:=j.rec_;exact⟨o,e⟩
   rw[e]at wq;exact az _ (hL1 wq)
  have R:∀c o,c∉[z,ti,to,p,r]->s.heap.get? c=Z o->h2.get? c=Z o:=λc o hc q=>by
   simp only[aF,bN,or_false,not_or]at hc;exact a.extBut _ _ hc.1 (G c o hc.1 hc.2.2.1 hc.2.2.2.1 hc.2.2.2.2 q)
  have tp:IsTup h2 s.heap.objs.size [u,am].toArray:=⟨_,a.extBut _ _ (Ne.symm (lt z (by simp))) p5,O,_,O⟩;have I2:=sw I f (t':=s.toks) (nR1 _) R tp (xs:=[x,y]) (.cons ru (.cons Q .nil)) rh;have hn:H s.heap.objs.size=Y:=I.hok.fresh (nR1 _);refine⟨.ref s.heap.objs.size,_,I2,O,⟨_,x,y,hn,O,O,λaq n=>by rw[l8 I n A];exact ex,λaq n=>by rw[l8 I n B];exact ey⟩,
   ⟨z2,a.extBut _ _ D.a1 (G _ _ D.a1 D.a5 D.a6 D.a7 b),⟨u,am,a.extBut _ _ D.a2 p2⟩,p3.to λo q=>a.extBut _ _ D.a3 q,p4.to λo q=>a.extBut _ _ D.a4 q⟩,λc hc=>?_⟩
  rw[dY (lt c hc)];exact(f c hc).1
 done:=by
  intro X ao N au hc i ag s σ H E I f st T;subst ao N au;obtain⟨d,b,⟨u0,v0,g⟩,l,j⟩:=st;obtain⟨xs,ys,A,B,hl⟩:=T;obtain⟨L,S,V,hz⟩:=fb I A;obtain⟨F,t,m,U⟩:=fb I B;have l1:=S.length;have l2:=t.length;refine AX (I.ok.hd hc) D d b g (pM I A (f to (by simp))) (pM I B (f to (by simp))) l j V m (by simp;lia) λh' eb=>⟨O,m6 I (t':=s.toks) f λc o hc q=>?_⟩;simp only[aF,bN,or_false,not_or]at hc;exact eb c o hc.1 hc.2.2.1 hc.2.2.2.1 hc.2.2.2.2 q
 self:=λ_ _ _ _ _ ⟨st,_⟩ h=>wpAny_pyIter_zip st h
section
variable{X:Cx}{elts:List Expr}{k:Nat}{tpos:Pos}
noncomputable def G4(K:Fg1)(ta:TA):TI:=fun σ H R=>ta σ H λvs H1=>∃a b,vs=[.ref a]/\(∃xs,qT K b H1 a xs)/\R (JD K b a) H1
theorem Bw {a:Expr}{ta:TA}{p pos:Pos}(hg:Gl X "enumerate")(hm:X.mg "enumerate"=Y)(ha:PA X [a] ta)(hs:dJ [a] X.env=[(J,eval a X.env)]:=by rfl):PI X (.Tuple elts k tpos) (.Call (.Name "enumerate" p) [a] [] pos) (G4 X.K ta):=by
 intro ag s σ H R I h;refine Call_ (jE I hg hm boot_enumerate (PyProof.Rows.callWith_type1 (fg (ha pos ag s σ H _ I h) λB f ⟨vs,H1,g,o,w⟩=>?_) hs O));obtain⟨c,b,e,⟨xs,x⟩,q⟩:=w;subst e;cases o with
 |cons r n=>
  cases n;cases r;obtain⟨v,D,A,C⟩:=fb g x;refine xj A λh' i m j t=>oV i ?_;have u:Inv X ag σ H1 {f with heap:=h'}:=g.kept (t':=f.toks) t;refine⟨f.heap.objs.size+1,[f.heap.objs.size+1,f.heap.objs.size],_,_,H1,O,u,wz b c _ _ (Nat.succ_ne_self _),⟨⟨.none,i⟩,m⟩,λd l=>?_,q⟩;rcases aF.mp l with z|z
  ·subst z;exact g.fpOk (aX _) (g.hok.fresh (aX _))
  ·have y:d=f.heap.objs.size:=by simpa using z
   subst y;exact g.fpOk (nR1 _) (g.hok.fresh (nR1 _))
noncomputable def IP(K:Fg1)(ta:TA):TI:=fun σ H R=>ta σ H λvs H1=>∃a1 b1 a2 b2,vs=[.ref a1,.ref a2]/\(∃xs,qT K b1 H1 a1 xs)/\(∃xs,qT K b2 H1 a2 xs)/\R (JA K b1 b2 a1 a2) H1
theorem D6 {a b:Expr}{ta:TA}{p pos:Pos}(hg:Gl X "zip")(hm:X.mg "zip"=none)(ha:PA X [a,b] ta)(hs:dJ [a,b] X.env=[(false,eval a X.env),(false,eval b X.env)]:=by rfl)(hs2:dJ [b] X.env=[(false,eval b X.env)]:=by rfl):
  PI X (.Tuple elts k tpos) (.Call (.Name "zip" p) [a,b] [] pos) (IP X.K ta):=by
 intro ag s σ H R I h;refine Call_ (jE I hg hm boot_zip (PyProof.Rows.callWith_type1 (fg (ha pos ag s σ H _ I h) λQ c ⟨vs,H1,f,o,v⟩=>?_) (by rw[hs,hs2]) (by rw[hs2];rfl)));obtain⟨K,b1,E,b2,e,⟨xs,x⟩,⟨ys,B⟩,q⟩:=v;subst e;cases o with
 |cons r j=>
  cases j with
  |cons t j=>
   cases j;cases r;cases t;obtain⟨u,P,F,au⟩:=fb f x;obtain⟨l,L,i,D⟩:=fb f B;refine xR F i λh' n C y am w ao A=>wpAny_pyIter_zip n ?_;have G:Inv X ag σ H1 {c with heap:=h'}:=f.kept (t':=c.toks) A;refine⟨c.heap.objs.size+4,[c.heap.objs.size+4,c.heap.objs.size+2,c.heap.objs.size+3,c.heap.objs.size,c.heap.objs.size+1],_,_,H1,O,G,yc b1 b2 K E _ _ _ _ _ ?_,⟨n,C,⟨_,_,y⟩,am,w⟩,λd m=>?_,q⟩
   ·constructor<;>(intro z;have N:((_:Nat)=_):=z;lia)
   ·have g:c.heap.objs.size<=d:=by
     simp only[aF,bN,or_false]at m;rcases m with rfl|rfl|rfl|rfl|rfl
     ·exact bt _ _
     ·exact bt _ _
     ·exact bt _ _
     ·exact nR1 _
     ·exact bt _ _
    exact f.fpOk g (f.hok.fresh g)
end
noncomputable def d6 (S:Sto):D->Option (Bool×List D)
 | .tup xs=>some (false,xs)
 | .rol xs=>some (true,xs)
 | .ref n=>match S[n]? with
  |some (.lst xs)=>some (true,xs)
  |_=>none
 |_=>none
noncomputable def i6(S:Sto):D->List (Nat×List D)
 | .ref n=>match S[n]? with
  |some (.lst xs)=>[(n,xs)]
  |_=>[]
 |_=>[]
section
variable{K:Fg1}{H:Hp}{mu:List dE}{S:Sto}
theorem ev{d:D}{v:V}{b:Bool}{xs:List D}(r:eJ K H mu d v)(s:Sim K H mu S)(h:d6 S d=Z (b,xs)):∃a vs,v = .ref a/\qT K b H a vs/\d0 K H mu xs vs:=by
 cases d with
 |tup ys=>cases h;cases r with|tup q t=>exact⟨_,_,rfl,q,t⟩
 |rol ys=>cases h;cases r with|rol q t=>exact⟨_,_,rfl,q.sq,t⟩
 |ref n=>
  rw[d6]at h;split at h
  ·rename_i ys e;cases h;cases r with
   |ref q=>
    obtain⟨vs,c,f⟩:=s.lst e q;exact⟨_,vs,O,lU.of c,f⟩
  ·cases h
 |_=>cases h
theorem hV{d:D}{a:dE}{b:Bool}{xs:List D}(r:eJ K H mu d (.ref a))(s:Sim K H mu S)(h:d6 S d=some (b,xs)){H1:Hp}{mu1:List dE}{S1:Sto}(x:q0 mu mu1 H H1)(c:Sim K H1 mu1 S1)(ok:oB S1 (i6 S d)=true):
  ∃vs,qT K b H1 a vs/\d0 K H1 mu1 xs vs:=by
 have g:=r.exw x;have h1:d6 S1 d=Z (b,xs):=by
  cases d with
  |ref n=>
   rw[d6]at h;split at h
   ·rename_i ys e;cases h;rw[i6,e]at ok;dsimp only[oB]at ok;rw[bO]at ok;rw[d6];split at ok
    ·rename_i zs f
     first|rw[f,D.sames_eq ok] | rw[D.sames_eq ok]
    ·cases ok
   ·cases h
  |_=>exact h
 obtain⟨i,vs,e,q,t⟩:=ev g c h1;cases e;exact⟨vs,q,t⟩
end
noncomputable def iH (m:FE):FI:=λr S=>(m r S).bind λp=>(d6 p.2 p.1).bind λq=>some (⟨q.2,i6 p.2 p.1⟩,p.2)
noncomputable def xM:Nat->List D->List D
 |_,[]=>[]
 |n,d::ds=>.tup [.int n,d]::xM (n+1) ds
noncomputable def FL (m:FA):FI:=λr S=>(m r S).bind λp=>match p.1 with
 |[d]=>(d6 p.2 d).bind λq=>some (⟨xM 0 q.2,i6 p.2 d⟩,p.2)
 |_=>none
noncomputable def tI:List D->List D->List D
 |x::xs,y::ys=>.tup [x,y]::tI xs ys
 |_,_=>[]
noncomputable def AT(m:FA):FI:=λr S=>(m r S).bind λp=>match p.1 with
 |[d,e]=>(d6 p.2 d).bind λq=>(d6 p.2 e).bind λt=>Z (⟨tI q.2 t.2,i6 p.2 d++i6 p.2 e⟩,p.2)
 |_=>Y
noncomputable def gB(lo:Int):Nat->List D
 |0=>[]
 |n+1=>.int lo::gB (lo+1) n
noncomputable def uy (m:FA):FI:=λr S=>(m r S).bind λp=>match p.1 with
 |[.int j]=>if-(2^62)<=j/\j<2^62 then some (⟨gB 0 j.toNat,[]⟩,p.2)else none
 |_=>none
noncomputable def GZ(m:FA):FI:=λr S=>(m r S).bind λp=>match p.1 with
 |[.int i,.int j]=>if-(2^62)<=i/\i<2^62 /\ -(2^62)<=j/\j<2^62 then Z (⟨gB i (j-i).toNat,[]⟩,p.2)else Y
 |_=>Y
theorem vX:∀(ds:List D) (n i:Nat),(xM n ds)[i]?=(ds[i]?).map λd=>.tup [.int ((n+i:Nat):Int),d]
 |[],n,i=>by simp[xM]
 |d::ds,n,0=>by simp[xM]
 |d::ds,n,i+1=>by
  rw[xM,gC1,vX ds (n+1) i,gC1];rw[show n+1+i=n+(i+1) by lia]
theorem vW:∀(ds:List D) (n:Nat),(xM n ds).length=ds.length
 |[],_=>rfl
 |d::ds,n=>by rw[xM,lC1,vW ds,lC1]
theorem uS:∀(xs ys:List D) (i:Nat) (d:D),(tI xs ys)[i]?=Z d -> ∃x y,xs[i]?=Z x/\ys[i]?=Z y/\d = .tup [x,y]
 |[],_,i,d,h=>by simp[tI]at h
 |_::_,[],i,d,h=>by simp[tI]at h
 |x::xs,y::ys,0,d,h=>by simp[tI]at h;exact⟨x,y,O,O,h.symm⟩
 |x::xs,y::ys,i+1,d,h=>by
  rw[tI,gC1]at h;obtain⟨f,b,a,c,e⟩:=uS xs ys i d h;exact⟨f,b,by simpa using a,by simpa using c,e⟩
theorem uR:∀(xs ys:List D) (i:Nat),(tI xs ys).length<=i->xs.length<=i\/ys.length<=i
 |[],_,i,_=>.inl (bi _)
 |_::_,[],i,_=>.inr (bi _)
 |x::xs,y::ys,0,h=>by simp[tI]at h
 |x::xs,y::ys,i+1,h=>by
  rcases uR xs ys i (by simpa[tI]using h)with q|q
  ·exact .inl (by simpa using q)
  ·exact .inr (by simpa using q)
theorem rV:∀(n:Nat) (lo:Int) (i:Nat) (d:D),(gB lo n)[i]?=Z d->i<n/\d = .int (lo+i)
 |0,lo,i,d,h=>by simp[gB]at h
 |n+1,lo,0,d,h=>by simp[gB]at h;exact⟨Nat.succ_pos _,by rw[<- h];simp⟩
 |n+1,lo,i+1,d,h=>by
  rw[gB,gC1]at h;obtain⟨h1,h2⟩:=rV n (lo+1) i d h;refine⟨Nat.succ_lt_succ h1,?_⟩;rw[h2,show lo+1+(i:Int)=lo+((i+1:Nat):Int) by push_cast;lia]
theorem fB:∀(n:Nat) (lo:Int),(gB lo n).length=n
 |0,_=>rfl
 |n+1,lo=>by rw[gB,lC1,fB n]
theorem vp{S:Sto}:∀{c a:List (Nat×List D)},oB S (c++a)=M->oB S c=M/\oB S a=M
 |[],_,h=>⟨O,h⟩
 |(n,xs)::c,a,h=>by
  rw[bj,oB,bA1]at h;obtain⟨h1,h2⟩:=vp h.2;exact⟨by rw[oB,bA1];exact⟨h.1,h1⟩,h2⟩
section
variable{X:Cx}{tg:Expr}
theorem ss(K:Fg1)(lo:Int)(n:Nat)(mu:List dE)(H:Hp):ItR K (HE lo n) ⟨gB lo n,[]⟩ mu H:=by
 intro i H1 mu1 e x s ok;refine⟨λd b=>?_,λh=>by rw[fB]at h;exact h⟩;obtain⟨h1,h2⟩:=rV n lo i d b;refine⟨h1,λy H2 ⟨c,a⟩=>?_⟩;subst c;subst a;subst h2;exact⟨.refl _ _,s,.int _⟩
theorem EH{e:Expr}{m:FE}(h:ME X e m):MI X tg e (iH m):=mO (Gp (Bv h) (D7 h)) <| by
 rintro σ H R ⟨r,mu,S,am,K,D,E,j,hc⟩;obtain⟨⟨d,I⟩,C,j⟩:=oB1.mp j;obtain⟨⟨b,xs⟩,o,j⟩:=oB1.mp j;cases j;cases b with
 |true=>
  left;refine⟨r,mu,S,d,_,D,E,C,λv H1 mu1 A g c=>?_⟩;obtain⟨a,vs,rfl,q,t⟩:=ev g c o;refine⟨a,O,⟨vs,q⟩,hc _ H1 mu1 A (λi H2 w F p n ok=>?_) c⟩;obtain⟨ws,f,k⟩:=hV g c o p n ok;refine⟨λd s=>?_,λB=>⟨ws,f,by rw[<- k.length];exact B⟩⟩;obtain⟨v,l,u⟩:=k.get s;refine⟨⟨ws,v,f,l⟩,λy G ⟨z,x⟩=>?_⟩;subst z;have:=x ws f;rw[l]at this;cases this;exact⟨.refl _ _,n,u⟩
 |false=>
  right;refine⟨r,mu,S,d,_,D,E,C,λv H1 mu1 A g c=>?_⟩;obtain⟨a,vs,rfl,q,t⟩:=ev g c o;refine⟨a,O,⟨vs,q⟩,hc _ H1 mu1 A (λi H2 w F p n ok=>?_) c⟩;obtain⟨ws,f,k⟩:=hV g c o p n ok;refine⟨λd s=>?_,λB=>⟨ws,f,by rw[<- k.length];exact B⟩⟩;obtain⟨v,l,u⟩:=k.get s;refine⟨⟨ws,v,f,l⟩,λy G ⟨z,x⟩=>?_⟩;subst z;have:=x ws f;rw[l]at this;cases this;exact⟨.refl _ _,n,u⟩
theorem j5{K:Fg1}{H:Hp}{mu:List dE}{d:D}{vs:List V}(r:d0 K H mu [d] vs):∃v,vs=[v]/\eJ K H mu d v:=by
 cases r with|cons r t=>cases t;exact⟨_,O,r⟩
theorem rD{K:Fg1}{H:Hp}{mu:List dE}{d e:D}{vs:List V}(r:d0 K H mu [d,e] vs):∃v u,vs=[v,u]/\eJ K H mu d v/\eJ K H mu e u:=by
 cases r with|cons r t=>cases t with|cons q t=>cases t;exact⟨_,_,O,r,q⟩
theorem wP {a:Expr}{m:FA}{p pos:Pos}(hg:Gl X "range")(hm:X.mg "range"=Y)(ha:MA X [a] m)(hs:dJ [a] X.env=[(J,eval a X.env)]:=by rfl):MI X tg (.Call (.Name "range" p) [a] [] pos) (uy m):=
 mO (wJ hg hm ha hs) <| by
  rintro σ H R ⟨r,mu,S,am,i,e,hs,hm,hc⟩;obtain⟨⟨ds,k⟩,d,hm⟩:=oB1.mp hm;dsimp only at hm;split at hm
  ·rename_i j;split at hm
   ·rename_i b;cases hm;refine⟨r,mu,S,_,_,e,hs,d,λvs H1 mu1 g f c=>?_⟩;obtain⟨v,rfl,h⟩:=j5 f;cases h;exact⟨j,O,b.1,b.2,hc _ H1 mu1 g (ss _ _ _ _ _) c⟩
   ·cases hm
  ·cases hm
theorem wO {a b:Expr}{m:FA}{p pos:Pos}(hg:Gl X "range")(hm:X.mg "range"=Y)(ha:MA X [a,b] m)(hs:dJ [a,b] X.env=[(J,eval a X.env),(J,eval b X.env)]:=by rfl)(hs2:dJ [b] X.env=[(J,eval b X.env)]:=by rfl):MI X tg (.Call (.Name "range" p) [a,b] [] pos) (GZ m):=
 mO (wI hg hm ha hs hs2) <| by
  rintro σ H R ⟨r,mu,S,am,n,f,hs,hm,hc⟩;obtain⟨⟨ds,o⟩,d,hm⟩:=oB1.mp hm;dsimp only at hm;split at hm
  ·rename_i i j;split at hm
   ·rename_i h;cases hm;refine⟨r,mu,S,_,_,f,hs,d,λvs H1 mu1 k g c=>?_⟩;obtain⟨v,u,rfl,l,e⟩:=rD g;cases l;cases e;exact⟨i,j,O,h,hc _ H1 mu1 k (ss _ _ _ _ _) c⟩
   ·cases hm
  ·cases hm
variable{elts:List Expr}{k:Nat}{tpos:Pos}
theorem BU {a:Expr}{m:FA}{p pos:Pos}(hg:Gl X "enumerate")(hm:X.mg "enumerate"=Y)(ha:MA X [a] m)(hs:dJ [a] X.env=[(J,eval a X.env)]:=by rfl):MI X (.Tuple elts k tpos) (.Call (.Name "enumerate" p) [a] [] pos) (FL m):=
 mO (Bw hg hm ha hs) <| by
  rintro σ H R ⟨r,mu,S,am,ao,z,hs,hm,hc⟩;obtain⟨⟨ds,L⟩,x,hm⟩:=oB1.mp hm;dsimp only at hm;split at hm
  ·rename_i d;obtain⟨⟨b,xs⟩,j,hm⟩:=oB1.mp hm;cases hm;refine⟨r,mu,S,_,_,z,hs,x,λvs H1 mu1 F A e=>?_⟩;obtain⟨v,rfl,o⟩:=j5 A;obtain⟨a,vs,rfl,q,t⟩:=ev o e j;refine⟨a,b,O,⟨vs,q⟩,hc _ H1 mu1 F (λi H2 C I B s ok=>?_) e⟩;obtain⟨ws,g,l⟩:=hV o e j B s ok;refine⟨λd c=>?_,λu=>⟨ws,g,by rw[vW]at u;rw[<- l.length];exact u⟩⟩;rw[vX]at c;obtain⟨K,w,c⟩:=oM1.mp c;obtain⟨v,n,h⟩:=l.get w;refine⟨⟨ws,v,g,n⟩,λy N ⟨p,au,f,E,D,G⟩=>?_⟩;have:=G ws g;rw[n]at this;cases this;subst E;subst D;subst c;rw[bP];exact⟨Ext.fresh f,s.fresh f,.tup (jm.of d4) (.cons (.int _) (.cons (h.ext (Ext.fresh f)) .nil))⟩
  ·cases hm
theorem EG {a b:Expr}{m:FA}{p pos:Pos}(hg:Gl X "zip")(hm:X.mg "zip"=Y)(ha:MA X [a,b] m)(hs:dJ [a,b] X.env=[(J,eval a X.env),(J,eval b X.env)]:=by rfl)(hs2:dJ [b] X.env=[(J,eval b X.env)]:=by rfl):MI X (.Tuple elts k tpos) (.Call (.Name "zip" p) [a,b] [] pos) (AT m):=
 mO (D6 hg hm ha hs hs2) <| by
  rintro σ H R ⟨r,mu,S,am,S',au,hs,hm,hc⟩;obtain⟨⟨ds,S1⟩,N,hm⟩:=oB1.mp hm;dsimp only at hm;split at hm
  ·rename_i d e;obtain⟨⟨b1,xs⟩,C,hm⟩:=oB1.mp hm;obtain⟨⟨b2,ys⟩,E,hm⟩:=oB1.mp hm;cases hm;refine⟨r,mu,S,_,_,au,hs,N,λvs H1 mu1 wq ao f=>?_⟩;obtain⟨v,u,rfl,I,A⟩:=rD ao;obtain⟨a1,n,rfl,P,t1⟩:=ev I f C;obtain⟨a2,s,rfl,W,t2⟩:=ev A f E;refine⟨a1,b1,a2,b2,O,⟨n,P⟩,⟨s,W⟩,hc _ H1 mu1 wq (λi H2 U S2 B o ok=>?_) f⟩;obtain⟨l,q⟩:=vp ok;obtain⟨ws,h,K⟩:=hV I f C B o l;obtain⟨c,t,G⟩:=hV A f E B o q;refine⟨λd T=>?_,λhl=>⟨ws,c,h,t,?_⟩⟩
   ·obtain⟨x',y',ex,ey,rfl⟩:=uS xs ys i d T;obtain⟨v,F,w⟩:=K.get ex;obtain⟨u,x,j⟩:=G.get ey;refine⟨⟨ws,c,v,u,h,t,F,x⟩,λy H3 ⟨p,v',u',g,aq,V,z3,Q⟩=>?_⟩;have L:=z3 ws h;have D:=Q c t;rw[F]at L;cases L;rw[x]at D;cases D;subst aq;subst V;exact⟨Ext.fresh g,o.fresh g,.tup (jm.of d4) (.cons (w.ext (Ext.fresh g)) (.cons (j.ext (Ext.fresh g)) .nil))⟩
   ·rcases uR xs ys i hl with z|z
    ·exact .inl (by rw[<- K.length];exact z)
    ·exact .inr (by rw[<- G.length];exact z)
  ·cases hm
end
end Mi
namespace Mi
open PySem PySem.Spec PyProof.Rows L2 SeqAt
open AutoSeq1 (wpAny_loadPart')
open MeetsSeq
abbrev OD(e:Array DictEntry)(n:Nat)(dd:Option dE)(sl:Array (Option dB)):Obj:={cls:=.type "dict",dict:=dd,data:=.dict e n,slots:=sl}
section
variable{l:dE}{e:Array DictEntry}{n:Nat}{dd:Option dE}{sl:Array (Option dB)}
theorem Au:Meets (Builtin.«dict.__eq__» ⟨[.ref l,.none],[]⟩) (λ_ R s=>s.heap.get? l=Z (OD e n dd sl)/\R (.ok (.ret .notImplemented)) s):=.of_wp λ_ _ _ _ s h=>by
 obtain⟨f,g,d,tk,c⟩:=s;obtain⟨a,h⟩:=h;have b:=F.sub_NoneType_dict;wp_walk using wpAny_loadPart' a;exact⟨_,O,h⟩
theorem Dc(b:Bool):Meets (Builtin.«dict.__eq__» ⟨[.ref l,.bool b],[]⟩) (λ_ R s=>s.heap.get? l=Z (OD e n dd sl)/\R (.ok (.ret .notImplemented)) s):=.of_wp λ_ _ _ _ s h=>by
 obtain⟨i,g,d,tk,f⟩:=s;obtain⟨a,h⟩:=h;have c:=F.sub_bool_dict;wp_walk using wpAny_loadPart' a;exact⟨_,O,h⟩
theorem Av(b:Int)(u:Tok):Meets (Builtin.«dict.__eq__» ⟨[.ref l,.int b u],[]⟩) (λ_ R s=>s.heap.get? l=Z (OD e n dd sl)/\R (.ok (.ret .notImplemented)) s):=.of_wp λ_ _ _ _ s h=>by
 obtain⟨i,g,d,tk,f⟩:=s;obtain⟨a,h⟩:=h;have c:=F.sub_int_dict;wp_walk using wpAny_loadPart' a;exact⟨_,O,h⟩
theorem At(b:Str)(u:Tok):Meets (Builtin.«dict.__eq__» ⟨[.ref l,.str b u],[]⟩) (λ_ R s=>s.heap.get? l=Z (OD e n dd sl)/\R (.ok (.ret .notImplemented)) s):=.of_wp λ_ _ _ _ s h=>by
 obtain⟨i,g,d,tk,f⟩:=s;obtain⟨a,h⟩:=h;have c:=F.sub_str_dict;wp_walk using wpAny_loadPart' a;exact⟨_,O,h⟩
theorem vY{a:dE}{its:Array dB}{k:Nat}{c:Option dE}{b:Array (Option dB)}:Meets (Builtin.«dict.__eq__» ⟨[.ref l,.ref a],[]⟩) (λ_ R s=>s.heap.get? l=Z (OD e n dd sl)/\s.heap.get? a=Z {cls:=.type "list",dict:=c,data:=.seq its k,slots:=b}/\R (.ok (.ret .notImplemented)) s):=.of_wp λ_ _ _ _ s h=>by
 obtain⟨m,g,d,tk,j⟩:=s;obtain⟨i,f,h⟩:=h;have o:=F.sub_list_dict;wp_walk using wpAny_loadPart' i,wpAny_loadPart' f;exact⟨_,O,h⟩
theorem As{a:dE}{its:Array dB}{k:Nat}{c:Option dE}{b:Array (Option dB)}:Meets (Builtin.«dict.__eq__» ⟨[.ref l,.ref a],[]⟩) (λ_ R s=>s.heap.get? l=Z (OD e n dd sl)/\s.heap.get? a=Z {cls:=.type "tuple",dict:=c,data:=.seq its k,slots:=b}/\R (.ok (.ret .notImplemented)) s):=.of_wp λ_ _ _ _ s h=>by
 obtain⟨m,g,d,tk,j⟩:=s;obtain⟨i,f,h⟩:=h;have o:=F.sub_tuple_dict;wp_walk using wpAny_loadPart' i,wpAny_loadPart' f;exact⟨_,O,h⟩
theorem C2(b:Bool):Meets (Builtin.«int.__eq__» ⟨[.bool b,.ref l],[]⟩) (λ_ R s=>s.heap.get? l=Z (OD e n dd sl)/\R (.ok (.ret .notImplemented)) s):=.of_wp λ_ _ _ _ s h=>by
 obtain⟨f,g,d,tk,c⟩:=s;obtain⟨a,h⟩:=h;wp_walk using wpAny_loadPart' a,wpAny_load a;exact⟨_,O,h⟩
theorem yL(b:Int)(u:Tok):Meets (Builtin.«int.__eq__» ⟨[.int b u,.ref l],[]⟩) (λ_ R s=>s.heap.get? l=Z (OD e n dd sl)/\R (.ok (.ret .notImplemented)) s):=.of_wp λ_ _ _ _ s h=>by
 obtain⟨f,g,d,tk,c⟩:=s;obtain⟨a,h⟩:=h;wp_walk using wpAny_loadPart' a,wpAny_load a;exact⟨_,O,h⟩
theorem yK(b:Str)(u:Tok):Meets (Builtin.«str.__eq__» ⟨[.str b u,.ref l],[]⟩) (λ_ R s=>s.heap.get? l=Z (OD e n dd sl)/\R (.ok (.ret .notImplemented)) s):=.of_wp λ_ _ _ _ s h=>by
 obtain⟨f,g,d,tk,c⟩:=s;obtain⟨a,h⟩:=h;wp_walk using wpAny_loadPart' a,wpAny_load a;exact⟨_,O,h⟩
theorem vc{a:dE}{its:Array dB}{k:Nat}{c:Option dE}{b:Array (Option dB)}:Meets (Builtin.«list.__eq__» ⟨[.ref a,.ref l],[]⟩) (λ_ R s=>s.heap.get? l=Z (OD e n dd sl)/\s.heap.get? a=Z {cls:=.type "list",dict:=c,data:=.seq its k,slots:=b}/\R (.ok (.ret .notImplemented)) s):=.of_wp λ_ _ _ _ s h=>by
 obtain⟨m,g,d,tk,j⟩:=s;obtain⟨i,f,h⟩:=h;have o:=F.sub_dict_list;wp_walk using wpAny_loadPart' i,wpAny_loadPart' f;exact⟨_,O,h⟩
theorem yJ{a:dE}{its:Array dB}{k:Nat}{c:Option dE}{b:Array (Option dB)}:Meets (Builtin.«tuple.__eq__» ⟨[.ref a,.ref l],[]⟩) (λ_ R s=>s.heap.get? l=Z (OD e n dd sl)/\s.heap.get? a=Z {cls:=.type "tuple",dict:=c,data:=.seq its k,slots:=b}/\R (.ok (.ret .notImplemented)) s):=.of_wp λ_ _ _ _ s h=>by
 obtain⟨m,g,d,tk,j⟩:=s;obtain⟨i,f,h⟩:=h;have o:=F.sub_dict_tuple;wp_walk using wpAny_loadPart' i,wpAny_loadPart' f;exact⟨_,O,h⟩
end
abbrev FH(A:dG)(s:dD)(v u:dB):Prop:=EqAt A s v u J/\EqAt A s u v J/\RcAt A s v u J/\RcAt A s u v J
section
variable{A:dG}{s:dD}{a:dE}{o:Obj}
theorem IU{u:dB}(hn:(Value.ref a == u)=J)(r:RcAt A s (.ref a) u J):EqAt A s (.ref a) u J:=λprog w E Q h=>by
 unfold eqBool;refine wpAny_holding (wpAny_ite_split (λz=>?_) λ_=>?_)
 ·rw[hn]at z;cases z
 ·exact wB1 (r prog w E _ (wpAny_truthy_bool h))
theorem IT{u:dB}(hn:(u == Value.ref a)=J)(r:RcAt A s u (.ref a) J):EqAt A s u (.ref a) J:=λprog w E Q h=>by
 unfold eqBool;refine wpAny_holding (wpAny_ite_split (λz=>?_) λ_=>?_)
 ·rw[hn]at z;cases z
 ·cases u<;>exact wB1 (r prog w E _ (wpAny_truthy_bool h))
theorem rR {v:V}{u:dB}(ho:s.heap.get? a=Z o)(hc:o.cls = .type "dict")(hd:∃e n,o.data = .dict e n)(r:d7 v u)(f:lJ v=M)(c:A.units<cLine):FH A s (.ref a) u:=by
 obtain⟨i,dd,d,sl⟩:=o;obtain⟨e,n,hd⟩:=hd;simp only at hc hd;subst hc hd;have two:∀{u:dB},((Value.ref a) == u)=J->(u == (Value.ref a))=J->RcAt A s (.ref a) u J->RcAt A s u (.ref a) J->FH A s (.ref a) u:=λh1 h2 g r2=>⟨IU h1 g,IT h2 r2,g,r2⟩;cases v with
 |non=>
  cases r;refine two O O (λ_ _ _ _ h=>?_) λ_ _ _ _ h=>?_
  ·exact rc_eq_decline_or (k:=J) ⟨_,ho,O⟩ O (by decide) F.sub_NoneType_dict F.slot_dict_eq F.slot_NoneType_eq_refl (λ_ q=>call_meets F.slot_dict_eq ⟨_,ho,O⟩ F.entry_dict_eq (F.args_dict_eq_2 _ _) Au ⟨ho,q⟩) (λ_ q=>call_gives F.slot_NoneType_eq_refl O F.entry_NoneType_eq (F.args_NoneType_eq_2 _ _) (NoneType___eq___none_ref_0 a) q) (λ_ q=>wpAny_of_eq (rfl:isSame (.ref a) .none=pure J) q) (.inr c) h
  ·exact rc_eq_decline_or (k:=J) O ⟨_,ho,O⟩ (by decide) F.sub_dict_NoneType F.slot_NoneType_eq F.slot_dict_eq_refl (λ_ q=>call_gives F.slot_NoneType_eq O F.entry_NoneType_eq (F.args_NoneType_eq_2 _ _) (NoneType___eq___none_ref_0 a) q) (λ_ q=>call_meets F.slot_dict_eq_refl ⟨_,ho,O⟩ F.entry_dict_eq (F.args_dict_eq_2 _ _) Au ⟨ho,q⟩) (λ_ q=>wpAny_of_eq (rfl:isSame .none (.ref a)=pure J) q) (.inr c) h
 |bl b=>
  cases r;refine two O O (λ_ _ _ _ h=>?_) λ_ _ _ _ h=>?_
  ·exact rc_eq_decline_or (k:=J) ⟨_,ho,O⟩ O (by decide) F.sub_bool_dict F.slot_dict_eq F.slot_bool_eq_refl (λ_ q=>call_meets F.slot_dict_eq ⟨_,ho,O⟩ F.entry_dict_eq (F.args_dict_eq_2 _ _) (Dc b) ⟨ho,q⟩) (λ_ q=>call_meets F.slot_bool_eq_refl O F.entry_int_eq (F.args_int_eq_2 _ _) (C2 b) ⟨ho,q⟩) (λ_ q=>wpAny_of_eq (rfl:isSame (.ref a) (.bool b)=pure J) q) (.inr c) h
  ·exact rc_eq_decline_or (k:=J) O ⟨_,ho,O⟩ (by decide) F.sub_dict_bool F.slot_bool_eq F.slot_dict_eq_refl (λ_ q=>call_meets F.slot_bool_eq O F.entry_int_eq (F.args_int_eq_2 _ _) (C2 b) ⟨ho,q⟩) (λ_ q=>call_meets F.slot_dict_eq_refl ⟨_,ho,O⟩ F.entry_dict_eq (F.args_dict_eq_2 _ _) (Dc b) ⟨ho,q⟩) (λ_ q=>wpAny_of_eq (rfl:isSame (.bool b) (.ref a)=pure J) q) (.inr c) h
 |int b=>
  obtain⟨t,rfl⟩:=r;refine two O O (λ_ _ _ _ h=>?_) λ_ _ _ _ h=>?_
  ·exact rc_eq_decline_or (k:=J) ⟨_,ho,O⟩ (typeIs_int s b t) (by decide) F.sub_int_dict F.slot_dict_eq F.slot_int_eq_refl (λ_ q=>call_meets F.slot_dict_eq ⟨_,ho,O⟩ F.entry_dict_eq (F.args_dict_eq_2 _ _) (Av b t) ⟨ho,q⟩) (λ_ q=>call_meets F.slot_int_eq_refl (typeIs_int s b t) F.entry_int_eq (F.args_int_eq_2 _ _) (yL b t) ⟨ho,q⟩) (λ_ q=>wpAny_of_eq (rfl:isSame (.ref a) (.int b t)=pure J) q) (.inr c) h
  ·exact rc_eq_decline_or (k:=J) (typeIs_int s b t) ⟨_,ho,O⟩ (by decide) F.sub_dict_int F.slot_int_eq F.slot_dict_eq_refl (λ_ q=>call_meets F.slot_int_eq (typeIs_int s b t) F.entry_int_eq (F.args_int_eq_2 _ _) (yL b t) ⟨ho,q⟩) (λ_ q=>call_meets F.slot_dict_eq_refl ⟨_,ho,O⟩ F.entry_dict_eq (F.args_dict_eq_2 _ _) (Av b t) ⟨ho,q⟩) (λ_ q=>wpAny_of_eq (rfl:isSame (.int b t) (.ref a)=pure J) q) (.inr c) h
 |str b=>
  obtain⟨t,rfl⟩:=r;refine two O O (λ_ _ _ _ h=>?_) λ_ _ _ _ h=>?_
  ·exact rc_eq_decline_or (k:=J) ⟨_,ho,O⟩ (typeIs_str s b t) (by decide) F.sub_str_dict F.slot_dict_eq F.slot_str_eq_refl (λ_ q=>call_meets F.slot_dict_eq ⟨_,ho,O⟩ F.entry_dict_eq (F.args_dict_eq_2 _ _) (At b t) ⟨ho,q⟩) (λ_ q=>call_meets F.slot_str_eq_refl (typeIs_str s b t) F.entry_str_eq (F.args_str_eq_2 _ _) (yK b t) ⟨ho,q⟩) (λ_ q=>wpAny_of_eq (rfl:isSame (.ref a) (.str b t)=pure J) q) (.inr c) h
  ·exact rc_eq_decline_or (k:=J) (typeIs_str s b t) ⟨_,ho,O⟩ (by decide) F.sub_dict_str F.slot_str_eq F.slot_dict_eq_refl (λ_ q=>call_meets F.slot_str_eq (typeIs_str s b t) F.entry_str_eq (F.args_str_eq_2 _ _) (yK b t) ⟨ho,q⟩) (λ_ q=>call_meets F.slot_dict_eq_refl ⟨_,ho,O⟩ F.entry_dict_eq (F.args_dict_eq_2 _ _) (At b t) ⟨ho,q⟩) (λ_ q=>wpAny_of_eq (rfl:isSame (.str b t) (.ref a)=pure J) q) (.inr c) h
 |_=>cases f
theorem vq {b:Bool}{x:dE}{its:Array dB}(ho:s.heap.get? a=Z o)(hc:o.cls = .type "dict")(hd:∃e n,o.data = .dict e n)(c:SCo b s.heap x its)(p:A.units<cLine):FH A s (.ref a) (.ref x):=by
 obtain⟨v,dd,u,sl⟩:=o;obtain⟨e,n,hd⟩:=hd;simp only at hc hd;subst hc hd;cases b with
 |false=>
  obtain⟨⟨m,t,j,r⟩,d,i,w,g⟩:=(show s.heap.IsTuple x its from c);simp only at i g;subst i g;have f:a≠x:=λz=>by subst z;rw[ho]at d;exact absurd (congrArg Obj.cls (Option.some.inj d)) (by simp)
  have l:RcAt A s (.ref a) (.ref x) J:=λ_ _ _ _ h=>rc_eq_decline_or (k:=J) ⟨_,ho,O⟩ ⟨_,d,O⟩ (by decide) F.sub_tuple_dict F.slot_dict_eq F.slot_tuple_eq_refl (λ_ q=>call_meets F.slot_dict_eq ⟨_,ho,O⟩ F.entry_dict_eq (F.args_dict_eq_2 _ _) As ⟨ho,d,q⟩) (λ_ q=>call_meets F.slot_tuple_eq_refl ⟨_,d,O⟩ F.entry_tuple_eq (F.args_tuple_eq_2 _ _) yJ ⟨ho,d,q⟩) (λ_ q=>wpAny_isSame_ref_other f ho d (by simp) q) (.inr p) h;have r2:RcAt A s (.ref x) (.ref a) J:=λ_ _ _ _ h=>rc_eq_decline_or (k:=J) ⟨_,d,O⟩ ⟨_,ho,O⟩ (by decide) F.sub_dict_tuple F.slot_tuple_eq F.slot_dict_eq_refl (λ_ q=>call_meets F.slot_tuple_eq ⟨_,d,O⟩ F.entry_tuple_eq (F.args_tuple_eq_2 _ _) yJ ⟨ho,d,q⟩) (λ_ q=>call_meets F.slot_dict_eq_refl ⟨_,ho,O⟩ F.entry_dict_eq (F.args_dict_eq_2 _ _) As ⟨ho,d,q⟩) (λ_ q=>wpAny_isSame_ref_other' f.symm d ho (by simp) q) (.inr p) h;exact⟨.of_refs f l,.of_refs f.symm r2,l,r2⟩
 |true=>
  obtain⟨⟨m,t,j,r⟩,d,i,w,g⟩:=(show s.heap.IsList x its from c);simp only at i g;subst i g;have f:a≠x:=λz=>by subst z;rw[ho]at d;exact absurd (congrArg Obj.cls (Option.some.inj d)) (by simp)
  have l:RcAt A s (.ref a) (.ref x) J:=λ_ _ _ _ h=>rc_eq_decline_or (k:=J) ⟨_,ho,O⟩ ⟨_,d,O⟩ (by decide) F.sub_list_dict F.slot_dict_eq F.slot_list_eq_refl (λ_ q=>call_meets F.slot_dict_eq ⟨_,ho,O⟩ F.entry_dict_eq (F.args_dict_eq_2 _ _) vY ⟨ho,d,q⟩) (λ_ q=>call_meets F.slot_list_eq_refl ⟨_,d,O⟩ F.entry_list_eq (F.args_list_eq_2 _ _) vc ⟨ho,d,q⟩) (λ_ q=>wpAny_isSame_ref_other f ho d (by simp) q) (.inr p) h;have r2:RcAt A s (.ref x) (.ref a) J:=λ_ _ _ _ h=>rc_eq_decline_or (k:=J) ⟨_,d,O⟩ ⟨_,ho,O⟩ (by decide) F.sub_dict_list F.slot_list_eq F.slot_dict_eq_refl (λ_ q=>call_meets F.slot_list_eq ⟨_,d,O⟩ F.entry_list_eq (F.args_list_eq_2 _ _) vc ⟨ho,d,q⟩) (λ_ q=>call_meets F.slot_dict_eq_refl ⟨_,ho,O⟩ F.entry_dict_eq (F.args_dict_eq_2 _ _) vY ⟨ho,d,q⟩) (λ_ q=>wpAny_isSame_ref_other' f.symm d ho (by simp) q) (.inr p) h;exact⟨.of_refs f l,.of_refs f.symm r2,l,r2⟩
end
abbrev G1:=D->Sto->Option (D×Sto)
abbrev G2:=D->D->Sto->Option (D×Sto)
abbrev G3:=D->D->D->Sto->Option (D×Sto)
noncomputable def b1 (f:G1):FN:=λds S=>match ds with
 |[a]=>f a S
 |_=>none
noncomputable def b2 (f:G2):FN:=λds S=>match ds with
 |[a,b]=>f a b S
 |_=>none
noncomputable def b3 (f:G3):FN:=λds S=>match ds with
 |[a,b,c]=>f a b c S
 |_=>none
section
variable{X:Cx}{K:Fg1}{H:Hp}{Q:VK}
theorem oo{f:G2}{x y:V}(h:rN K (b2 f) [x,y] H Q):∃mu S d e r a,eJ K H mu d x/\eJ K H mu e y/\Sim K H mu S/\f d e S=Z (r,a)/\n4 K mu H r a Q:=by
 obtain⟨mu,S,ds,r,a,b,i,c,hc⟩:=h;cases b with
 |cons q t=>cases t with
  |cons g t=>cases t;exact⟨mu,S,_,_,r,a,q,g,i,c,hc⟩
theorem DQ{f:G1}{xs:List V}(h:rN K (b1 f) xs H Q):∃x mu S d r a,xs=[x]/\eJ K H mu d x/\Sim K H mu S/\f d S=Z (r,a)/\n4 K mu H r a Q:=by
 obtain⟨mu,S,ds,r,a,c,e,b,hc⟩:=h;cases c with
 |nil=>cases b
 |cons q t=>cases t with
  |nil=>exact⟨_,mu,S,_,r,a,O,q,e,b,hc⟩
  |cons g t=>cases b
theorem yE{f:G2}{xs:List V}(h:rN K (b2 f) xs H Q):∃x y mu S d e r a,xs=[x,y]/\eJ K H mu d x/\eJ K H mu e y/\Sim K H mu S/\f d e S=Z (r,a)/\n4 K mu H r a Q:=by
 obtain⟨mu,S,ds,r,a,c,i,b,hc⟩:=h;cases c with
 |nil=>cases b
 |cons q t=>cases t with
  |nil=>cases b
  |cons g t=>cases t with
   |nil=>exact⟨_,_,mu,S,_,_,r,a,O,q,g,i,b,hc⟩
   |cons j t=>cases b
theorem n4.now{mu:List dE}{S:Sto}{d:D}{v:V}(c:n4 K mu H d S Q)(r:eJ K H mu d v)(s:Sim K H mu S):Q v H:=c v H mu (.refl _ _) r s
end
noncomputable def eR(i j:Int):Bool:=(decide (-(2^64)<i)&&decide (i<2^64))||(decide (-(2^64)<j)&&decide (j<2^64))||(decide (i.natAbs<2^1000)&&decide (j.natAbs<2^1000))
noncomputable def fS:G2:=λd e S=>match d,e with
 | .int i,.int j=>Z (.int (i+j),S)
 | .tup xs,.tup ys=>if xs.length+ys.length<=dL then Z (.tup (xs++ys),S)else Y
 | .str x,.str y=>if x.length+y.length<=dL then Z (.str (x++y),S)else Y
 | .ref a,.ref b=>match S[a]?,S[b]? with
  |some (.lst xs),Z (.lst ys)=>if xs.length+ys.length<=dL then Z (.ref S.length,S++[.lst (xs++ys)])else Y
  |_,_=>Y
 |_,_=>Y
noncomputable def gSub:G2:=λd e S=>match d,e with
 | .int i,.int j=>Z (.int (i-j),S)
 |_,_=>Y
noncomputable def jp:G2:=λd e S=>match d,e with
 | .int i,.int j=>if eR i j=M then Z (.int (i*j),S)else Y
 |_,_=>Y
noncomputable def kx:G2:=λd e S=>match d,e with
 | .int i,.int j=>if 0<j then Z (.int (i%j),S)else Y
 |_,_=>Y
noncomputable def nU:G2:=λd e S=>match d,e with
 | .int i,.int j=>if 0<j/\j<1073741824 then Z (.int (i/j),S)else Y
 |_,_=>Y
noncomputable def uB:G2:=λd e S=>match d,e with
 | .int i,.int j=>if 0<=j/\j<=1000000/\i.natAbs<2^64 then Z (.int (i^j.toNat),S)else Y
 |_,_=>Y
noncomputable def sD:G1:=λd S=>match d with
 | .int i=>Z (.int (-i),S)
 |_=>Y
section
variable{X:Cx}
theorem um{i j:Int}(h:eR i j=M):IntMulOk i j:=by
 unfold eR at h;simp only[bQ,bA1,al]at h;rcases h with(⟨h1,h2⟩|⟨h1,h2⟩)|⟨h1,h2⟩
 ·exact .of_left (intBits_le_64 h1 h2)
 ·exact .of_right (intBits_le_64 h1 h2)
 ·exact .of_bits (aC (intBits_le h1) (by decide)) (aC (intBits_le h2) (by decide))
theorem me{f:dB->dB->Sem dB}{g:G2}{c:Int->Int->Prop}{v:Int->Int->D}(hg:∀ d e S r a,g d e S=Z (r,a) -> ∃ i j,d = .int i/\e = .int j/\c i j/\r=v i j/\a=S){b:Int->Int->V}(hv:∀i j K H mu,eJ K H mu (v i j) (b i j))(ho:gp X f (rI c b)):gp X f (r2 X.K (b2 g)):=by
 intro ag s σ H x y u w Q I o m h;obtain⟨mu,S,d,e,r,a,k,r2,n,l,hc⟩:=oo h;obtain⟨i,j,rfl,rfl,p,rfl,rfl⟩:=hg d e S r a l;cases k;cases r2;exact ho ag s σ H _ _ u w Q I o m ⟨i,j,O,O,p,hc.now (hv i j _ _ _) n⟩
theorem mT{f:dB->dB->Sem dB}{g:G2}{v:Int->Int->D}(hg:∀ d e S r a,g d e S=Z (r,a) -> ∃ i j,d = .int i/\e = .int j/\r=v i j/\a=S){b:Int->Int->V}(hv:∀i j K H mu,eJ K H mu (v i j) (b i j))(ho:gp X f (C1 b)):gp X f (r2 X.K (b2 g)):=by
 intro ag s σ H x y u w Q I n l h;obtain⟨mu,S,d,e,r,a,c,r2,m,k,hc⟩:=oo h;obtain⟨i,j,rfl,rfl,rfl,rfl⟩:=hg d e S r a k;cases c;cases r2;exact ho ag s σ H _ _ u w Q I n l ⟨i,j,O,O,hc.now (hv i j _ _ _) m⟩
theorem zi:gp X (binaryOp .Sub) (r2 X.K (b2 gSub)):=mT (v:=λi j=>.int (i-j)) (λd e S r a h=>by
 unfold gSub at h;split at h
 ·cases h;exact⟨_,_,O,O,O,O⟩
 ·cases h) (λ_ _ _ _ _=>.int _) Ei
theorem kb:gp X (binaryOp .Mult) (r2 X.K (b2 jp)):=me (c:=λi j=>IntMulOk i j) (v:=λi j=>.int (i*j)) (λd e S r a h=>by
 unfold jp at h;split at h
 ·split at h
  ·rename_i q;cases h;exact⟨_,_,O,O,um q,O,O⟩
  ·cases h
 ·cases h) (λ_ _ _ _ _=>.int _) (HM λ_ _ _ _ _ _ _ hc q=>mul_int q hc)
theorem lE:gp X (binaryOp .Mod) (r2 X.K (b2 kx)):=me (c:=λ_ j=>0<j) (v:=λi j=>.int (i%j)) (λd e S r a h=>by
 unfold kx at h;split at h
 ·split at h
  ·rename_i q;cases h;exact⟨_,_,O,O,q,O,O⟩
  ·cases h
 ·cases h) (λ_ _ _ _ _=>.int _) Ek
theorem vv:gp X (binaryOp .FloorDiv) (r2 X.K (b2 nU)):=me (c:=HH) (v:=λi j=>.int (i/j)) (λd e S r a h=>by
 unfold nU at h;split at h
 ·split at h
  ·rename_i q;cases h;exact⟨_,_,O,O,q,O,O⟩
  ·cases h
 ·cases h) (λ_ _ _ _ _=>.int _) BD
theorem zj:gp X (binaryOp .Pow) (r2 X.K (b2 uB)):=me (c:=HG) (v:=λi j=>.int (i^j.toNat)) (λd e S r a h=>by
 unfold uB at h;split at h
 ·split at h
  ·rename_i q;cases h;exact⟨_,_,O,O,q,O,O⟩
  ·cases h
 ·cases h) (λ_ _ _ _ _=>.int _) Ej
theorem C4:FQ X (unaryOp .USub) (λx H Q=>rN X.K (b1 sD) [x] H Q):=by
 intro ag s σ H x v Q I f h;obtain⟨j,mu,S,d,r,g,e,b,c,a,hc⟩:=DQ h;cases e;cases d with
 |int i=>cases a;cases b;exact Dq ag s σ H _ v Q I f ⟨i,O,hc.now (.int _) c⟩
 |_=>cases a
theorem xw{s:dD}{prog:dF}{w:dH}{A:dG}{E:dB->dD->Prop}{t b:dE}{ws:List dB}{Q:dB->dD->Prop}(ht:IsTup s.heap t ([]:List dB).toArray)(hb:IsTup s.heap b ws.toArray)(h:Q (.ref b) s):
  dM (model prog w) A (binaryOp .Add (.ref t) (.ref b)) Q E s:=by
 obtain⟨⟨m,dd,k,sl⟩,l,hc,n,i⟩:=id ht;obtain⟨⟨j,g,f,e⟩,c,d,o,a⟩:=id hb;simp only at hc i d a;subst hc i d a;exact concat_meets ⟨_,l,O⟩ ⟨_,c,O⟩ noFill_tuple_add seq_tuple_add PySem.F.slot_tuple_add PySem.F.entry_tuple_add (PySem.F.args_tuple_add_2 _ _) (tuple_addW0 t b ([]:List dB).toArray ws.toArray n o dd g sl e (by simp)) ⟨l,c,h⟩
theorem fT:gp X (binaryOp .Add) (r2 X.K (b2 fS)):=by
 intro ag s σ H x y u w Q I o q h;obtain⟨mu,S,d,e,r,R,v,r2,f,c,hc⟩:=oo h;unfold fS at c;split at c
 ·cases c;cases v;cases r2;exact En ag s σ H _ _ u w Q I o q ⟨_,_,O,O,hc.now (.int _) f⟩
 ·rename_i xs ys;split at c
  ·rename_i t;cases c;cases v with
   |tup B k=>
    cases r2 with
    |tup C l=>
     rename_i g a1 m a2;by_cases E:g=[]
     ·subst E;have:xs=[]:=by cases k;rfl
      subst this;cases o;cases q;obtain⟨A,L,au,_⟩:=I.tuple B;obtain⟨D,P,p2,_⟩:=I.tuple C;have:A=[]:=L.nil_iff.mpr O;subst this;exact xw au p2 ⟨.ref a2,H,I,O,hc.now (.tup C l) f⟩
     ·refine BE ag s σ H _ _ u w Q I o q ⟨a1,a2,g,m,O,O,B,C,E,by rw[<- k.length,<- l.length];exact t,λz=>?_,λz p n=>?_⟩
      ·subst z;have:ys=[]:=by cases l;rfl
       subst this;rw[aM]at hc;exact hc.now (.tup B k) f
      ·exact hc _ _ mu (Ext.fresh n) (.tup (jm.of d4) ((k.append l).ext (Ext.fresh n))) (f.fresh n)
  ·cases c
 ·rename_i i j;split at c
  ·rename_i t;cases c;cases v;cases r2;exact uh ag s σ H _ _ u w Q I o q ⟨i,j,O,O,t,hc.now (.str _) f⟩
  ·cases c
 ·rename_i a b;split at c
  ·rename_i xs ys F ao;split at c
   ·rename_i t;cases c;cases v with
    |ref am=>
     cases r2 with
     |ref N=>
      obtain⟨g,G,k⟩:=f.lst F am;obtain⟨m,K,l⟩:=f.lst ao N;refine Em ag s σ H _ _ u w Q I o q ⟨_,_,g,m,O,O,G,K,by rw[<- k.length,<- l.length];exact t,λp n=>?_⟩;exact hc _ _ (mu++[p]) (Ext.new_ n) (.ref (fZ f.len p)) (f.newL (k.append l) n)
   ·cases c
  ·cases c
 ·cases c
end
noncomputable def iI(p:Int->Int->Bool):G2:=λd e S=>match d,e with
 | .int i,.int j=>Z (.bl (p i j),S)
 |_,_=>Y
section
variable{X:Cx}
theorem vQ{p:Int->Int->Bool}(d e:D)(S:Sto)(r:D)(a:Sto)(h:iI p d e S=Z (r,a)):∃i j,d = .int i/\e = .int j/\r = .bl (p i j)/\a=S:=by
 unfold iI at h;split at h
 ·cases h;exact⟨_,_,O,O,O,O⟩
 ·cases h
theorem zm:gp X (compareOp .Gt) (r2 X.K (b2 (iI λi j=>decide (j<i)))):=mT vQ (λ_ _ _ _ _=>.bl _) Gx
theorem GD:gp X (compareOp .GtE) (r2 X.K (b2 (iI λi j=>decide (j<=i)))):=mT vQ (λ_ _ _ _ _=>.bl _) Gy
end
noncomputable def i4:D->Bool
 | .non=>M
 | .bl _=>M
 | .int _=>M
 | .str _=>M
 |_=>J
noncomputable def HX:D->D->Option Bool
 | .non,.non=>some true
 | .bl a,.bl b=>some (a == b)
 | .bl a,.int b=>some ((if a then 1 else 0) == b)
 | .int a,.bl b=>some (a == (if b then 1 else 0))
 | .int a,.int b=>some (a == b)
 | .str a,.str b=>some (a == b)
 |d,e=>if i4 d&&i4 e then some false else none
noncomputable def nJ(f:D->D->Option Bool):List D->List D->Option Bool
 |x::xs,y::ys=>(f x y).bind λb=>(nJ f xs ys).map λc=>b&&c
 |[],[]=>Z M
 |_,_=>Z J
noncomputable def uw(S:Sto):D->Bool
 | .ref n=>match S[n]? with
  |some (.dct _)=>M
  |some (.dcT _)=>M
  |_=>J
 |_=>J
noncomputable def HW(S:Sto)(d e:D):Option Bool:=match uw S d,uw S e with
 |false,J=>HX d e
 |true,J=>if i4 e=M then Z J else Y
 |false,M=>if i4 d=M then Z J else Y
 |true,M=>Y
noncomputable def gr(S:Sto):Nat->D->D->Option Bool
 |0,_,_=>Y
 |n+1,d,e=>match d6 S d,d6 S e with
  |some p,Z q=>if p.1=q.1 then(if p.1=M/\p.2.length≠q.2.length then Z J else nJ (gr S n) p.2 q.2)else Z J
  |some _,Y=>if i4 e=M then Z J else if uw S e=M then Z J else Y
  |none,Z _=>if i4 d=M then Z J else if uw S d=M then Z J else Y
  |none,Y=>HW S d e
section
variable{X:Cx}{ag:List (dE×Obj)}{σ:L2.St}{H:Hp}{s:dD}{mu:List dE}{S:Sto}
theorem fE{K:Fg1}{d:D}{v:V}(r:eJ K H mu d v)(h:i4 d=M):lJ v=M /\ ∀e w,eJ K H mu e w->i4 e=M->HX d e=Z (uF v w):=by
 cases d with
 |non=>cases r;refine⟨O,λe w q f=>?_⟩;cases e with
  |non=>cases q;rfl
  |bl _=>cases q;rfl
  |int _=>cases q;rfl
  |str _=>cases q;rfl
  |_=>cases f
 |bl b=>cases r;refine⟨O,λe w q f=>?_⟩;cases e with
  |non=>cases q;rfl
  |bl _=>cases q;rfl
  |int _=>cases q;rfl
  |str _=>cases q;rfl
  |_=>cases f
 |int i=>cases r;refine⟨O,λe w q f=>?_⟩;cases e with
  |non=>cases q;rfl
  |bl _=>cases q;rfl
  |int _=>cases q;rfl
  |str _=>cases q;rfl
  |_=>cases f
 |str x=>cases r;refine⟨O,λe w q f=>?_⟩;cases e with
  |non=>cases q;rfl
  |bl _=>cases q;rfl
  |int _=>cases q;rfl
  |str _=>cases q;rfl
  |_=>cases f
 |_=>cases h
theorem sJ{d e:D}{b:Bool}(h:HX d e=Z b):i4 d=M/\i4 e=M:=by
 cases d<;>cases e<;>first|exact⟨rfl,rfl⟩|(cases h;done)|exact nomatch h|(simp[HX,i4]at h)
theorem Al{v:V}(h:lJ v=M):uF v v=M:=by
 cases v<;>first|rfl|(cases h;done)|exact beq_self_eq_true _|(simp[uF];done)
theorem lM(I:Inv X ag σ H s)(hs:Sim X.K H mu S){d:D}{v:V}(r:eJ X.K H mu d v)(h:uw S d=M):∃a o,v = .ref a/\s.heap.get? a=Z o/\o.cls = .type "dict" /\ ∃e n,o.data = .dict e n:=by
 cases d with
 |ref n=>
  rw[uw]at h;cases r with
  | @ref _ a i=>
   split at h
   ·rename_i ks e;obtain⟨ws,b,_⟩:=hs.dct e i;obtain⟨_,_,vs,_,o,es,ep,f,c,g,_⟩:=(show eN X.prog X.w H s.heap a (.dK ws)from I.hok a _ b);exact⟨a,o,O,f,c.1,es,ep,g⟩
   ·rename_i ks e;obtain⟨ws,b,_⟩:=hs.dcT e i;obtain⟨⟨_,_,o,es,ep,f,c,g,_⟩,_⟩:=(show eN X.prog X.w H s.heap a (.ext (gb a ws))from I.hok a _ b);exact⟨a,o,O,f,c.1,es,ep,g⟩
   ·cases h
 |_=>cases h
theorem sI(I:Inv X ag σ H s)(hs:Sim X.K H mu S):∀(n:Nat) {d e:D} {v:V} {b:Bool},eJ X.K H mu d v->eJ X.K H mu e v->gr S n d e=Z b->b=M
 |0,_,_,_,_,_,_,h=>by cases h
 |n + 1,d,e,v,b,m,l,h=>by
  rw[gr]at h;have k:∀{xs ys:List D} {vs:List V} {b:Bool},d0 X.K H mu xs vs->d0 X.K H mu ys vs->nJ (gr S n) xs ys=Z b->b=M:=by
   intro xs
   induction xs with
   |nil=>intro ys vs b F am h;cases F;cases am;cases h;rfl
   |cons x xs ih=>
    intro ys vs b F am h;cases F with
    |cons r t=>
     cases am with
     |cons au aq=>
      rw[nJ]at h;obtain⟨b1,u,h⟩:=oB1.mp h;obtain⟨b2,i,h⟩:=oM1.mp h;subst h;rw[sI I hs n r au u,ih t aq i];rfl
  cases hd:d6 S d with
  |some p=>
   obtain⟨E,xs⟩:=p;obtain⟨a,vs,rfl,q,t⟩:=ev m hs hd;cases he:d6 S e with
   |some p2=>
    obtain⟨qb,ys⟩:=p2;obtain⟨a2,K,i,C,G⟩:=ev l hs he;cases i;rw[hd,he]at h;dsimp only at h;obtain⟨w,N,j,_⟩:=fb I q;obtain⟨ao,rv2,z,_⟩:=fb I C;have wq:E=qb:=by
     cases E<;>cases qb
     ·rfl
     ·obtain⟨o,u,L,_⟩:=j;obtain⟨A,i,B,_⟩:=z;rw[u]at i;cases i;rw[L]at B;exact absurd B (by decide)
     ·obtain⟨o,u,L,_⟩:=j;obtain⟨A,i,B,_⟩:=z;rw[u]at i;cases i;rw[L]at B;exact absurd B (by decide)
     ·rfl
    subst wq;have P:=l8 I q C;subst P;rw[ak O,aj (by rw[t.length,G.length];simp)]at h;exact k t G h
   |none=>
    rw[hd,he]at h;dsimp only at h;split at h
    ·rename_i f;have:=(fE l f).1;cases this
    ·split at h
     ·rename_i f;obtain⟨a2,o,i,y,hc,_⟩:=lM I hs l f;cases i;obtain⟨w,N,j,_⟩:=fb I q;cases E with
      |false=>obtain⟨A,g,c,_⟩:=j;rw[y]at g;cases g;rw[hc]at c;exact absurd c (by decide)
      |true=>obtain⟨A,g,c,_⟩:=j;rw[y]at g;cases g;rw[hc]at c;exact absurd c (by decide)
     ·cases h
  |none=>
   cases he:d6 S e with
   |some p2=>
    obtain⟨qb,ys⟩:=p2;obtain⟨a2,K,i,C,G⟩:=ev l hs he;subst i;rw[hd,he]at h;dsimp only at h;split at h
    ·rename_i f;have:=(fE m f).1;cases this
    ·split at h
     ·rename_i f;obtain⟨a,o,i,y,hc,_⟩:=lM I hs m f;cases i;obtain⟨w,N,j,_⟩:=fb I C;cases qb with
      |false=>obtain⟨A,g,c,_⟩:=j;rw[y]at g;cases g;rw[hc]at c;exact absurd c (by decide)
      |true=>obtain⟨A,g,c,_⟩:=j;rw[y]at g;cases g;rw[hc]at c;exact absurd c (by decide)
     ·cases h
   |none=>
    rw[hd,he]at h;dsimp only at h;unfold HW at h;split at h
    ·obtain⟨U,Q⟩:=sJ h;obtain⟨g1,T⟩:=fE m U;rw[T e v l Q]at h;cases h;exact Al g1
    ·rename_i W _;split at h
     ·rename_i f;obtain⟨a,o,rfl,_⟩:=lM I hs m W;have:=(fE l f).1;cases this
     ·cases h
    ·rename_i _ R;split at h
     ·rename_i f;obtain⟨a,o,rfl,_⟩:=lM I hs l R;have:=(fE m f).1;cases this
     ·cases h
    ·cases h
theorem fh{A:dG}{b:Bool}{a:dE}{its:Array dB}{v:V}{u:dB}(c:SCo b s.heap a its)(r:d7 v u)(f:lJ v=true)(d:A.units<cLine):
   SeqAt.EqAt A s (.ref a) u J/\SeqAt.EqAt A s u (.ref a) J/\SeqAt.RcAt A s (.ref a) u J/\SeqAt.RcAt A s u (.ref a) J:=by
 cases v with
 | non => cases r;cases b
          · exact⟨.tuple_none c d,.none_tuple c d,.tuple_none c d,.none_tuple c d⟩
          · exact⟨.list_none c d,.none_list c d,.list_none c d,.none_list c d⟩
 | bl k => cases r;cases b
           · exact⟨.tuple_bool k c d,.bool_tuple k c d,.tuple_bool k c d,.bool_tuple k c d⟩
           · exact⟨.list_bool k c d,.bool_list k c d,.list_bool k c d,.bool_list k c d⟩
 | int i => obtain ⟨t,rfl⟩:=r;cases b
            · exact⟨.tuple_int i t c d,.int_tuple i t c d,.tuple_int i t c d,.int_tuple i t c d⟩
            · exact⟨.list_int i t c d,.int_list i t c d,.list_int i t c d,.int_list i t c d⟩
 | str x => obtain ⟨t,rfl⟩:=r;cases b
            · exact⟨.tuple_str x t c d,.str_tuple x t c d,.tuple_str x t c d,.str_tuple x t c d⟩
            · exact⟨.list_str x t c d,.str_list x t c d,.list_str x t c d,.str_list x t c d⟩
 |_=>cases f
theorem Bg{A:dG}{x y:V}{u w:dB}(f:d7 x u)(a:d7 y w)(h:lJ x=M)(e:lJ y=M):SeqAt.RcAt A s u w (uF x y):=by
 cases x with
 |non=>cases f;cases y with
  |non=>cases a;exact .none_none
  |bl k=>cases a;exact .none_bool k
  |int i=>obtain⟨t,rfl⟩:=a;exact .none_int i t
  |str z=>obtain⟨t,rfl⟩:=a;exact .none_str z t
  |_=>cases e
 |bl g=>cases f;cases y with
  |non=>cases a;exact .bool_none g
  |bl k=>cases a;exact .bool_bool g k
  |int i=>obtain⟨t,rfl⟩:=a;exact .bool_int g i t
  |str z=>obtain⟨t,rfl⟩:=a;exact .bool_str g z t
  |_=>cases e
 |int c=>obtain⟨b,rfl⟩:=f;cases y with
  |non=>cases a;exact .int_none c b
  |bl k=>cases a;exact .int_bool c b k
  |int i=>obtain⟨t,rfl⟩:=a;exact .int_int c b i t
  |str z=>obtain⟨t,rfl⟩:=a;exact .int_str c b z t
  |_=>cases e
 |str d=>obtain⟨b,rfl⟩:=f;cases y with
  |non=>cases a;exact .str_none d b
  |bl k=>cases a;exact .str_bool d b k
  |int i=>obtain⟨t,rfl⟩:=a;exact .str_int d b i t
  |str z=>obtain⟨t,rfl⟩:=a;exact .str_str d b z t
  |_=>cases e
 |_=>cases h
theorem Am(f:D->D->Option Bool):∀{xs ys:List D} {b:Bool},nJ f xs ys=Z b -> ∃e:Nat->Bool,(∀j x y,xs[j]?=Z x->ys[j]?=Z y->f x y=Z (e j))/\b=((af (min xs.length ys.length)).all e&&xs.length == ys.length)
 |[],[],b,h=>by cases h;exact⟨λ_=>M,λj x y h=>by simp at h,O⟩
 |[],y::ys,b,h=>by cases h;exact⟨λ_=>M,λj x y h=>by simp at h,by simp⟩
 |x::xs,[],b,h=>by cases h;exact⟨λ_=>M,λj x y h h'=>by simp at h',by simp⟩
 |x::xs,y::ys,b,h=>by
  rw[nJ]at h;obtain⟨b1,d,h⟩:=oB1.mp h;obtain⟨b2,l,h⟩:=oM1.mp h;obtain⟨e,g,i⟩:=Am f l;refine⟨λj=>match j with|0=>b1|j+1=>e j,λj m k c a=>?_,?_⟩
  ·cases j with
   |zero=>simp at c a;subst c;subst a;exact d
   |succ j=>exact g j m k (by simpa using c) (by simpa using a)
  ·rw[<- h,i,lC1,lC1,Nat.succ_min_succ,List.range_succ_eq_map,bR,List.all_map];have:((xs.length+1 == ys.length+1):Bool)=(xs.length == ys.length):=by simp
   rw[this,Bool.and_assoc];rfl
theorem nv(I:Inv X ag σ H s)(hs:Sim X.K H mu S):∀(n:Nat) {A:dG} {d e:D} {v w:V} {u z:dB} {b:Bool},A.units+n<cLine->eJ X.K H mu d v->eJ X.K H mu e w->d7 v u->d7 w z->gr S n d e=Z b->SeqAt.EqAt A s u z b/\SeqAt.RcAt A s u z b
 |0,_,_,_,_,_,_,_,_,_,_,_,_,_,h=>by cases h
 |n + 1,A,d,e,v,w,u,z,b,hu,ao,B,K,am,h=>by
  have c:A.units<cLine:=by lia
  have h0:=h;rw[gr]at h;cases hd:d6 S d with
  |some p=>
   obtain⟨pb,xs⟩:=p;obtain⟨a,vs,rfl,q,t⟩:=ev ao hs hd;obtain⟨l,rv,C,_⟩:=fb I q;cases K;cases he:d6 S e with
   |some p2=>
    obtain⟨qb,ys⟩:=p2;obtain⟨a2,T,rfl,q2,wq⟩:=ev B hs he;obtain⟨i,r,g,_⟩:=fb I q2;cases am;rw[hd,he]at h;dsimp only at h;have m:SeqAt.RcAt A s (.ref a) (.ref a2) b->SeqAt.EqAt A s (.ref a) (.ref a2) b/\SeqAt.RcAt A s (.ref a) (.ref a2) b:=λrc=>by
     refine⟨?_,rc⟩;by_cases ha:a=a2
     ·subst ha;rw[sI I hs (n+1) ao B h0];exact .same _
     ·exact .of_refs ha rc
    split at h
    ·rename_i hb;have hb':pb=qb:=hb;subst hb';split at h
     ·rename_i hl;cases h;obtain⟨h1,h2⟩:=hl;subst h1;refine m (.lists_lengths C g ?_ c);have l1:=t.length;have l2:=wq.length;have l3:=rv.length;have l4:=r.length
      simp only[sT1,bne_iff_ne,ne_eq];lia
     ·rename_i hl;obtain ⟨f,hf,W⟩:=Am _ h;have elts:∀ j (h1:j<l.toArray.size) (h2:j<i.toArray.size),SeqAt.EqAt A.in1 s l.toArray[j] i.toArray[j] (f j):=fun j h1 h2=>by
       have P:j<l.length:=by simpa using h1
       have U:j<i.length:=by simpa using h2
       have k1:j<vs.length:=by rw[rv.length];exact P
       have aq:j<T.length:=by rw[r.length];exact U
       obtain⟨x,ex,rx⟩:=t.getV (gG1 k1);obtain⟨y,ey,ry⟩:=wq.getV (gG1 aq);obtain⟨u1,R,ru1⟩:=rv.get (gG1 k1);obtain⟨u2,N,ru2⟩:=r.get (gG1 aq);have au:l.toArray[j]=u1:=by
        rw[gG1 P]at R;simpa using R
       have e2:i.toArray[j]=u2:=by
        rw[gG1 U]at N;simpa using N
       rw[au,e2];exact(nv I hs n (A:=A.in1) (by show A.units+1+n<cLine;lia) rx ry ru1 ru2 (hf j x y ex ey)).1
      have l1:=t.length;have l2:=wq.length;have l3:=rv.length;have l4:=r.length
      cases pb with
      |false=>
       refine m ?_;have:=SeqAt.RcAt.tuples C g c elts;rw[W];have au:l.toArray.size=xs.length:=by simp;lia
       have e2:i.toArray.size=ys.length:=by simp;lia
       rw[au,e2]at this;exact this
      |true=>
       refine m ?_;have Q:xs.length=ys.length:=by
        by_cases z:xs.length=ys.length
        ·exact z
        ·exact absurd ⟨O,z⟩ hl
       have:=SeqAt.RcAt.lists C g (by simp;lia) c elts;rw[W];have au:l.toArray.size=xs.length:=by simp;lia
       rw[au]at this;rw[Q,Nat.min_self,beq_self_eq_true,bO,<- Q];exact this
    ·rename_i hb;cases h;cases pb with
     |true=>
      cases qb with
      |true=>exact absurd O hb
      |false=>exact⟨.list_tuple C g c,.list_tuple C g c⟩
     |false=>
      cases qb with
      |false=>exact absurd O hb
      |true=>exact⟨.tuple_list C g c,.tuple_list C g c⟩
   |none=>
    rw[hd,he]at h;dsimp only at h;split at h
    ·rename_i f;cases h;obtain⟨E,r2,G,F⟩:=fh C am (fE B f).1 c;exact⟨E,G⟩
    ·split at h
     ·rename_i f;cases h;obtain⟨a2,o,rfl,L,hc,k⟩:=lM I hs B f;cases am;obtain⟨E,r2,G,F⟩:=vq L hc k C c;exact⟨r2,F⟩
     ·cases h
  |none=>
   cases he:d6 S e with
   |some p2=>
    obtain⟨qb,ys⟩:=p2;obtain⟨a2,T,rfl,q2,wq⟩:=ev B hs he;obtain⟨i,r,g,_⟩:=fb I q2;cases am;rw[hd,he]at h;dsimp only at h;split at h
    ·rename_i f;cases h;obtain⟨E,r2,G,F⟩:=fh g K (fE ao f).1 c;exact⟨r2,F⟩
    ·split at h
     ·rename_i f;cases h;obtain⟨a,o,rfl,L,hc,k⟩:=lM I hs ao f;cases K;obtain⟨E,r2,G,F⟩:=vq L hc k g c;exact⟨E,G⟩
     ·cases h
   |none=>
    rw[hd,he]at h;dsimp only at h;unfold HW at h;split at h
    ·obtain⟨f1,f2⟩:=sJ h;obtain⟨g1,g2⟩:=fE ao f1;have g3:=(fE B f2).1;rw[g2 e w B f2]at h;cases h;exact⟨jG K am g1 g3,Bg K am g1 g3⟩
    ·rename_i k1 _;split at h
     ·rename_i f;cases h;obtain⟨a,o,rfl,L,hc,k⟩:=lM I hs ao k1;cases K;obtain⟨E,r2,G,F⟩:=rR L hc k am (fE B f).1 c;exact⟨E,G⟩
     ·cases h
    ·rename_i _ aq;split at h
     ·rename_i f;cases h;obtain⟨a,o,rfl,L,hc,k⟩:=lM I hs B aq;cases am;obtain⟨E,r2,G,F⟩:=rR L hc k K (fE ao f).1 c;exact⟨r2,F⟩
     ·cases h
    ·cases h
end
noncomputable def eO:Nat:=60
noncomputable def oR:G2:=λd e S=>(gr S eO d e).map λb=>(.bl b,S)
section
variable{X:Cx}
theorem k3(l:X.A.units+64<cLine):gp X (compareOp .Eq) (r2 X.K (b2 oR)):=by
 intro ag s σ H x y u w Q I j i h;obtain⟨mu,S,d,e,r,k,g,r2,c,a,hc⟩:=oo h;obtain⟨b,f,a⟩:=oM1.mp a;cases a;exact(nv I c eO (by show _+60<cLine;lia) g r2 j i f).2 X.prog X.w X.xe _ ⟨.bl b,H,I,O,hc.now (.bl b) c⟩
end
end Mi
namespace Mi
open PySem PySem.Spec PyProof.Rows L2 SeqAt
open AutoSeq1 (wpAny_loadPart')
open MeetsSeq
section
variable{l:dE}{e:Array DictEntry}{n:Nat}{dd:Option dE}{sl:Array (Option dB)}
end
section
variable{A:dG}{s:dD}{a:dE}{o:Obj}
end
section
variable{X:Cx}{ag:List (dE×Obj)}{σ:L2.St}{H:Hp}{s:dD}{mu:List dE}{S:Sto}
end
noncomputable def Jt:G2:=λd e S=>(gr S eO d e).map λb=>(.bl (!b),S)
noncomputable def AS(f:D->D->Option Bool)(x:D):List D->Option Bool
 |[]=>Z J
 |y::ys=>(f y x).bind λb=>(AS f x ys).map λc=>b||c
noncomputable def FP:G2:=λd e S=>(d6 S e).bind λp=>(AS (gr S eO) d p.2).map λb=>(.bl b,S)
noncomputable def k9:G2:=λd e S=>(d6 S e).bind λp=>(AS (gr S eO) d p.2).map λb=>(.bl (!b),S)
noncomputable def oP:D->Bool
 | .non=>M
 |_=>J
noncomputable def IS:G2:=λd e S=>match e with
 | .non=>Z (.bl (oP d),S)
 |_=>Y
noncomputable def Co:G2:=λd e S=>match e with
 | .non=>Z (.bl (!oP d),S)
 |_=>Y
section
variable{X:Cx}
theorem zT(f:D->D->Option Bool)(x:D):∀{ys:List D} {b:Bool},AS f x ys=Z b -> ∃bs:List Bool,bs.length=ys.length/\(∀(j:Nat) (y:D) (k:Bool),ys[j]?=Z y->bs[j]?=Z k->f y x=Z k)/\b=bs.any id
 |[],b,h=>by cases h;exact⟨[],O,λj y k h=>by simp at h,O⟩
 |y::ys,b,h=>by
  rw[AS]at h;obtain⟨b1,e,h⟩:=oB1.mp h;obtain⟨b2,l,h⟩:=oM1.mp h;obtain⟨bs,m,g,a⟩:=zT f x l;refine⟨b1::bs,by simp[m],λj i k d c=>?_,?_⟩
  ·cases j with
   |zero=>simp at d c;subst d;subst c;exact e
   |succ j=>exact g j i k (by simpa using d) (by simpa using c)
  ·rw[<- h,a];simp
open Classical in
theorem C6{ag:List (dE×Obj)}{σ:L2.St}{H:Hp}{s:dD}{mu:List dE}{S:Sto}(I:Inv X ag σ H s)(hs:Sim X.K H mu S){A:dG}(ao:A.units+61<cLine){x:D}{v:V}{u:dB}(C:eJ X.K H mu x v)(t:d7 v u){ys:List D}{vs:List V}{a:List dB}{b:Bool}(q:d0 X.K H mu ys vs)(p:ei vs a)(h:AS (gr S eO) x ys=Z b):∃e:dB->Bool,(∀w∈a,SeqAt.EqAt A.in1 s w u (e w))/\a.any e=b:=by
 obtain⟨bs,L,F,rfl⟩:=zT _ x h;have K:=q.length;have am:=p.length;have at_:∀(j:Nat) w k,a[j]?=Z w->bs[j]?=Z k->SeqAt.EqAt A.in1 s w u k:=λj w k g f=>by
  have o:j<a.length:=(gE1.mp g).1;obtain⟨y,E,r⟩:=q.getV (i:=j) (v:=vs[j]'(by lia)) (gG1 (by lia));obtain⟨G,n,r2⟩:=p.get (i:=j) (x:=vs[j]'(by lia)) (gG1 (by lia));rw[g]at n;cases n;exact(nv I hs eO (A:=A.in1) (by show A.units+1+60<cLine;lia) r C r2 t (F j y k E f)).1
 refine⟨λw=>decide (∃j:Nat,a[j]?=Z w/\bs[j]?=Z M),λw g=>?_,?_⟩
 ·by_cases z:∃j:Nat,a[j]?=Z w/\bs[j]?=Z M
  ·dsimp only;rw[ah z];obtain⟨j,m,c⟩:=z;exact at_ j w M m c
  ·dsimp only;rw[ai z];obtain⟨j,d⟩:=br g;have o:j<a.length:=(gE1.mp d).1;have l:j<bs.length:=by lia
   have c:=gG1 l;cases f:bs[j]with
   |true=>rw[f]at c;exact absurd ⟨j,d,c⟩ z
   |false=>rw[f]at c;exact at_ j w J d c
 ·rw[bS,bT,bT];constructor
  ·rintro⟨w,g,z⟩;obtain⟨j,m,c⟩:=of_decide_eq_true z;exact⟨M,gM1 c,O⟩
  ·rintro⟨k,f,z⟩;obtain⟨j,d⟩:=br f;have o:j<bs.length:=(gE1.mp d).1;have l:j<a.length:=by lia
   have B:k=M:=z;subst B;exact⟨a[j],bU l,ah ⟨j,gG1 l,d⟩⟩
theorem IG(F:X.A.units+64<cLine):gp X (compareOp .In) (r2 X.K (b2 FP)):=by
 intro ag s σ H x y u w Q I C B h;obtain⟨mu,S,d,e,r,E,o,r2,k,i,hc⟩:=oo h;obtain⟨⟨v,ys⟩,n,i⟩:=oB1.mp i;obtain⟨b,z,i⟩:=oM1.mp i;cases i;obtain⟨a,vs,rfl,q,t⟩:=ev r2 k n;cases B;obtain⟨c,D,l,_⟩:=fb I q;obtain⟨f,m,p⟩:=C6 I k (A:=X.A) (by lia) o C t D z;have g:EP X ag σ Q (.bool (c.toArray.any f)) s:=⟨.bl b,H,I,by rw[show c.toArray.any f=c.any f by simp,p];rfl,hc.now (.bl b) k⟩;cases v
 ·exact SeqAt.in_tupleAt f l (λy j=>m y (by simpa using j)) g
 ·exact SeqAt.in_listAt f l (λy j=>m y (by simpa using j)) g
theorem BH(F:X.A.units+64<cLine):gp X (compareOp .NotIn) (r2 X.K (b2 k9)):=by
 intro ag s σ H x y u w Q I C B h;obtain⟨mu,S,d,e,r,E,o,r2,k,i,hc⟩:=oo h;obtain⟨⟨v,ys⟩,n,i⟩:=oB1.mp i;obtain⟨b,z,i⟩:=oM1.mp i;cases i;obtain⟨a,vs,rfl,q,t⟩:=ev r2 k n;cases B;obtain⟨c,D,l,_⟩:=fb I q;obtain⟨f,m,p⟩:=C6 I k (A:=X.A) (by lia) o C t D z;have g:EP X ag σ Q (.bool (!c.toArray.any f)) s:=⟨.bl (!b),H,I,by rw[show c.toArray.any f=c.any f by simp,p];rfl,hc.now (.bl _) k⟩;cases v
 ·exact SeqAt.notIn_tupleAt f l (λy j=>m y (by simpa using j)) g
 ·exact SeqAt.notIn_listAt f l (λy j=>m y (by simpa using j)) g
theorem vx{K:Fg1}{H:Hp}{mu:List dE}{d:D}{v:V}(r:eJ K H mu d v):oP d=decide (v = .non):=by
 cases r<;>simp[oP]
theorem GB:gp X (compareOp .Is) (r2 X.K (b2 IS)):=by
 intro ag s σ H x y u w Q I g c h;obtain⟨mu,S,d,e,r,i,b,r2,f,a,hc⟩:=oo h;cases e with
 |non=>
  cases a;cases r2;refine El ag s σ H _ _ u w Q I g c ⟨O,?_⟩;rw[<- vx b];exact hc.now (.bl _) f
 |_=>cases a
theorem Er:gp X (compareOp .IsNot) (r2 X.K (b2 Co)):=by
 intro ag s σ H x y u w Q I g c h;obtain⟨mu,S,d,e,r,i,b,r2,f,a,hc⟩:=oo h;cases e with
 |non=>
  cases a;cases r2;refine BC ag s σ H _ _ u w Q I g c ⟨O,?_⟩;rw[<- vx b];exact hc.now (.bl _) f
 |_=>cases a
end
noncomputable def eS:G1:=λd S=>match d with
 | .str x=>if x.length<=dL then Z (.int x.length,S)else Y
 |_=>(d6 S d).map λp=>(.int p.2.length,S)
noncomputable def Aa:G2:=λd e S=>match e with
 | .int i=>(d6 S d).bind λp=>(tF p.2 i).map λx=>(x,S)
 |_=>Y
noncomputable def gTup:G1:=λd S=>(d6 S d).map λp=>(.tup p.2,S)
noncomputable def jF:G3:=λo i v S=>match o,i with
 | .ref n,.int k=>match S[n]? with
  |some (.lst xs)=>(vI xs.length k).map λj=>(.non,S.set n (.lst (xs.set j v)))
  |_=>Y
 |_,_=>Y
noncomputable def nT:G1:=λd S=>match d with
 | .int i=>Z (.int i,S)
 | .bl b=>Z (.int (if b then 1 else 0),S)
 |_=>Y
noncomputable def Ck:G2:=λd e S=>match d,e with
 | .int i,.int j=>Z (.int (if j>i then j else i),S)
 |_,_=>Y
noncomputable def Cj:G2:=λd e S=>match d,e with
 | .int i,.int j=>Z (.int (if j<i then j else i),S)
 |_,_=>Y
section
variable{X:Cx}
theorem fy:fj X (.builtin "len") (rN X.K (b1 eS)):=by
 intro ag s σ H xs g Q I r h;obtain⟨x,mu,S,d,l,k,rfl,f,e,c,hc⟩:=DQ h;unfold eS at c;split at c
 ·split at c
  ·rename_i z j;cases c;cases f;exact qz ag s σ H _ g Q I r ⟨_,O,j,hc.now (.int _) e⟩
  ·cases c
 ·obtain⟨⟨b,ys⟩,i,c⟩:=oM1.mp c;cases c;obtain⟨a,vs,rfl,q,t⟩:=ev f e i;refine qB ag s σ H _ g Q I r ⟨a,vs,O,?_,?_⟩
  ·cases b
   ·exact .inr q
   ·exact .inl q
  ·rw[<- t.length];exact hc.now (.int _) e
theorem CJ{K:Fg1}{H:Hp}{mu:List dE}{ds:List D}{vs:List V}{i:Int}{d:D}(t:d0 K H mu ds vs)(h:tF ds i=Z d):∃v,tF vs i=Z v/\eJ K H mu d v:=by
 unfold tF at h ⊢;rw[<- t.length];obtain⟨j,b,h⟩:=oB1.mp h;obtain⟨v,a,c⟩:=t.get h;exact⟨v,by rw[b];exact a,c⟩
theorem Ia:Di X (r2 X.K (b2 Aa)):=by
 intro value c ag s σ H x y v u Q I n k h g;obtain⟨mu,S,d,e,r,B,w,r2,j,f,hc⟩:=oo h;cases e with
 |int i=>
  obtain⟨⟨b,ys⟩,p,f⟩:=oB1.mp f;obtain⟨z,A,f⟩:=oM1.mp f;cases f;cases r2;obtain⟨a,vs,rfl,q,t⟩:=ev w j p;obtain⟨l,m,o⟩:=CJ t A;cases b
  ·exact Fb value c ag s σ H _ _ v u Q I n k ⟨a,vs,i,l,O,O,q,m,hc.now o j⟩ g
  ·exact B8 value c ag s σ H _ _ v u Q I n k ⟨a,vs,i,l,O,O,q,m,hc.now o j⟩ g
 |_=>cases f
theorem e9:fj X (.type "tuple") (rN X.K (b1 gTup)):=by
 intro ag s σ H xs j Q I r h;obtain⟨x,mu,S,d,m,k,rfl,i,f,c,hc⟩:=DQ h;obtain⟨⟨b,ys⟩,g,c⟩:=oM1.mp c;cases c;obtain⟨a,vs,rfl,q,t⟩:=ev i f g;refine nY ag s σ H _ j Q I r ⟨a,vs,O,?_⟩;cases b
 ·exact .inr ⟨q,hc.now (.tup q t) f⟩
 ·exact .inl ⟨q,λl e=>hc _ _ mu (Ext.fresh e) (.tup (jm.of d4) (t.ext (Ext.fresh e))) (f.fresh e)⟩
theorem Gg:uP X (rU X.K (b3 jF)):=by
 intro ag s σ H o i v g B u Q I y A x h;obtain⟨mu,S,ds,d,G,q,f,a,hc⟩:=h;cases q with
 |cons l m=>cases m with
  |cons z w=>cases w with
   |cons p C=>
    cases C;rename_i E D F;dsimp only[b3]at a;unfold jF at a;split at a
    ·rename_i n k;split at a
     ·rename_i xs e;obtain⟨j,r,a⟩:=oM1.mp a;cases a;cases l with
      |ref c=>
       cases z;obtain⟨vs,b,t⟩:=f.lst e c;refine yA ag s σ H _ _ v g B u Q I y A x ⟨_,vs,k,j,O,O,b,by rw[<- t.length];exact r,?_⟩;exact hc _ mu (Ext.put b trivial (gM1 c)) (f.putL (t.set p j) c b)
     ·cases a
    ·cases a
theorem wb:fj X (.type "int") (rN X.K (b1 nT)):=by
 intro ag s σ H xs e Q I r h;obtain⟨x,mu,S,d,j,g,rfl,c,f,a,hc⟩:=DQ h;cases d with
 |int i=>cases a;cases c;exact pd ag s σ H _ e Q I r (.inl ⟨i,O,hc.now (.int _) f⟩)
 |bl b=>cases a;cases c;exact pd ag s σ H _ e Q I r (.inr ⟨b,O,hc.now (.int _) f⟩)
 |_=>cases a
theorem Hq(hc:X.calm=M):fj X (.builtin "max") (rN X.K (b2 Ck)):=by
 intro ag s σ H xs f Q I r h;obtain⟨x,y,mu,S,d,e,j,i,rfl,c,r2,g,a,b⟩:=yE h;unfold Ck at a;split at a
 ·cases a;cases c;cases r2;exact xC hc ag s σ H _ f Q I r ⟨_,_,O,b.now (.int _) g⟩
 ·cases a
theorem Ho(hc:X.calm=M):fj X (.builtin "min") (rN X.K (b2 Cj)):=by
 intro ag s σ H xs f Q I r h;obtain⟨x,y,mu,S,d,e,j,i,rfl,c,r2,g,a,b⟩:=yE h;unfold Cj at a;split at a
 ·cases a;cases c;cases r2;exact xB hc ag s σ H _ f Q I r ⟨_,_,O,b.now (.int _) g⟩
 ·cases a
end
open PySem.SeqAt
open PySem.AutoSeq1 (wpAny_loadPart')
open PySem.MeetsSeq PySem.MeetsSeq2 PySem.MeetsSeq3
noncomputable def AM(A:dG)(s:dD)(y x:dB)(b:Bool):Prop:=∀(prog:dF) (w:dH) (E:dB->dD->Prop) (Q:dB->dD->Prop),Q (.bool b) s->dM (model prog w) A (richCompare .Lt y x) Q E s
inductive tw (A:dG)(s:dD):List dB->List dB->Bool->Prop
 |nn:tw A s [] [] false
 |nc (y:dB) (ys:List dB):tw A s [] (y::ys) true
 |cn (x:dB) (xs:List dB):tw A s (x::xs) [] false
 |eq {x y:dB} {xs ys:List dB} {k:Bool} (e:EqAt A.in1 s x y true) (t:tw A s xs ys k):tw A s (x::xs) (y::ys) k
 |lt {x y:dB} {xs ys:List dB} {k:Bool} (e:EqAt A.in1 s x y false) (t:AM A.in1 s x y k):tw A s (x::xs) (y::ys) k
theorem Dt(l b:dE)(items items2:Array dB)(n C:Nat)(dd q:Option dE)(sl m:Array (Option dB))(c:Bool):
  Meets (Builtin.«tuple.__lt__» ⟨[.ref l,.ref b],[]⟩) (fun A R s=>s.heap.get? l=some {cls:=.type "tuple",dict:=dd,data:=.seq items n,slots:=sl}/\s.heap.get? b=some {cls:=.type "tuple",dict:=q,data:=.seq items2 C,slots:=m} /\
    tw A s items.toList items2.toList c/\R (.ok (.ret (.bool c))) s):=
 .of_wp λprog w A R s h=>by
  obtain⟨u,g,d,tk,v⟩:=s;obtain⟨F,D,B,h⟩:=h;have G:=AutoSeq1.sub_tuple_tuple
  wp_walk using wpAny_loadPart' F,wpAny_loadPart' D,wpAny_forIn_list _ (λrest b s'=>b.1=Y/\s'=⟨u,g,d,tk,v⟩ /\ ∃vs ws:List dB,rest=vs.zip ws/\tw A ⟨u,g,d,tk,v⟩ vs ws c/\vs.length+items2.size=ws.length+items.size) _
  case turn=>
   rintro⟨y,x⟩ rest b s' ⟨j,rfl,vs,ws,f,o,a⟩;cases o with
   |nn=>cases f
   |nc _ _=>cases f
   |cn _ _=>cases f
   |eq e t=>
    rw[bV]at f;injection f with k i;injection k with r p;subst r p
    simp only[lC1]at a;refine wB1 (e prog w _ _ ?_)
    wp_walk
    exact⟨O,O,_,_,i,t,by lia⟩
   |lt e t=>
    rw[bV]at f;injection f with k i;injection k with r p;subst r p
    refine wB1 (e prog w _ _ ?_);have E:=t prog w
    wp_walk using E
    exact⟨_,O,by simpa using h⟩
  case fin=>
   rintro⟨b1,b2⟩ s' ⟨j,rfl,vs,ws,f,o,a⟩;simp only at j;subst j;have z:c=decide (items.size<items2.size):=by
    cases o with
    |nn=>simp only[bf]at a;exact(ai (by lia)).symm
    |nc _ _=>simp only[bf,lC1]at a;exact(ah (by lia)).symm
    |cn _ _=>simp only[bf,lC1]at a;exact(ai (by lia)).symm
    |eq _ _=>rw[bV]at f;cases f
    |lt _ _=>rw[bV]at f;cases f
   rw[z]at h
   wp_walk
   exact⟨_,O,by simpa[Builtin.Tuple.tupleCompareSizes]using h⟩
  case h=>exact⟨O,O,items.toList,items2.toList,O,B,by simp;lia⟩
theorem zI(l b:dE)(items items2:Array dB)(n D:Nat)(dd z:Option dE)(sl r:Array (Option dB))(c:Bool)(k:Nat):
  ∀i:Nat,items.size-i=k->i<=items.size->i<=items2.size->Meets (Builtin.«list.__eq__.loop» ⟨[.ref l,.ref b,rawInt i,rawInt 0],[]⟩)
   (λA R s=>s.heap.get? l=Z {cls:=.type "list",dict:=dd,data:=.seq items n,slots:=sl}/\s.heap.get? b=Z {cls:=.type "list",dict:=z,data:=.seq items2 D,slots:=r} /\
    tw A s (items.toList.drop i) (items2.toList.drop i) c/\R (.ok (.ret (.bool c))) s):=by
 induction k with
 |zero=>
  intro i E u B prog w A R s h;obtain⟨F,g,d,tk,I⟩:=s;obtain⟨m,j,a,h⟩:=h
  wp_walk using wpAny_loadPart' m,wpAny_loadPart' j
  have o:items[((i:Nat):Int).toNat]?=Y:=by simp;lia
  have x:items.toList.drop i=[]:=by simp;lia
  rw[x]at a;rw[o]
  wp_walk using wpAny_loadPart' m,wpAny_loadPart' j
  have C:c=decide (items.size<items2.size):=by
   cases h2:items2.toList.drop i with
   |nil=>
    rw[h2]at a;cases a;have:=congrArg List.length h2;simp at this;exact(ai (by lia)).symm
   |cons y ys=>
    rw[h2]at a;cases a;have:=congrArg List.length h2;simp at this;exact(ah (by lia)).symm
  show R (.ok (.ret (.bool (decide (items.size<items2.size))))) _;rw[<- C];exact h
 |succ k ih=>
  intro i E u B prog w A R s h;obtain⟨F,g,d,tk,I⟩:=s;obtain⟨m,j,a,h⟩:=h;have p:i<items.size:=by lia
  have x:items.toList.drop i=items[i]::items.toList.drop (i+1):=by simp[bW,p]
  have o:items[((i:Nat):Int).toNat]?=Z items[i]:=by simp[p]
  have hc:((i:Int)+1)=((i+1:Nat):Int):=by push_cast;rfl
  rw[x]at a;rcases bX i items2.size with f|G
  ·have v:items2.toList.drop i=items2[i]::items2.toList.drop (i+1):=by simp[bW,f]
   have q:items2[((i:Nat):Int).toNat]?=Z items2[i]:=by simp[f]
   rw[v]at a
   wp_walk using wpAny_loadPart' m,wpAny_loadPart' j
   rw[o,q];cases a with
   |eq e t=>
    refine wB1 (e prog w _ _ ?_)
    wp_walk
    rw[hc];exact⟨plainId_quiet plain_eq_loop _,wD1 entry_eq_loop (by rw[Around.under_plainId plain_eq_loop _];exact ih (i+1) (by lia) (by lia) (by lia) prog w A R _ ⟨m,j,t,h⟩)⟩
   |lt e t=>
    refine wB1 (e prog w _ _ ?_);have H:=t prog w
    wp_walk using wpAny_loadPart' m,wpAny_loadPart' j
    rw[o,q]
    wp_walk using H
    simpa using h
  ·have q:items2[((i:Nat):Int).toNat]?=Y:=by simp;lia
   have v:items2.toList.drop i=[]:=by simp;lia
   rw[v]at a;cases a
   wp_walk using wpAny_loadPart' m,wpAny_loadPart' j
   rw[o,q]
   wp_walk using wpAny_loadPart' m,wpAny_loadPart' j
   show R (.ok (.ret (.bool (decide (items.size<items2.size))))) _;rw[ai (by lia)];exact h
theorem EV(l b:dE)(items items2:Array dB)(n j:Nat)(dd e:Option dE)(sl a:Array (Option dB))(c:Bool):
  Meets (Builtin.«list.__lt__» ⟨[.ref l,.ref b],[]⟩) (fun A R s=>s.heap.get? l=some {cls:=.type "list",dict:=dd,data:=.seq items n,slots:=sl}/\s.heap.get? b=some {cls:=.type "list",dict:=e,data:=.seq items2 j,slots:=a} /\
    tw A s items.toList items2.toList c/\R (.ok (.ret (.bool c))) s):=by
 intro prog w A R s h;obtain⟨o,g,d,tk,m⟩:=s;obtain⟨i,f,k,h⟩:=h;have p:=AutoSeq1.sub_list_list
 wp_walk using wpAny_loadPart' i,wpAny_loadPart' f
 exact⟨plainId_quiet plain_eq_loop _,wD1 entry_eq_loop (by rw[Around.under_plainId plain_eq_loop _];exact zI l b items items2 n j dd e sl a c _ 0 O (bi _) (bi _) prog w A R _ ⟨i,f,by simpa using k,h⟩)⟩
theorem DL{A:dG}{s:dD}{k:Bool}{l b:dE}{xs ys:Array dB}{c:Bool}(u:SCo k s.heap l xs)(y:SCo k s.heap b ys)(v:A.units<cLine)(h:tw A s xs.toList ys.toList c):AM A s (.ref l) (.ref b) c:=λprog w E Q q=>by
 cases k
 ·obtain⟨⟨r,dd,o,sl⟩,p,hc,n,j⟩:=id u;obtain⟨⟨m,i,g,f⟩,e,d,t,a⟩:=id y;simp only at hc j d a;subst hc j d a;exact richCompare_meets_room (op:=.Lt) ⟨_,p,O⟩ ⟨_,e,O⟩ PySem.F.slot_tuple_lt PySem.F.entry_tuple_lt (PySem.F.args_tuple_lt_2 _ _) (Dt l b xs ys n t dd i sl f c) ⟨p,e,h,show Value.bool c≠Value.notImplemented/\Q (.bool c) s from⟨(λx=>nomatch x),q⟩⟩ v
 ·obtain⟨⟨r,dd,o,sl⟩,p,hc,n,j⟩:=id u;obtain⟨⟨m,i,g,f⟩,e,d,t,a⟩:=id y;simp only at hc j d a;subst hc j d a;exact richCompare_meets_room (op:=.Lt) ⟨_,p,O⟩ ⟨_,e,O⟩ PySem.F.slot_list_lt PySem.F.entry_list_lt (PySem.F.args_list_lt_2 _ _) (EV l b xs ys n t dd i sl f c) ⟨p,e,h,show Value.bool c≠Value.notImplemented/\Q (.bool c) s from⟨(λx=>nomatch x),q⟩⟩ v
noncomputable def nQ(f g:D->D->Option Bool):List D->List D->Option Bool
 |[],[]=>Z J
 |[],_::_=>Z M
 |_::_,[]=>Z J
 |x::xs,y::ys=>(f x y).bind λb=>if b=M then nQ f g xs ys else g x y
noncomputable def HQ:D->D->Option Bool
 | .int i,.int j=>Z (decide (i<j))
 | .str x,.str y=>Z (decide (x.cps.toList<y.cps.toList))
 |_,_=>Y
noncomputable def jJ(S:Sto):Nat->D->D->Option Bool
 |0,_,_=>Y
 |n+1,d,e=>match HQ d e with
  |some b=>Z b
  |none=>match d6 S d,d6 S e with
   |some p,Z q=>if p.1=q.1 then nQ (gr S n) (jJ S n) p.2 q.2 else Y
   |_,_=>Y
noncomputable def xL:G2:=λd e S=>(jJ S eO d e).map λb=>(.bl b,S)
section
variable{X:Cx}{ag:List (dE×Obj)}{σ:L2.St}{H:Hp}{s:dD}{mu:List dE}{S:Sto}
theorem zG(I:Inv X ag σ H s)(hs:Sim X.K H mu S){n:Nat}{A:dG}(r:A.units+1+n<cLine)(ih:∀ {d e:D} {v w:V} {u z:dB} {b:Bool},eJ X.K H mu d v->eJ X.K H mu e w->d7 v u->d7 w z->jJ S n d e=some b->AM A.in1 s u z b):
  ∀{xs ys:List D} {vs ws:List V} {f zs:List dB} {b:Bool},d0 X.K H mu xs vs->d0 X.K H mu ys ws->ei vs f->ei ws zs->nQ (gr S n) (jJ S n) xs ys=Z b->tw A s f zs b
 :=by
 intro xs
 induction xs with
 |nil=>
  intro ys vs ws f zs b a r2 g c h;cases a;cases g;cases r2 with
  |nil=>cases c;cases h;exact .nn
  |cons _ _=>cases c;cases h;exact .nc _ _
 |cons x xs q=>
  intro ys vs ws f zs b a r2 g c h;cases a with
  |cons a p=>
   cases g with
   |cons i l=>
    cases r2 with
    |nil=>cases c;cases h;exact .cn _ _
    |cons r2 o=>
     cases c with
     |cons j p2=>
      rw[nQ]at h;obtain⟨k,m,h⟩:=oB1.mp h;have eq:=(nv I hs n (A:=A.in1) r a r2 i j m).1;cases k with
      |true=>exact .eq eq (q p o l p2 h)
      |false=>exact .lt eq (ih a r2 i j h)
theorem ut(I:Inv X ag σ H s)(hs:Sim X.K H mu S):∀(n:Nat) {A:dG} {d e:D} {v w:V} {u z:dB} {b:Bool},A.units+n<cLine->eJ X.K H mu d v->eJ X.K H mu e w->d7 v u->d7 w z->jJ S n d e=Z b->AM A s u z b
 |0,_,_,_,_,_,_,_,_,_,_,_,_,_,h=>by cases h
 |n + 1,A,d,e,v,w,u,z,b,W,m,i,f,j,h=>by
  rw[jJ]at h;split at h
  ·rename_i k c;cases h;unfold HQ at c;split at c
   ·cases c;cases m;cases i;obtain⟨t,rfl⟩:=f;obtain⟨l,rfl⟩:=j;exact λprog w E Q q=>(PyProof.Rows.lt_int q:dM (model prog w) A (compareOp .Lt (.int _ t) (.int _ l)) Q E s)
   ·cases c;cases m;cases i;obtain⟨t,rfl⟩:=f;obtain⟨l,rfl⟩:=j;exact λprog w E Q q=>(PyProof.Rows.lt_str q:dM (model prog w) A (compareOp .Lt (.str _ t) (.str _ l)) Q E s)
   ·cases c
  ·split at h
   ·rename_i p q K B;split at h
    ·rename_i U;obtain⟨G,xs⟩:=p;obtain⟨qb,ys⟩:=q;have o:G=qb:=U;subst o;obtain⟨a,vs,rfl,F,am⟩:=ev m hs K;obtain⟨a2,T,rfl,P,L⟩:=ev i hs B;cases f;cases j;obtain⟨C,N,R,_⟩:=fb I F;obtain⟨x,r,g,_⟩:=fb I P;refine DL R g (by lia) ?_;have:=zG I hs (A:=A) (n:=n) (by lia) (λy r2 au ao h=>ut I hs n (A:=A.in1) (by show A.units+1+n<cLine;lia) y r2 au ao h) am L N r h;simpa using this
    ·cases h
   ·cases h
theorem lF(l:X.A.units+64<cLine):gp X (compareOp .Lt) (r2 X.K (b2 xL)):=by
 intro ag s σ H x y u w Q I j i h;obtain⟨mu,S,d,e,r,k,g,r2,c,a,hc⟩:=oo h;obtain⟨b,f,a⟩:=oM1.mp a;cases a;exact ut I c eO (by show _+60<cLine;lia) g r2 j i f X.prog X.w X.xe _ ⟨.bl b,H,I,O,hc.now (.bl b) c⟩
end
inductive Ty where
 |int|bool|str|tuple|list|dict
 deriving DecidableEq
noncomputable def Ty.nm:Ty->String
 | .int=>"int" | .bool=>"bool" | .str=>"str" | .tuple=>"tuple" | .list=>"list" | .dict=>"dict"
noncomputable def Kd (S:Sto)(T:Ty):D->Option Bool
 | .non=>some false
 | .bl _=>some (decide (T = .bool)||decide (T = .int))
 | .int _=>some (decide (T = .int))
 | .str _=>some (decide (T = .str))
 | .tup _=>some (decide (T = .tuple))
 | .rol _=>some (decide (T = .list))
 | .ref n=>match S[n]? with
  |some (.lst _)=>some (decide (T = .list))
  |some (.dct _)=>some (decide (T = .dict))
  |some (.dcT _)=>some (decide (T = .dict))
  |_=>none
 | .fn _=>none
section
variable{X:Cx}{ag:List (dE×Obj)}{σ:L2.St}{H:Hp}{s:dD}{mu:List dE}{S:Sto}{K:Fg1}
end
abbrev FO:=Ev->Sto->Option (Option Int×Sto)
noncomputable def JI(K:Fg1)(m:FO):TO:=fun σ H Q=>∃r mu S o S',fJ K H mu r σ/\Sim K H mu S/\m r S=Z (o,S') /\ ∀H' mu',Ext mu mu' H H'->Sim K H' mu' S'->Q o H'
abbrev MO(X:Cx)(e:Option Expr)(m:FO):Prop:=PO X e (JI X.K m)
noncomputable def mX:FO:=λ_ S=>Z (Y,S)
noncomputable def rS(m:FE):FO:=λr S=>(m r S).bind λp=>match p.1 with
 | .int i=>Z (Z i,p.2)
 |_=>Y
noncomputable def sT(xs:List D)(lo hi:Option Int):List D:=(xs.drop (HT.sIx xs.length 0 lo)).take (HT.sIx xs.length xs.length hi-HT.sIx xs.length 0 lo)
section
variable{X:Cx}
theorem BQ:MO X Y mX:=by
 rintro ag s σ H Q I ⟨r,mu,S,o,c,d,b,a,hc⟩;cases a;exact Bt ag s σ H Q I (hc H mu (.refl _ _) b)
theorem BP{e:Expr}{m:FE}(h:ME X e m):MO X (Z e) (rS m):=by
 rintro ag s σ H Q I ⟨r,mu,S,o,l,f,j,a,hc⟩;obtain⟨⟨d,n⟩,c,a⟩:=oB1.mp a;cases d with
 |int i=>
  cases a;refine Br h ag s σ H Q I ⟨r,mu,S,_,_,f,j,c,λv H1 mu1 k g b=>?_⟩;cases g;exact⟨i,O,hc H1 mu1 k b⟩
 |_=>cases a
theorem v6{K:Fg1}{H:Hp}{mu:List dE}{ds:List D}{vs:List V}(t:d0 K H mu ds vs)(lo hi:Option Int):d0 K H mu (sT ds lo hi) (sS vs lo hi):=by
 unfold sT sS;rw[<- t.length];exact(t.drop _).take _
noncomputable def F4(ta:TA):TE:=fun σ H Q=>ta σ H λvs H1=>∃j:Int,vs=[.int j] /\ ∀p,H1 p=Y->Q (.ref p) (upd H1 p (.rng 0 j))
theorem oy {a:Expr}{ta:TA}{p pos:Pos}(hg:Gl X "range")(hm:X.mg "range"=Y)(ha:PA X [a] ta)(hs:dJ [a] X.env=[(J,eval a X.env)]:=by rfl):PE X (.Call (.Name "range" p) [a] [] pos) (F4 ta):=by
 intro ag s σ H Q I h;refine Call_ (jE I hg hm boot_range (PyProof.Rows.callWith_type1 (fg (ha pos ag s σ H _ I h) λk d ⟨vs,H1,c,g,i⟩=>?_) hs O));obtain⟨j,e,q⟩:=i;subst e;cases g with
 |cons r f=>
  cases f;obtain⟨t,rfl⟩:=r;refine call_range_1 ⟨.ref d.heap.objs.size,_,c.laid (λb o e=>hP1 _ e) (nR1 _) (o:=.rng 0 j) ?_,O,q _ (c.hok.fresh (nR1 _))⟩;exact⟨_,_,_,hS1 _ O⟩
noncomputable def jn(i:Int):Nat->List V
 |0=>[]
 |n+1=>.int i::jn (i+1) n
theorem iQ:∀(n:Nat) (i:Int),(jn i n).length=n
 |0,_=>rfl
 |n+1,i=>by rw[jn,lC1,iQ n]
theorem mK:∀(n:Nat) (i:Int) (k:Nat) (v:V),(jn i n)[k]?=Z v->v = .int (i+k)
 |0,i,k,v,h=>by simp[jn]at h
 |n+1,i,0,v,h=>by simp[jn]at h;rw[<- h];simp
 |n+1,i,k+1,v,h=>by
  rw[jn,gC1]at h;rw[mK n (i+1) k v h,show i+1+(k:Int)=i+((k+1:Nat):Int) by push_cast;lia]
theorem mJ{K:Fg1}{H:Hp}{mu:List dE}:∀(n:Nat) (i:Int),d0 K H mu (gB i n) (jn i n)
 |0,_=>.nil
 |n+1,i=>.cons (.int i) (mJ n (i+1))
theorem pH:∀{xs:List V} {a:List dB},xs.length=a.length->(∀(i:Nat) x u,xs[i]?=Z x->a[i]?=Z u->d7 x u)->ei xs a
 |[],[],_,_=>.nil
 |x::xs,u::a,h,f=>.cons (f 0 x u O O) (pH (by simpa using h) λi y w h1 h2=>f (i+1) y w (by simpa using h1) (by simpa using h2))
 |[],_::_,h,_=>by simp at h
 |_::_,[],h,_=>by simp at h
theorem CC(hc:X.calm=M):fj X (.type "list") (λxs H Q=>∃p i j,xs=[.ref p]/\H p=Z (.rng i j)/\(-(2^62)<=i/\i<2^62 /\ -(2^62)<=j/\j<2^62)/\(j-i).toNat<=2^20 /\ ∀l,H l=Y->Q (.ref l) (upd H l (.lst (jn i (j-i).toNat)))):=by
 intro ag s σ H xs F Q I r h;obtain⟨p,i,j,rfl,B,⟨h1,h2,y,g⟩,f,q⟩:=h;obtain⟨u,rfl,m⟩:=iK r;cases m;obtain⟨t,u,v,e⟩:=I.hok p _ B;have D:(((j-i).toNat:Nat):Int)=Builtin.Range.rangeSize i j 1:=by rw[rangeSize_one];split<;>lia
 refine call_list_range (n:=(j-i).toNat) (I.ok.hd hc) e (small_one h1 h2 y g) D.symm (aC f (by decide)) λh' tk c w o z hi=>?_;obtain⟨d,b⟩:=hi;have a:ei (jn i (j-i).toNat) c.toList:=pH (by rw[iQ];simpa using d.symm) λk x u C E=>by
  rw[mK _ _ _ _ C];obtain⟨A,rfl⟩:=b k u (by simpa using E);exact⟨A,by rw[Int.mul_one]⟩
 refine⟨.ref s.heap.objs.size,_,I.laid (t':=tk) o (nR1 _) (show eN X.prog X.w _ h' _ (.lst (jn i (j-i).toNat))from⟨?_,c.toList,w,a,by simpa using z⟩),O,q _ (I.hok.fresh (nR1 _))⟩;rw[iQ];exact aC f (by decide)
noncomputable def om(i j:Int):Bool:=decide (-(2^62)<=i)&&decide (i<2^62)&&decide (-(2^62)<=j)&&decide (j<2^62)&&decide ((j-i).toNat<=2^20)
noncomputable def zD(m:FA):FE:=λr S=>(m r S).bind λp=>match p.1 with
 |[.int j]=>if om 0 j=M then Z (.ref p.2.length,p.2++[.lst (gB 0 j.toNat)])else Y
 |_=>Y
theorem jY{i j:Int}(h:om i j=M):(-(2^62)<=i/\i<2^62 /\ -(2^62)<=j/\j<2^62)/\(j-i).toNat<=2^20:=by
 unfold om at h;simp only[bA1,al]at h;obtain⟨⟨⟨⟨h1,h2⟩,b⟩,c⟩,a⟩:=h;exact⟨⟨h1,h2,b,c⟩,a⟩
theorem EW{K:Fg1}{mu:List dE}{H H1:Hp}{S1:Sto}{i j:Int}{Q:VK}{mu1:List dE}(c:Ext mu mu1 H H1)(a:Sim K H1 mu1 S1)(hc:n4 K mu H (.ref S1.length) (S1++[.lst (gB i (j-i).toNat)]) Q){p l:dE}(hp:H1 p=none)(b:upd H1 p (.rng i j) l=none):
  Q (.ref l) (upd (upd H1 p (.rng i j)) l (.lst (jn i (j-i).toNat))):=
 hc _ _ (mu1++[l]) ((c.trans (Ext.fresh hp)).trans (Ext.new_ b)) (.ref (fZ a.len l)) ((a.fresh hp).newL (mJ _ _) b)
theorem wQ {a:Expr}{m:FA}{e p2 b c:Pos}(hc:X.calm=true)(hg:Gl X "range")(hm:X.mg "range"=none)(hg2:Gl X "list")(hm2:X.mg "list"=none)(ha:MA X [a] m)(hs:dJ [a] X.env=[(false,eval a X.env)]:=by rfl)
  (hs2:dJ [.Call (.Name "range" e) [a] [] b] X.env=[(J,eval (.Call (.Name "range" e) [a] [] b) X.env)]:=by rfl):ME X (.Call (.Name "list" p2) [.Call (.Name "range" e) [a] [] b] [] c) (zD m):=
 eU (ji (CC hc) hg2 hm2 (by decide+kernel) (j7 (oy hg hm ha hs) mR hs2) (by decide) (by decide) hs2) <| by
  rintro σ H Q ⟨r,mu,S,d,u,k,hs,hm,f⟩;obtain⟨⟨ds,w⟩,i,hm⟩:=oB1.mp hm;dsimp only at hm;split at hm
  ·rename_i j;split at hm
   ·rename_i g;cases hm;refine⟨r,mu,S,_,_,k,hs,i,λvs H1 mu1 s n h=>?_⟩;obtain⟨v,rfl,t⟩:=j5 n;cases t;refine⟨j,O,λp o=>⟨p,0,j,O,d4,(jY g).1,(jY g).2,λl q=>EW s h (by rw[Int.sub_zero];exact f) o q⟩⟩
   ·cases hm
  ·cases hm
end
noncomputable def jr:G2:=λo v S=>match o with
 | .ref n=>match S[n]? with
  |some (.lst xs)=>if xs.length<dL then Z (.non,S.set n (.lst (xs++[v])))else Y
  |_=>Y
 |_=>Y
noncomputable def z0:G2:=λo i S=>match o,i with
 | .ref n,.int k=>match S[n]? with
  |some (.lst xs)=>if-(2^63)<=k/\k<2^63 then(vI xs.length k).bind λj=>(xs[j]?).map λy=>(y,S.set n (.lst (xs.eraseIdx j)))else Y
  |_=>Y
 |_,_=>Y
noncomputable def oG (f:FN)(o:FE)(a:FA):FE:=λr S=>(o r S).bind λp=>match p.1 with
 | .ref n=>match p.2[n]? with
  |some (.lst _)=>(a r p.2).bind λq=>f (p.1::q.1) q.2
  |_=>none
 |_=>none
section
variable{X:Cx}
theorem F0:Dh X "list.append" (λx xs H Q=>rN X.K (b2 jr) (x::xs) H Q):=by
 intro ag s σ H x xs v k Q I m o h;obtain⟨r,y,mu,S,d,e,q,p,l,i,r2,f,a,hc⟩:=yE h;cases l;cases d with
 |ref n=>
  rw[jr]at a;split at a
  ·rename_i ys j;split at a
   ·rename_i g;cases a;cases i with
    |ref b=>
     obtain⟨vs,c,t⟩:=f.lst j b;refine oE ag s σ H _ [y] v k Q I m o ⟨_,vs,y,O,O,c,by rw[<- t.length];exact g,?_⟩;exact hc _ _ mu (Ext.put c trivial (gM1 b)) .non (f.putL (t.append (.cons r2 .nil)) b c)
   ·cases a
  ·cases a
 |_=>cases a
theorem FY:Dh X "list.pop" (λx xs H Q=>rN X.K (b2 z0) (x::xs) H Q):=by
 intro ag s σ H x xs v r Q I B C h;obtain⟨F,y,mu,S,d,e,E,D,A,o,r2,i,a,hc⟩:=yE h;cases A;unfold z0 at a;split at a
 ·rename_i n k;split at a
  ·rename_i ys q;split at a
   ·rename_i g;obtain⟨j,p,a⟩:=oB1.mp a;obtain⟨z,m,a⟩:=oM1.mp a;cases a;cases o with
    |ref c=>
     cases r2;obtain⟨vs,f,t⟩:=i.lst q c;obtain⟨w,l,b⟩:=t.get m;refine zr ag s σ H _ [.int k] v r Q I B C ⟨_,vs,k,j,w,O,O,f,g.1,g.2,?_,l,?_⟩
     ·rw[<- t.length];exact(qk p).1
     ·have x:=Ext.put (u:=.lst (vs.eraseIdx j)) f trivial (gM1 c);exact hc _ _ mu x (b.ext x) (i.putL (t.eraseIdx j) c f)
   ·cases a
  ·cases a
 ·cases a
theorem zy {o e:Expr}{es:List Expr}{m:FE}{a:FA}{f:FN}{name:Str}{apos cpos:Pos}{id:String}(slot:Slot "list" name id)(hty:typeOf (.builtin id)=pure (.type "method_descriptor"))(hm:Dh X id (fun x xs H Q=>rN X.K f (x::xs) H Q))(ho:ME X o m)(ha:MA X (e::es) a)
  (hbase:attributeBase o name X.env (eval o X.env)=eval o X.env:=by rfl)
  (hfew:((backTo cpos (dJ (e::es) X.env)).all (λx=> !x.1)&&(backToKw cpos (keywordEach [] X.env)).all (λx=>x.1.isSome)&&decide ((e::es).length+([]:List Keyword).length+(if([]:List Keyword).isEmpty then 0 else 1)<30))=M:=by rfl)
  (hline:(apos.endLine == cpos.line)=M:=by rfl) (hs:dJ (e::es) X.env=(J,eval e X.env)::dJ es X.env:=by rfl) (hplain:(backTo cpos (dJ es X.env)).any (·.1)=J:=by rfl):
  ME X (.Call (.Attribute o name apos) (e::es) [] cpos) (oG f m a):=
 eU (Gu PySem.F.plainAttrs_list slot hty hm ho ha hbase hfew hline hs hplain) <| by
  rintro σ H Q ⟨r,mu,S,d,B,h,hs,hm,hc⟩;obtain⟨⟨l,p⟩,s,hm⟩:=oB1.mp hm;refine⟨r,mu,S,l,p,h,hs,s,λv H1 mu1 q i g=>?_⟩;cases l with
  |ref n=>
   dsimp only at hm;split at hm
   ·rename_i xs z;obtain⟨⟨ds,k⟩,u,hm⟩:=oB1.mp hm;refine⟨?_,r,mu1,p,ds,k,h.ext q,g,u,λvs H2 c j r2 C=>?_⟩
    ·cases i with
     |ref E=>
      obtain⟨vs,A,t⟩:=g.lst z E;exact .inl ⟨O,vs,lU.of A⟩
    ·exact⟨c,k,.ref n::ds,d,B,.cons (i.ext j) r2,C,hm,λy D b w=>hc y D b ((q.trans j).trans w)⟩
   ·cases hm
  |_=>cases hm
end
theorem Bo{X:Cx}(hc:X.calm=true){elt tg iter:Expr}{ifs:List Expr}{rest:List Comprehension}{scope:dR}{pos l N:Pos}{y:Str}{i:Nat}{T:List Str}{keep:List Nat}{A:List (Str×dE)}{wi:TI}{g:TG}{ti:TT}{tb:dE->TS}{emit:dB->Env->Sem Unit}(V:swapsWith (.ListComp elt (⟨tg,iter,ifs,0⟩::rest) scope pos) (some (.Name y N)) l.line X.env=pure true)(eq:∀it t k,compTurn (.ListComp elt (⟨tg,iter,ifs,0⟩::rest) scope pos) 0 it t k=ri iter.pos tg ifs it k (emit t k) (.compLoop (.ListComp elt (⟨tg,iter,ifs,0⟩::rest) scope pos) 0 it t k))(C:FR X scope T keep)(E:i5 X.env.cells scope.names []=some A)(hi:PI X tg iter wi)(hb:∀s H d p,PG (cxC X scope A T keep s H d) tg g/\n0 (cxC X scope A T keep s H d) ifs ti/\PU (cxC X scope A T keep s H d) (emit (.ref p) (cxC X scope A T keep s H d).env) (tb p))(hN:X.N.Nodup)(hy:X.N[i]?=some y)(hx:uQ X.env.scope y)(hf:X.fn y=true\/X.env.scope.names.lookup y=some .local)(hs:∀x,foldedSetIterable iter X.env x=pure x:=by intro _;rfl):
  PS X (.Assign [.Name y N] (.ListComp elt (⟨tg,iter,ifs,0⟩::rest) scope pos) l) (yq (u5 T.length keep wi g ti tb) (vP i)):=by
 intro ag s σ H D I h;rw[exec_Assign_Name_used _ _ _ _ V];refine wB1 (wpAny_standAt (wB1 ?_));show dM _ X.A (do let _<-comprehension (.ListComp elt (⟨tg,iter,ifs,0⟩::rest) scope pos) scope X.env _ (newList []) J (eval iter X.env) (Z (assign (.Name y N) X.env))) _ _ s;refine wB1 (wpAny_mono (wpAny_comprehension_free (use:=Z (assign (.Name y N) X.env)) (Q:=λ_ s'=>SP X ag D .next s') O hs (Az E) C.kind C.names ?_) (λ_ s' hq=>wP1 (wP1 hq)) λ_ _ e=>e);refine fg (hi ag s σ H _ I h) λv s1 h1=>fg h1 λitv a h2=>?_;obtain⟨it,d,tn,am,H2,rfl,I2,TT,ao,f2,q2⟩:=h2;refine wO1 ?_;have w:Inv X ag σ (upd H2 a.heap.objs.size (.lst [])) {a with heap:=a.heap.push {cls:=.type "list",data:=.seq ([]:List dB).toArray}}:=I2.lnew (t':=a.toks) .nil (bi _);have old:∀b∈d,∃o,a.heap.get? b=Z o:=λb hb=>by
  obtain⟨o,e,_⟩:=TT.obj 0 a.heap ao b hb;exact⟨o,e⟩
 have wq:∀b∈d,b≠a.heap.objs.size:=λb hb z=>by
  obtain⟨o,e⟩:=old b hb;have:=hL1 e;rw[z]at this;exact az _ this
 have au:∀b∈d,js X ag (upd H2 a.heap.objs.size (.lst [])) b:=λb hb=>⟨by rw[dY (wq b hb)];exact(f2 b hb).1,(f2 b hb).2⟩;have o3:∀b∈d,∃o,({a with heap:=a.heap.push {cls:=.type "list",data:=.seq ([]:List dB).toArray}}:dD).heap.get? b=Z o:=λb hb=>by
  obtain⟨o,e⟩:=old b hb;exact⟨o,hP1 _ e⟩
 have R:=sx w C E au o3;obtain⟨hg,S,he⟩:=hb {a with heap:=a.heap.push {cls:=.type "list",data:=.seq ([]:List dB).toArray}} (upd H2 a.heap.objs.size (.lst [])) d a.heap.objs.size;refine jy ?_;have f4:∀b∈d,js (cxC X scope A T keep {a with heap:=a.heap.push {cls:=.type "list",data:=.seq ([]:List dB).toArray}} (upd H2 a.heap.objs.size (.lst [])) d) [] (upd H2 a.heap.objs.size (.lst [])) b:=λb hb=>
  ⟨(au b hb).1,(R.ok.exf b hb).1,R.ok.exfs b hb,.inl hb,(R.ok.exf b hb).2,λp L=>absurd (show p∈([]:List (dE×Obj))from L) (by simp)⟩
 have F:tn 0 (pushCells ((a.heap.push {cls:=.type "list",data:=.seq ([]:List dB).toArray}).push {cls:=.type "dict",data:=.dict #[]}) scope.names):=
  TT.keep 0 a.heap _ ao λb hb o e=>pushCells_keeps scope.names _ b o (hP1 _ (hP1 _ e))
 have n:=oZ (X:=cxC X scope A T keep {a with heap:=a.heap.push {cls:=.type "list",data:=.seq ([]:List dB).toArray}} (upd H2 a.heap.objs.size (.lst [])) d) O hc (eq (.ref it) (.ref a.heap.objs.size) _) TT hg S he R F f4
  (q2 a.heap.objs.size (I2.hok.fresh (nR1 _)))
 refine codeAny_mono (codeAny_compStart_list n (TT.self X.A 0 _ _ _ F n)) λr s' hr=>?_;cases r with
 |error e=>exact hr.elim
 |ok f=>
  obtain⟨σ',H',B,q'⟩:=hr;have J1:Inv X ag σ H' s':=w.call' (s':=s') (ch:=d) B.os B.base B.hok B.bare λb hb=>(au b hb).2.2.2 |> λz=>⟨z.1,(au b hb).2.1,z.2.1,z.2.2⟩
  -- the block's own dict is kept aside
  obtain⟨m,hn,_⟩:=id B.loc;obtain⟨P,es,ep,eC,dC,rC⟩:=id hn;have hCz:(a.heap.push {cls:=.type "list",data:=.seq ([]:List dB).toArray}).get? (a.heap.push {cls:=.type "list",data:=.seq ([]:List dB).toArray}).objs.size=Y:=Heap.get?_none_of_le (nR1 _);have G:(a.heap.push {cls:=.type "list",data:=.seq ([]:List dB).toArray}).objs.size≠X.env.locals:=λz=>by
   have:=w.lt;rw[<- z]at this;exact az _ this
  have W:H' (a.heap.push {cls:=.type "list",data:=.seq ([]:List dB).toArray}).objs.size=Y:=B.free;have J2:Inv X (ag++[((a.heap.push {cls:=.type "list",data:=.seq ([]:List dB).toArray}).objs.size,P)]) σ H' s':=J1.pins_of λp L=>by
   rcases aG.mp L with z|z
   ·exact J1.pin p (mA1 _ z)
   ·have z':p=((a.heap.push {cls:=.type "list",data:=.seq ([]:List dB).toArray}).objs.size,P):=by simpa using z
    subst z';exact⟨eC,W,G,w.nofs (nR1 _),λv q=>by rw[dC]at q;cases q⟩
  refine fg (vi hN hy hx hf _ s' σ H' (.ref a.heap.objs.size) (.ref a.heap.objs.size) D.nx J2 O q') λ_ s5 ⟨K,H5,J5,q5⟩=>?_;obtain⟨e5,n5,_⟩:=J5.pin ((a.heap.push {cls:=.type "list",data:=.seq ([]:List dB).toArray}).objs.size,P) (mA1 _ (mA1 _ mS1));refine⟨m,⟨P,es,ep,e5,dC,rC⟩,λh' U=>?_⟩;have J6:Inv X ag K H5 s5:=J5.unpinned;refine⟨K,H5,J6.turned (t':=s5.toks) (λb o hb e=>(U.2 b hb).trans e) n5 G (.inr ?_) (λx c u z=>?_) (λp L z=>?_),q5⟩
  ·exact w.sz
  ·obtain⟨w',zc⟩:=w.cell x c u;have j:=zc.lt;rw[z]at j;exact az _ j
  ·obtain⟨aq,_⟩:=w.pin p L;have j:=hL1 aq;rw[z]at j;exact az _ j
section
variable{X:Cx}
theorem Ft{K:Fg1}{te:TE}{m:FE}{i:Nat}(hm:∀ σ H Q,tM K m σ H Q->te σ H Q){E:ju}{σ:L2.St}{H:Hp}(h:xK K (eh m (gN i)) E σ H):yq te (vP i) E σ H:=by
 obtain⟨r,mu,S,d,c,h1,h2,j,f⟩:=qh h;refine hm _ _ _ ⟨r,mu,S,d,c,h1,h2,j,λv H' mu' o e b=>?_⟩;obtain⟨r2,a,s,t,q,u,k,n,p,l,g⟩:=f v H' mu' o e b;cases l;exact g _ H' a (.refl _ _) (k.set p) n
theorem mv (i:Nat){x:Str}{pos:Pos}(hN:X.N[i]? = some x:=by rfl)(hv:Vis X.env.scope x:=by first | exact Or.inl rfl | exact Or.inr (Or.inl rfl) | exact Or.inr (Or.inr rfl))(hd:(x == ("__debug__":Str))=false:=by decide)(hcd:(x == ("__classdict__":Str))=false:=by decide):
  ME X (.Name x pos) (mV i):=EL i hN hv hd hcd
end
noncomputable def fO(P:dF)(w:dH)(K:Fg1)(mg:Str->Option dB)(base:dN)(k:Nat)(x:Str)(n:Nat)(m:FN):Prop:=
 ∃(f:dE) (fd:dP) (ps:List Str),jt P w K mg base tz k f fd ps (AR K n m)/\kT K fd ps []/\wK1 K (.ref f)=M/\mg x=Z (.ref f)
theorem EO {X:Cx}{k k' n:Nat}{x:Str}{m:FN}{p pos:Pos}{e:Expr}{es:List Expr}{a:FA}(h:fO X.prog X.w X.K X.mg X.base k x n m)(hr:fN k' X.A)(hk:k<=k')(hg:Gl X x)(ha:MA X (e::es) a)(hdb:(x == ("__debug__":Str))=false:=by decide)
  (he:dJ (e::es) X.env=(J,eval e X.env)::dJ es X.env:=by rfl) (hpl:(backTo pos (dJ es X.env)).any (·.1)=J:=by rfl):ME X (.Call (.Name x p) (e::es) [] pos) (mN (dX n m) a):=by
 obtain⟨f,fd,ps,F,b,d,c⟩:=h;exact BY F (hr.mono hk) hg c d b ha hdb he hpl
theorem Eh{P:dF}{w:dH}{K:Fg1}{mg:Str->Option dB}{base:dN}{x a:Str}{st:dQ}{f:dE}{fd:dP}{N ps:List Str}{k n:Nat}{b:FS}(F:xO K x a st f fd)(hb:kT K fd ps [])(hm:mg x=some (.ref f))(S:gh N ps (ec st))(hn:ps.length=n)(c:∀(e:dB) (A:dG) (d:List Env) (s:dD) (H:Hp) (E:XK),fN k (A.deeper (envOfC a (ec st) s.heap.objs.size f e)) ->
   AN (lY tz P w K mg base N a (ec st) f e A d s H E).nox (fq st) b):fO P w K mg base (k+1) x n (iD N.length b):=by
 subst hn;exact⟨f,fd,ps,Hb F S c,hb,F.kp,hm⟩
noncomputable def CGl(K:Fg1)(mg:Str->Option dB)(x:Str)(d:D):Prop:=∃(v:V) (u:dB),mg x=Z u/\d7 v u /\ ∀H mu,eJ K H mu d v
theorem BX {X:Cx}{x:Str}{d:D}{pos:Pos}(h:CGl X.K X.mg x d)(hg:Gl X x)(hd:(x == ("__debug__":Str))=J:=by decide):ME X (.Name x pos) (mC d):=by
 obtain⟨v,u,a,r,q⟩:=h;exact zA d (By hg a r hd) q
noncomputable def CV(K:Fg1)(d:D)(u:dB):Prop:=∃v:V,d7 v u /\ ∀H mu,eJ K H mu d v
noncomputable def H9(K:Fg1)(ds:List D)(us:List dB):Prop:=∃vs:List V,ei vs us /\ ∀H mu,d0 K H mu ds vs
section
variable{K:Fg1}
theorem qx{i:Int}{t}:CV K (.int i) (.int i t):=⟨.int i,⟨t,O⟩,λ_ _=>.int i⟩
theorem qw{x:Str}{t}:CV K (.str x) (.str x t):=⟨.str x,⟨t,O⟩,λ_ _=>.str x⟩
theorem kH:H9 K [] []:=⟨[],.nil,λ_ _=>.nil⟩
theorem fx{d:D}{u:dB}{ds:List D}{a:List dB}(h:CV K d u)(t:H9 K ds a):H9 K (d::ds) (u::a):=by
 obtain⟨v,r,q⟩:=h;obtain⟨vs,rs,b⟩:=t;exact⟨v::vs,.cons r rs,λH mu=>.cons (q H mu) (b H mu)⟩
theorem nz {a:dE}{c:Option dE}{b:List dB}{n:Nat}{sl:Array (Option dB)}{ds:List D}(h:K.lookup a=Z ⟨.type "tuple",c,.seq b.toArray n,sl⟩)(hs:b.length<=dL)(t:H9 K ds b):CV K (.tup ds) (.ref a):=by
 obtain⟨vs,rs,d⟩:=t;exact⟨.ref a,O,λH mu=>.tup (.inr ⟨_,b.toArray,n,h,O,O,by simpa using hs,by simpa using rs⟩) (d H mu)⟩
theorem Fm{mg:Str->Option dB}{x:Str}{d:D}{u:dB}(hm:mg x=Z u)(h:CV K d u):CGl K mg x d:=by
 obtain⟨v,r,q⟩:=h;exact⟨v,u,hm,r,q⟩
end
theorem kY{K:Fg1}{H:Hp}{mu:List dE}:∀ns:List Int,d0 K H mu (ns.map D.int) (ns.map V.int)
 |[]=>.nil
 |n::ns=>.cons (.int n) (kY ns)
theorem EY{K:Fg1}{m:FN}(hm:∀ ns:List Int,ns.length<=63 -> ∃ S,m [.rol (ns.map D.int)] []=some (.bl true,S))(H:Hp)(a:dE)(ns:List Int)(d:ns.length<=63)(c:CO H)(f:lU K H a (ns.map V.int)):
  AR K 1 m [.ref a] H (λv _=>v = .bl M) λ_ _ _=>False:=by
 refine⟨O,?_⟩;obtain⟨S,e⟩:=hm ns d;have b:RoL K H a (ns.map V.int):=by
  rcases f with h|h
  ·rcases h with h|h
   ·rcases c a with z|⟨o,xs,z⟩
    ·rw[h]at z;cases z
    ·rw[h]at z;cases z
   ·exact .inl h
  ·exact .inr h
 refine⟨[],[],[.rol (ns.map D.int)],.bl M,S,.cons (.rol b (kY ns)) .nil,.nil,e,λv H' mu' x r s=>?_⟩;cases r;rfl
theorem walk_m{l:PySem.W.OpenLaw}{q:dF}{b:List Str}{XP:(Str->Option dB)->dN->Prop}{e:dH->dN->Prop}{d:DefRec}{K:Params->Fg1}{m:FN}{k:Nat}{x:Str}(hn:l.most=some 63)(c:d.params.defaults=[])(hr:fN k callerA)(j:∀(w:dH) (h:dN),e w h->(K w.params).In h)(hm:∀ns:List Int,ns.length<=63 -> ∃S,m [.rol (ns.map D.int)] []=some (.bl true,S))(F:∀(w:dH) (mg:Str->Option dB) (g:dE) (h:dN),(K w.params).In h->h.Ns dI mg->mg d.name=some (.ref g) ->
   ∃fd:dP,(∀(s:dD) (u:dB),BindsTo s fd ⟨[u],[]⟩ [(x,u)]) /\ ∀base:dN,(K w.params).In base->base.Ns dI mg->jt l.prog w (K w.params) mg base tz k g fd [x] (AR (K w.params) 1 m)):
  PySem.W.WalkO q b XP e l.row.toRowW d [] (λf vs=>PySem.call f vs):=
 L2.A6 (n:=63) (k:=k) (x:=x) (CX:=λ_=>tz) (sp:=λw=>AR (K w.params) 1 m) hn (by decide) c hr j F (λ_ H a ns p i o=>EY hm H a ns p i o) λ_ _ _ _ _ z=>z
structure XE (X:Cx)(e:Expr)(m:FE):Prop where
 h:ME X e m
structure XT (X:Cx)(e:Expr)(m:FT):Prop where
 h:MT X e m
structure XW (X:Cx)(e:Expr)(m:FT):Prop where
 h:MW X e m
structure XA (X:Cx)(e:List Expr)(m:FA):Prop where
 h:MA X e m
structure XS (X:Cx)(e:dQ)(m:FS):Prop where
 h:MS X e m
structure xE (X:Cx)(e:List dQ)(m:FS):Prop where
 h:AN X e m
structure XI (X:Cx)(tg e:Expr)(m:FI):Prop where
 h:MI X tg e m
structure XG (X:Cx)(e:Expr)(m:FG):Prop where
 h:MG X e m
structure HZ (X:Cx)(e:List Expr)(m:AQ):Prop where
 h:HD X e m
structure XO (X:Cx)(e:Option Expr)(m:FO):Prop where
 h:MO X e m
structure XF (X:Cx)(K:Fg1)(ifs:List Expr)(t:FT):Prop where
 h:n0 X ifs (yp K t)
theorem fK{X:Cx}:XF X X.K [] gu:=⟨BS⟩
theorem fz{X:Cx}{c:Expr}{t:FT}(h:XT X c t):XF X X.K [c] t:=⟨BR h.h⟩
section
variable{X:Cx}{pos:Pos}
theorem qK{i:Int}{j}:XE X (.Constant (.int i) j pos) (mC (.int i)):=⟨ES⟩
theorem tQ{b:Bool}{j}:XE X (.Constant (.bool b) j pos) (mC (.bl b)):=⟨GL⟩
theorem gf{j}:XE X (.Constant .none j pos) (mC .non):=⟨EQ⟩
theorem eE{x:Str}{j}:XE X (.Constant (.str x) j pos) (mC (.str x)):=⟨EN⟩
end
section
variable{X:Cx}{pos:Pos}{e:Expr}{es:List Expr}{m:FE}{n:FA}
theorem qN:XA X [] dU:=⟨EU⟩
theorem qA(h:XE X e m)(ht:XA X es n)(hs:dJ (e::es) X.env=(J,eval e X.env)::dJ es X.env:=by rfl):XA X (e::es) (dS m n):=⟨BZ (h:=h.h) (ht:=ht.h) (hs:=hs)⟩
end
section
variable{X:Cx}{K:Fg1}{f:FN}{a b:FE}{σ:L2.St}{H:Hp}{Q:VK}
theorem qI{op:Operator}{x y:Expr}{pos:Pos}(ho:gp X (binaryOp op) (r2 X.K f))(hx:XE X x a)(hy:XE X y b):XE X (.BinOp x op y pos) (m2 f a b):=⟨GI (ho:=ho) (hx:=hx.h) (hy:=hy.h)⟩
theorem xV{op:UnaryOp}{x:Expr}{pos:Pos}(ho:FQ X (unaryOp op) (λx H Q=>rN X.K f [x] H Q))(hx:XE X x a):XE X (.UnaryOp op x pos) (m1 f a):=⟨GH (ho:=ho) (hx:=hx.h)⟩
theorem A0{op:CmpOp}{x y:Expr}{pos:Pos}(ho:gp X (compareOp op) (r2 X.K f))(hx:XE X x a)(hy:XE X y b)(hm:behindInMarks op y=J):XE X (.Compare x [op] [y] pos) (m2 f a b):=⟨ET (ho:=ho) (hx:=hx.h) (hy:=hy.h) (hm:=hm)⟩
theorem qJ{x y:Expr}{pos:Pos}(ho:Di X (r2 X.K f))(hx:XE X x a)(hy:XE X y b)(hs:mm y):XE X (.Subscript x y pos) (m2 f a b):=⟨GJ (ho:=ho) (hx:=hx.h) (hy:=hy.h) (hs:=hs)⟩
theorem qD {x:Str}{p pos:Pos}{e:Expr}{es:List Expr}{id:String}{a:FA}(hc:fj X (.builtin id) (rN X.K f))(hg:Gl X x)(hm:X.mg x=Y)(hv:bootBuiltins x=Z (.builtin id))(ha:XA X (e::es) a)(hn:x≠"__name__":=by decide)(hdb:(x == ("__debug__":Str))=J:=by decide)(he:dJ (e::es) X.env=(J,eval e X.env)::dJ es X.env:=by rfl)(hpl:(backTo pos (dJ es X.env)).any (·.1)=J:=by rfl):XE X (.Call (.Name x p) (e::es) [] pos) (mN f a):=⟨zz (hc:=hc) (hg:=hg) (hm:=hm) (hv:=hv) (ha:=ha.h) (hn:=hn) (hdb:=hdb) (he:=he) (hpl:=hpl)⟩
theorem qE {x:Str}{p pos:Pos}{e:Expr}{es:List Expr}{T:String}{a:FA}(hc:fj X (.type T) (rN X.K f))(hg:Gl X x)(hm:X.mg x=Y)(hv:bootBuiltins x=Z (.type T))(ha:XA X (e::es) a)(hn:x≠"__name__":=by decide)(hdb:(x == ("__debug__":Str))=J:=by decide)(he:dJ (e::es) X.env=(J,eval e X.env)::dJ es X.env:=by rfl)(hpl:(backTo pos (dJ es X.env)).any (·.1)=J:=by rfl):XE X (.Call (.Name x p) (e::es) [] pos) (mN f a):=⟨wR (hc:=hc) (hg:=hg) (hm:=hm) (hv:=hv) (ha:=ha.h) (hn:=hn) (hdb:=hdb) (he:=he) (hpl:=hpl)⟩
end
section
variable{X:Cx}{x y c:Expr}{rest:List Expr}{pos:Pos}{a b:FT}{f g:FE}
theorem qX{op:CmpOp}{f:FN}{a b:FE}(ho:gp X (compareOp op) (r2 X.K f))(hx:XE X x a)(hy:XE X y b)(hm:behindInMarks op y=J):XT X (.Compare x [op] [y] pos) (mB (m2 f a b)):=⟨Ey (ho:=ho) (hx:=hx.h) (hy:=hy.h) (hm:=hm)⟩
theorem iJ(ha:XT X x a):XW X (.BoolOp .And [x] pos) a:=⟨BJ (ha:=ha.h)⟩
theorem pz(ha:XT X x a):XW X (.BoolOp .Or [x] pos) a:=⟨Eu (ha:=ha.h)⟩
theorem jK(ha:XT X x a)(hb:XW X (.BoolOp .And (y::rest) pos) b):XW X (.BoolOp .And (x::y::rest) pos) (sd a b):=⟨Ew (ha:=ha.h) (hb:=hb.h)⟩
theorem tK(ha:XT X x a)(hb:XW X (.BoolOp .Or (y::rest) pos) b):XW X (.BoolOp .Or (x::y::rest) pos) (FK a b):=⟨GF (ha:=ha.h) (hb:=hb.h)⟩
theorem ll(h:XW X x a):XT X x a:=⟨IH (h:=h.h)⟩
theorem pB(ha:XT X x a):XT X (.UnaryOp .Not x pos) (wT a):=⟨Ex (ha:=ha.h)⟩
theorem pC(hc:XT X c a)(hx:XE X x f)(hy:XE X y g):XE X (.IfExp c x y pos) (vz a f g):=⟨GK (hc:=hc.h) (hx:=hx.h) (hy:=hy.h)⟩
end
section
variable{X:Cx}{x y z:Expr}{pos:Pos}{f g:FN}{a b c:FE}{op op':CmpOp}
end
section
variable{X:Cx}{pos:Pos}{e c:Expr}{st:dQ}{rest as bs:List dQ}{a b:FS}{m:FE}{t:FT}
theorem qQ:xE X [] qS:=⟨BM⟩
theorem qF(h1:XS X st a)(h2:xE X rest b):xE X (st::rest) (d9 a b):=⟨zt (h1:=h1.h) (h2:=h2.h)⟩
theorem qG(h1:XS X st a):xE X [st] a:=⟨BK (h1:=h1.h)⟩
theorem jL(h:XE X e m)(hs:swapsWith e Y pos.line X.env=pure J:=by rfl):XS X (.Expr e pos) (fi m):=⟨BN (h:=h.h) (hs:=hs)⟩
theorem qU(h:XE X e m):XS X (.Return (Z e) pos) (fu m):=⟨EA (h:=h.h)⟩
theorem qV(hc:XT X c t)(ha:xE X as a)(hb:xE X bs b):XS X (.If c as bs pos) (hI t a b):=⟨GG (hc:=hc.h) (ha:=ha.h) (hb:=hb.h)⟩
end
section
variable{X:Cx}{pos:Pos}
theorem qO(i:Nat){x:Str}(hN:X.N.Nodup)(hi:X.N[i]?=Z x)(hx:uQ X.env.scope x)(hf:X.fn x=M\/X.env.scope.names.lookup x=Z .local:=by first|exact .inl rfl|exact .inr rfl|assumption):XG X (.Name x pos) (gN i):=⟨BW (i:=i) (hN:=hN) (hi:=hi) (hx:=hx) (hf:=hf)⟩
theorem gj:HZ X [] gNl:=⟨BV⟩
theorem d8{e:Expr}{es:List Expr}{g:FG}{a:AQ}(h1:XG X e g)(h2:HZ X es a)(hs:(assignEach (e::es) X.env).map (·.2)=assign e X.env::(assignEach es X.env).map (·.2):=by rfl):HZ X (e::es) (gCs g a):=⟨zw (h1:=h1.h) (h2:=h2.h) (hs:=hs)⟩
theorem gQ{es:List Expr}{k:Nat}{a:AQ}{n:Nat}(hc:X.calm=M)(h:HZ X es a)(hn:(assignEach es X.env).length=n:=by rfl)(hst:(assignEach es X.env).findIdx? (·.1)=Y:=by rfl):XG X (.Tuple es k pos) (gT n a):=⟨EI (hc:=hc) (h:=h.h) (hn:=hn) (hst:=hst)⟩
theorem l7{o i:Expr}{a b:FE}{f:FN}(ho:XE X o a)(hi:XE X i b)(hs:uP X (rU X.K f))(ha:∀ v,assign (.Subscript o i pos) X.env v=(do
   let ov<-holding [v] (eval o X.env)
   let iv<-holding [v,ov] (eval i X.env)
   standAt pos
   holding [v,ov,iv] (setItem ov iv v)
   release [v,ov,iv] []):=by intro _;rfl):XG X (.Subscript o i pos) (gS f a b):=⟨EJ (ho:=ho.h) (hi:=hi.h) (hs:=hs) (ha:=ha)⟩
theorem qR{tg e:Expr}{m:FE}{g:FG}(he:XE X e m)(hg:XG X tg g)(hs:swapsWithSole [tg] e pos.line X.env=pure J:=by rfl)(hw:swappedStores [tg] e X.env=pure Y:=by rfl)(h1:(assignEach [tg] X.env).map (·.2)=[assign tg X.env]:=by rfl):XS X (.Assign [tg] e pos) (eh m g):=⟨ED (he:=he.h) (hg:=hg.h) (hs:=hs) (hw:=hw) (h1:=h1)⟩
theorem qY(i:Nat){x:Str}{e:Expr}{m:FE}{pos':Pos}(hN:X.N.Nodup)(hi:X.N[i]?=Z x)(hx:uQ X.env.scope x)(he:XE X e m)(hs:swapsWith e (Z (.Name x pos')) pos.line X.env=pure J:=by rfl)(hf:X.fn x=M\/X.env.scope.names.lookup x=Z .local:=by first|exact .inl rfl|exact .inr rfl|assumption):XS X (.Assign [.Name x pos'] e pos) (eh m (gN i)):=⟨Ez (i:=i) (hN:=hN) (hi:=hi) (hx:=hx) (he:=he.h) (hs:=hs) (hf:=hf)⟩
theorem AZ(i:Nat){x:Str}{e:Expr}{m:FE}{op:Operator}{f:FN}{pos':Pos}(hN:X.N.Nodup)(hi:X.N[i]?=Z x)(hx:uQ X.env.scope x)(he:XE X e m)(ho:H7 X op (r2 X.K f))(hf:X.fn x=M\/X.env.scope.names.lookup x=Z .local:=by first|exact .inl rfl|exact .inr rfl|assumption):XS X (.AugAssign (.Name x pos') op e pos) (B2 i f m):=⟨EC (i:=i) (hN:=hN) (hi:=hi) (hx:=hx) (he:=he.h) (ho:=ho) (hf:=hf)⟩
end
section
theorem kU{X:Cx}{pos:Pos}(n:Nat){c:Expr}{a:List dQ}{t:FT}{b:FS}(hp:PassesOwn (model X.prog X.w) X.A X.env X.xe)(hc:XT X c t)(hb:xE X a b):XS X (.While c a [] pos) (qM t b n):=⟨zu (n:=n) (hp:=hp) (hc:=hc.h) (hb:=hb.h)⟩
theorem qW{X:Cx}{pos:Pos}{tg iter:Expr}{a:List dQ}{m:FI}{g:FG}{b:FS}(hp:PassesOwn (model X.prog X.w) X.A X.env X.xe)(hc:X.calm=M)(hi:XI X tg iter m)(hg:XG X tg g)(hb:xE X a b)(hs:∀x,foldedSetIterable iter X.env x=pure x:=by intro _;rfl):XS X (.For tg iter a [] pos) (iU m g b):=⟨EB (hp:=hp) (hc:=hc) (hi:=hi.h) (hg:=hg.h) (hb:=hb.h) (hs:=hs)⟩
end
section
variable{X:Cx}{es:List Expr}{pos:Pos}{a:FA}
theorem ed{x1}(h:XA X es a):XE X (.Tuple es x1 pos) (eQ a):=⟨EM (h:=h.h)⟩
theorem gz(h:XA X es a):XE X (.List es pos) (jD a):=⟨ER (h:=h.h)⟩
end
section
variable{X:Cx}{tg:Expr}
theorem qd{e:Expr}{m:FE}(h:XE X e m):XI X tg e (iH m):=⟨EH (h:=h.h)⟩
theorem tN {a:Expr}{m:FA}{p pos:Pos}(hg:Gl X "range")(hm:X.mg "range"=Y)(ha:XA X [a] m)(hs:dJ [a] X.env=[(J,eval a X.env)]:=by rfl):XI X tg (.Call (.Name "range" p) [a] [] pos) (uy m):=⟨wP (hg:=hg) (hm:=hm) (ha:=ha.h) (hs:=hs)⟩
theorem tL {a b:Expr}{m:FA}{p pos:Pos}(hg:Gl X "range")(hm:X.mg "range"=Y)(ha:XA X [a,b] m)(hs:dJ [a,b] X.env=[(J,eval a X.env),(J,eval b X.env)]:=by rfl)(hs2:dJ [b] X.env=[(J,eval b X.env)]:=by rfl):XI X tg (.Call (.Name "range" p) [a,b] [] pos) (GZ m):=⟨wO (hg:=hg) (hm:=hm) (ha:=ha.h) (hs:=hs) (hs2:=hs2)⟩
end
section
variable{X:Cx}{tg:Expr}
variable{elts:List Expr}{k:Nat}{tpos:Pos}
theorem xU {a:Expr}{m:FA}{p pos:Pos}(hg:Gl X "enumerate")(hm:X.mg "enumerate"=Y)(ha:XA X [a] m)(hs:dJ [a] X.env=[(J,eval a X.env)]:=by rfl):XI X (.Tuple elts k tpos) (.Call (.Name "enumerate" p) [a] [] pos) (FL m):=⟨BU (hg:=hg) (hm:=hm) (ha:=ha.h) (hs:=hs)⟩
theorem jM {a b:Expr}{m:FA}{p pos:Pos}(hg:Gl X "zip")(hm:X.mg "zip"=Y)(ha:XA X [a,b] m)(hs:dJ [a,b] X.env=[(J,eval a X.env),(J,eval b X.env)]:=by rfl)(hs2:dJ [b] X.env=[(J,eval b X.env)]:=by rfl):XI X (.Tuple elts k tpos) (.Call (.Name "zip" p) [a,b] [] pos) (AT m):=⟨EG (hg:=hg) (hm:=hm) (ha:=ha.h) (hs:=hs) (hs2:=hs2)⟩
end
section
variable{X:Cx}{ag:List (dE×Obj)}{σ:L2.St}{H:Hp}{s:dD}{mu:List dE}{S:Sto}{K:Fg1}
end
section
variable{X:Cx}
theorem xT:XO X Y mX:=⟨BQ⟩
theorem xS{e:Expr}{m:FE}(h:XE X e m):XO X (Z e) (rS m):=⟨BP (h:=h.h)⟩
theorem tP {a:Expr}{m:FA}{d p2 b c:Pos}(hc:X.calm=M)(hg:Gl X "range")(hm:X.mg "range"=Y)(hg2:Gl X "list")(hm2:X.mg "list"=Y)(ha:XA X [a] m)(hs:dJ [a] X.env=[(J,eval a X.env)]:=by rfl)(hs2:dJ [.Call (.Name "range" d) [a] [] b] X.env=[(J,eval (.Call (.Name "range" d) [a] [] b) X.env)]:=by rfl):XE X (.Call (.Name "list" p2) [.Call (.Name "range" d) [a] [] b] [] c) (zD m):=⟨wQ (hc:=hc) (hg:=hg) (hm:=hm) (hg2:=hg2) (hm2:=hm2) (ha:=ha.h) (hs:=hs) (hs2:=hs2)⟩
theorem qe {o e:Expr}{es:List Expr}{m:FE}{a:FA}{f:FN}{name:Str}{apos cpos:Pos}{id:String}(slot:Slot "list" name id)(hty:typeOf (.builtin id)=pure (.type "method_descriptor"))(hm:Dh X id (λx xs H Q=>rN X.K f (x::xs) H Q))(ho:XE X o m)(ha:XA X (e::es) a)(hbase:attributeBase o name X.env (eval o X.env)=eval o X.env:=by rfl)(hfew:((backTo cpos (dJ (e::es) X.env)).all (λx=> !x.1)&&(backToKw cpos (keywordEach [] X.env)).all (λx=>x.1.isSome)&&decide ((e::es).length+([]:List Keyword).length+(if([]:List Keyword).isEmpty then 0 else 1)<30))=M:=by rfl)(hline:(apos.endLine == cpos.line)=M:=by rfl)(hs:dJ (e::es) X.env=(J,eval e X.env)::dJ es X.env:=by rfl)(hplain:(backTo cpos (dJ es X.env)).any (·.1)=J:=by rfl):XE X (.Call (.Attribute o name apos) (e::es) [] cpos) (oG f m a):=⟨zy (slot:=slot) (hty:=hty) (hm:=hm) (ho:=ho.h) (ha:=ha.h) (hbase:=hbase) (hfew:=hfew) (hline:=hline) (hs:=hs) (hplain:=hplain)⟩
theorem JE (i:Nat){x:Str}{pos:Pos}(hN:X.N[i]?=Z x:=by rfl)(hv:Vis X.env.scope x:=by first|exact Or.inl rfl|exact Or.inr (Or.inl rfl)|exact Or.inr (Or.inr rfl))(hd:(x == ("__debug__":Str))=J:=by decide)(hcd:(x == ("__classdict__":Str))=J:=by decide):XE X (.Name x pos) (mV i):=⟨mv (i:=i) (hN:=hN) (hv:=hv) (hd:=hd) (hcd:=hcd)⟩
end
section
theorem qH {X:Cx}{k k' n:Nat}{x:Str}{m:FN}{p pos:Pos}{e:Expr}{es:List Expr}{a:FA}(h:fO X.prog X.w X.K X.mg X.base k x n m)(hr:fN k' X.A)(hk:k<=k')(hg:Gl X x)(ha:XA X (e::es) a)(hdb:(x == ("__debug__":Str))=J:=by decide)(he:dJ (e::es) X.env=(J,eval e X.env)::dJ es X.env:=by rfl)(hpl:(backTo pos (dJ es X.env)).any (·.1)=J:=by rfl):XE X (.Call (.Name x p) (e::es) [] pos) (mN (dX n m) a):=⟨EO (h:=h) (hr:=hr) (hk:=hk) (hg:=hg) (ha:=ha.h) (hdb:=hdb) (he:=he) (hpl:=hpl)⟩
theorem xX {X:Cx}{x:Str}{d:D}{pos:Pos}(h:CGl X.K X.mg x d)(hg:Gl X x)(hd:(x == ("__debug__":Str))=J:=by decide):XE X (.Name x pos) (mC d):=⟨BX (h:=h) (hg:=hg) (hd:=hd)⟩
end
section
variable{X:Cx}
structure H0 (X:Cx)(K:Fg1)(tg:Expr)(ifs:List Expr)(elt:Expr)(g:FG)(t:FT)(e:FE):Prop where
 g:XG X tg g
 t:XF X K ifs t
 e:XE X elt e
end
theorem AY{P:dF}{w:dH}{K:Fg1}{mg:Str->Option dB}{base:dN}{x c:Str}{st:dQ}{f:dE}{fd:dP}{N ps:List Str}{k n:Nat}{b:FS}(F:xO K x c st f fd)(hb:kT K fd ps [])(hm:mg x=some (.ref f))(S:gh N ps (ec st))(hn:ps.length=n)(e:∀(d:dB) (A:dG) (a:List Env) (s:dD) (H:Hp) (E:XK),fN k (A.deeper (envOfC c (ec st) s.heap.objs.size f d)) ->
   xE (lY tz P w K mg base N c (ec st) f d A a s H E).nox (fq st) b):fO P w K mg base (k+1) x n (iD N.length b):=
 Eh F hb hm S hn λd A a s H E g=>(e d A a s H E g).h
theorem Dk{P:dF}{w:dH}{K:Fg1}{mg:Str->Option dB}{base:dN}{x c:Str}{st:dQ}{f:dE}{fd:dP}{N ps:List Str}{k n:Nat}{b:FS}(F:xO K x c st f fd)(S:gh N ps (ec st))(hn:ps.length=n)(e:∀(d:dB) (A:dG) (a:List Env) (s:dD) (H:Hp) (E:XK),fN k (A.deeper (envOfC c (ec st) s.heap.objs.size f d)) ->
   xE (lY tz P w K mg base N c (ec st) f d A a s H E).nox (fq st) b):jt P w K mg base tz (k+1) f fd ps (AR K n (iD N.length b)):=by
 subst hn;exact Hb F S λd A a s H E g=>(e d A a s H E g).h
abbrev FV:=Ev->Sto->Option (List D×Ev×Sto)
noncomputable def fM (c:List (Nat×List D))(g:FG)(t:FT)(b:FV):List D->FV
 |[]=>λr S=>if oB S c=true then some ([],r,S)else none
 |d::ds=>λr S=>if oB S c=true then(g d r S).bind λp=>(t p.1 p.2).bind λk=>if k.1=true then(b p.1 k.2).bind λq=>(fM c g t b ds q.2.1 q.2.2).map λz=>(q.1++z.1,z.2)else fM c g t b ds p.1 k.2 else none
noncomputable def eI (m:FE):FV:=λr S=>(m r S).map λq=>([q.1],r,q.2)
noncomputable def e0 (k:Nat)(keep:List Nat)(m:FI)(g:FG)(t:FT)(b:FV):FE:=λr S=>(m r S).bind λp=>
 (fM p.1.chk g t b p.1.items (nR k keep r) p.2).bind λq=>if q.1.length<=dL then some (.ref q.2.2.length,q.2.2++[.lst q.1])else none
section
variable{K:Fg1}{H H' H1:Hp}{mu mu' mu1:List dE}{S:Sto}{a:dE}
theorem Ext.aside(x:Ext mu mu' H H'):Ext (a::mu) (a::mu') H H' where
 pre:=bY.mpr ⟨O,x.pre⟩
 old:=λb o h n=>x.old b o h λz=>n (mC1 _ z)
 tup:=x.tup
 frz:=x.frz
 new:=λb h=>by
  rcases aF.mp h with h|h
  ·exact .inl (by rw[h];exact mS1)
  ·rcases x.new b h with q|q
   ·exact .inl (mC1 _ q)
   ·exact .inr q
theorem Ext.inner(x:Ext (a::mu) (a::mu') H H'):q0 mu mu' H H':=⟨(bY.mp x.pre).2,x.tup,x.frz⟩
theorem Ext.held{o:HO}(x:Ext mu mu' H H')(ha:H a=Z o)(hn:a∉mu):H' a=Z o/\a∉mu':=by
 refine⟨x.old a o ha hn,λz=>?_⟩;rcases x.new a z with q|q
 ·exact hn q
 ·rw[ha]at q;cases q
theorem fJ.exw{r:Ev}{σ:L2.St}(e:q0 mu mu' H H')(h:fJ K H mu r σ):fJ K H' mu' r σ:=⟨h.len,λi d q=>by
 obtain⟨v,a,b⟩:=h.val i d q;exact⟨v,a,b.exw e⟩⟩
theorem jI.exw{b:dE}(e:q0 mu mu' H H')(h:∀o,H b=Z o->H' b=Z o):∀{o:Ob},jI K H mu b o->jI K H' mu' b o
 | .lst _,⟨vs,q,r⟩=>⟨vs,h _ q,r.exw e⟩
 | .dct _,⟨ws,q,r⟩=>⟨ws,h _ q,Paired.mapP r λ_ _ z=>⟨z.1,z.2.exw e⟩⟩
 | .dcT _,⟨ws,q,r,l⟩=>⟨ws,h _ q,Paired.mapP r λ_ _ ⟨z,d,k,v,a,r⟩=>⟨z,d,k.exw e,v,a,r.exw e⟩,l⟩
 | .iset _,q=>⟨h _ q.1,q.2⟩
 | .dcF _,⟨ws,⟨o,u,f,c⟩,r,l⟩=>⟨ws,⟨o,u,h _ f,c⟩,Paired.mapP r λ_ _ ⟨z,d,k,v,a,r⟩=>⟨z,d,k.exw e,v,a,r.exw e⟩,l⟩
 | .tst _,⟨ws,q,r⟩=>⟨ws,h _ q,Paired.mapP r λ_ _ ⟨z,d,k,v,a,r⟩=>⟨z,d,k.exw e,v,a,r.exw e⟩⟩
theorem Sim.aside{u:HO}(s:Sim K H mu S)(e:q0 mu mu H (upd H a u))(hn:a∉mu):Sim K (upd H a u) mu S:=
 ⟨s.len,s.nd,λk o b h1 h2=>(s.ob k o b h1 h2).exw e λo' q=>by rw[dY (λz=>hn (by rw[<- z];exact gM1 h2))];exact q⟩
end
inductive F8 (K:Fg1)(a:dE)(m:FV)(E:ju)(σ:L2.St)(H:Hp):Prop
 |mk (r:Ev) (mu:List dE) (S:Sto) (acc:List D) (vs:List V) (xs:List D) (r':Ev) (S':Sto):H a=some (.lst vs)->a∉mu->d0 K H mu acc vs->fJ K H mu r σ->Sim K H mu S->m r S=some (xs,r',S')->vs.length+xs.length<=dL ->
 (∀ σ' H' mu' vs',Ext (a::mu) (a::mu') H H'->H' a=some (.lst vs')->a∉mu'->d0 K H' mu' (acc++xs) vs'->fJ K H' mu' r' σ'->Sim K H' mu' S'->E.nx σ' H')->F8 K a m E σ H
theorem ny{K:Fg1}{a:dE}{m:FE}{E:ju}{σ:L2.St}{H:Hp}(h:F8 K a (eI m) E σ H):rn a (tM K m) E σ H:=by
 obtain⟨r,mu,S,s,vs,xs,w,u,l,g,o,i,t,f,q,hc⟩:=h;obtain⟨⟨d,p⟩,k,f⟩:=oM1.mp f;cases f;refine⟨r,mu,S,d,p,i,t,k,λv H1 mu1 e n j=>?_⟩;obtain⟨b,c⟩:=e.held l g;have put:Ext (a::mu1) (a::mu1) H1 (upd H1 a (.lst (vs++[v]))):=Ext.put b trivial mS1;refine⟨vs,b,q,?_⟩;exact hc σ _ mu1 (vs++[v]) (e.aside.trans put) d4 c (((o.ext e).append (.cons n .nil)).exw put.inner) ((i.ext e).exw put.inner) (j.aside put.inner c)
inductive Jd (K:Fg1)(a:dE)(mu2:List dE)(H:Hp)(c:List (Nat×List D))(g:FG)(t:FT)(b:FV)(r':Ev)(S':Sto)(tot:List D)(L:List D)(σ':L2.St)(H':Hp):Prop
 |mk (r3:Ev) (mu3:List dE) (S3:Sto) (acc3:List D) (vs3:List V) (xs3:List D):Ext (a::mu2) (a::mu3) H H'->H' a=some (.lst vs3)->a∉mu3->d0 K H' mu3 acc3 vs3->fJ K H' mu3 r3 σ'->Sim K H' mu3 S3->fM c g t b L r3 S3=some (xs3,r',S')->acc3++xs3=tot->vs3.length+xs3.length<=dL->Jd K a mu2 H c g t b r' S' tot L σ' H'
theorem si{K:Fg1}{a:dE}{j:It}{am:AO}{g:FG}{t:FT}{b:FV}{tb:TS}{D:ju}(hb:∀ E σ H,F8 K a b E σ H->tb E σ H){mu1 e:List dE}{H1 H:Hp}{r G:Ev}{S N:Sto}{σ:L2.St}{acc xs:List Mi.D}{vs:List V}(hJ:ItR K j am mu1 H1)(x:q0 mu1 e H1 H)(ha:H a=Z (.lst vs))(R:a∉e)(hr:d0 K H e acc vs)(he:fJ K H e r σ)(hs:Sim K H e S)(hm:fM am.chk g t b am.items r S=Z (xs,G,N))(hl:vs.length+xs.length<=dL)(hc:∀h H' mu' z,Ext (a::e) (a::mu') H H'->H' a=Z (.lst z)->a∉mu'->d0 K H' mu' (acc++xs) z->fJ K H' mu' G h->Sim K H' mu' N->D.nx h H'):CY j (DB K g) (yp K t) tb D σ H:=by
 refine⟨λi k h H'=>k=(am.items.drop i).length/\Jd K a e H am.chk g t b G N (acc++xs) (am.items.drop i) h H',
  ⟨_,O,r,e,S,acc,vs,xs,.refl _ _,ha,R,hr,he,hs,hm,O,hl⟩,?_⟩
 rintro i k W H3 ⟨rfl,r3,m,S3,f,vs3,Q,I,s,C,w,v,s3,c,q,l⟩;cases hd0:am.items.drop i with
 |nil=>
  left;rw[hd0,fM]at c;dsimp only at c;split at c
  ·rename_i ok;cases c;refine⟨(hJ i H3 m _ (x.trans I.inner) s3 ok).2 (List.drop_eq_nil_iff.mp hd0),hc W H3 m vs3 I s C ?_ v s3⟩;rw[<- q,aM];exact w
  ·cases c
 |cons d ds=>
  right;rw[hd0]at c;obtain⟨hi,hd⟩:=lK hd0;rw[fM]at c;dsimp only at c;split at c
  ·rename_i ok;obtain⟨⟨ao,S4⟩,e4,c⟩:=oB1.mp c;obtain⟨⟨k5,au⟩,e5,c⟩:=oB1.mp c;obtain⟨go,yl⟩:=(hJ i H3 m _ (x.trans I.inner) s3 ok).1 d hi;refine⟨go,Jd K a e H am.chk g t b G N (acc++xs) ds,?_,λy H4 yy=>?_⟩
   ·intro h H' h6;exact⟨ds.length,bE _,(congrArg List.length hd).symm,hd.symm ▸ h6⟩
   ·obtain⟨L,s4,q4⟩:=yl y H4 yy;obtain⟨X,hn4⟩:=L.held s C;refine⟨r3,m,S3,d,ao,S4,v.ext L,s4,q4,e4,fun σ5 H5 T x5 p s5=>?_⟩;obtain⟨ha5,P⟩:=x5.held X hn4;refine⟨ao,T,S4,k5,au,p,s5,e5,λH6 n B s6=>?_⟩;obtain⟨u,A⟩:=B.held ha5 P;have xx:=((I.trans L.aside).trans x5.aside).trans B.aside;have o:d0 K H6 n f vs3:=((w.ext L).ext x5).ext B;cases k5 with
    |true=>
     obtain⟨⟨q1,r7,S7⟩,e7,c⟩:=oB1.mp c;obtain⟨⟨z1,r8,S8⟩,e8,c⟩:=oM1.mp c;cases c;refine hb _ _ _ ⟨ao,n,au,f,vs3,q1,r7,S7,u,A,o,p.ext B,s6,e7,?_,fun σ8 H8 mu8 U x8 ha8 aq F wq s8=>⟨r7,mu8,S7,f++q1,U,z1,xx.trans x8,ha8,aq,F,wq,s8,e8,?_,?_⟩⟩
     ·rw[lA1]at l;dsimp only at l;lia
     ·rw[<- q,bI]
     ·have:=F.length;have h3:=o.length;rw[lA1]at this l;dsimp only at l;lia
    |false=>exact⟨ao,n,au,f,vs3,Q,xx,u,A,o,p.ext B,s6,c,q,l⟩
  ·cases c
theorem sU{K:Fg1}{k:Nat}{keep:List Nat}{m:FI}{g:FG}{t:FT}{b:FV}{tb:dE->TS}(hb:∀ a E σ H,F8 K a b E σ H->tb a E σ H){σ:L2.St}{H:Hp}{Q:VK}(h:tM K (e0 k keep m g t b) σ H Q):
  u5 k keep (Ik K m) (DB K g) (yp K t) tb σ H Q:=by
 obtain⟨r,mu,S,d,aq,G,V,f,hc⟩:=h;obtain⟨⟨am,W⟩,P,f⟩:=oB1.mp f;obtain⟨⟨xs,r2,I⟩,T,f⟩:=oB1.mp f;dsimp only at f;split at f
 ·rename_i au;cases f;refine ⟨r,mu,S,am,W,G,V,P,fun j H1 mu1 ao U F p i=>?_⟩;have w:Ext mu1 mu1 H1 (upd H1 p (.lst [])):=Ext.fresh i;refine si (hb p) U w.w d4 (F.notin i) .nil ((C7 k keep (G.ext ao)).ext w) (F.fresh i) T (by simpa using au) fun R H' mu' s l D x A X s'=>?_;have y:Ext mu1 (mu'++[p]) H1 H':=by
   refine⟨((bY.mp l.pre).2).trans (bw _ _),λb o e n=>?_,λb ys e=>l.tup b ys (w.tup b ys e),λb o u e=>l.frz b o u (w.frz b o u e),λb C=>?_⟩
   ·have N:b≠p:=eD e i;exact l.old b o (by rw [dY N];exact e) fun z=>by
     rcases aF.mp z with z|z
     ·exact N z
     ·exact n z
   ·rcases aG.mp C with z|z
    ·rcases l.new b (mC1 _ z)with q|q
     ·rcases aF.mp q with q|q
      ·exact .inr (by rw[q];exact i)
      ·exact .inl q
     ·by_cases v:b=p
      ·exact .inr (by rw[v];exact i)
      ·rw[dY v]at q;exact .inr q
    ·have:b=p:=by simpa using z
     exact .inr (by rw[this];exact i)
  refine hc _ H' (mu'++[p]) (ao.trans y) (.ref (fZ s'.len p)) ⟨by rw[lA1,lA1,s'.len];rfl,?_,λn o b h1 h2=>?_⟩
  ·rw[bB];refine⟨s'.nd,by simp,λb hb c hc e=>?_⟩;have:c=p:=by simpa using hc
   subst this;subst e;exact x hb
  ·by_cases L:n<I.length
   ·rw[gL1 L]at h1;rw[gL1 (by rw[s'.len];exact L)]at h2;exact(s'.ob n o b h1 h2).mor [p]
   ·have B:n=I.length:=by
     have:=(gE1.mp h1).1;rw[lA1]at this;simp at this;lia
    subst B;rw[gR1 (nR1 _)]at h1;rw[<- s'.len,gR1 (nR1 _)]at h2;simp at h1 h2;subst h1;subst h2;exact⟨s,D,(by simpa using A:d0 K H' mu' xs s).mor [p]⟩
 ·cases f
section
variable{X:Cx}
theorem qZ{elt tg iter:Expr}{ifs:List Expr}{scope:dR}{pos:Pos}{T:List Str}{keep:List Nat}{i:List (Str×dE)}{m:FI}{g:FG}{t:FT}{e:FE}(hc:X.calm=M)(C:FR X scope T keep)(f:i5 X.env.cells scope.names []=Z i)(hi:XI X tg iter m)(hb:∀s H b,H0 (cxC X scope i T keep s H b) X.K tg ifs elt g t e)(hs:∀x,foldedSetIterable iter X.env x=pure x:=by intro _;rfl):XE X (.ListComp elt [⟨tg,iter,ifs,0⟩] scope pos) (e0 T.length keep m g t (eI e)):=
 ⟨eU (vk (emit:=oY elt) (tb:=λp=>rn p (tM X.K e)) hc (λit d c=>tW elt tg iter ifs scope pos it d c) C f hi.h (λs H b p=>⟨(hb s H b).g.h,(hb s H b).t.h,pW (hb s H b).e.h p⟩) hs)
  fun σ H Q h=>sU (λa E σ H q=>ny q) h⟩
theorem gE{elt tg iter:Expr}{ifs:List Expr}{scope:dR}{pos b n:Pos}{y:Str}(i:Nat){T:List Str}{keep:List Nat}{l:List (Str×dE)}{m:FI}{g:FG}{t:FT}{e:FE}(hc:X.calm=M)(C:FR X scope T keep)(k:i5 X.env.cells scope.names []=Z l)(hi:XI X tg iter m)(hb:∀s H c,H0 (cxC X scope l T keep s H c) X.K tg ifs elt g t e)(hN:X.N.Nodup)(hy:X.N[i]?=Z y)(hx:uQ X.env.scope y)(d:swapsWith (.ListComp elt [⟨tg,iter,ifs,0⟩] scope pos) (Z (.Name y n)) b.line X.env=pure M:=by rfl)(hf:X.fn y=M\/X.env.scope.names.lookup y=Z .local:=by first|exact .inl rfl|exact .inr rfl|assumption)(hs:∀x,foldedSetIterable iter X.env x=pure x:=by intro _;rfl):XS X (.Assign [.Name y n] (.ListComp elt [⟨tg,iter,ifs,0⟩] scope pos) b) (eh (e0 T.length keep m g t (eI e)) (gN i)):=
 ⟨hH (Bo (emit:=oY elt) (tb:=λp=>rn p (tM X.K e)) hc d (λit j f=>tW elt tg iter ifs scope pos it j f) C k hi.h (λs H c p=>⟨(hb s H c).g.h,(hb s H c).t.h,pW (hb s H c).e.h p⟩) hN hy hx hf hs)
  λE σ H h=>Ft (fun σ H Q q=>sU (λa E σ H q=>ny q) q) h⟩
end
noncomputable def sn:D->Option Key
 | .int i=>Z (.inl i)
 | .str x=>Z (.inr x)
 |_=>Y
noncomputable def d2{κ:Type}[DecidableEq κ](kvs:List (κ×D))(k:κ):Option D:=(kvs.find? λp=>decide (p.1=k)).map (·.2)
noncomputable def e6{κ:Type}[DecidableEq κ](kvs:List (κ×D))(k:κ)(d:D):List (κ×D):=
 if(kvs.any λp=>decide (p.1=k))=M then kvs.map (λp=>if p.1=k then(p.1,d)else p)else kvs++[(k,d)]
section
variable{K:Fg1}{H:Hp}{mu:List dE}
theorem ko{d:D}{v:V}{k:Key}(r:eJ K H mu d v)(h:sn d=Z k):v=kV k:=by
 cases r with
 |int i=>cases h;rfl
 |str x=>cases h;rfl
 |_=>cases h
end
section
variable{κ:Type} [DecidableEq κ] {K:Fg1}{H:Hp}{mu:List dE}
theorem KR.length:∀{ks:List (κ×D)} {ws:List (κ×V)},KR K H mu ks ws->ks.length=ws.length:=λh=>Paired.length h
theorem KR.look{k:κ}:∀ {ks:List (κ×D)} {ws:List (κ×V)},KR K H mu ks ws ->
  (∀d,d2 ks k=Z d -> ∃v,im ws k=Z v/\eJ K H mu d v)/\(d2 ks k=Y->im ws k=Y):=by
 intro ks ws h
 induction h with
 |nil=>exact⟨λd h=>by simp[d2]at h,λ_=>rfl⟩
 | @cons p q ks ws r t ih=>
  obtain⟨a,f⟩:=p;obtain⟨j,c⟩:=q;obtain⟨e,r⟩:=r;dsimp only at e r;subst e;obtain⟨h1,h2⟩:=ih;by_cases b:a=k
  ·subst b;refine⟨λd h=>?_,λh=>?_⟩
   ·have:f=d:=by simpa[d2]using h
    subst this;exact⟨c,by simp[im],r⟩
   ·simp[d2]at h
  ·have g:d2 ((a,f)::ks) k=d2 ks k:=by simp[d2,bc,b]
   have i:im ((a,c)::ws) k=im ws k:=by simp[im,bc,b]
   rw[g,i];exact⟨h1,h2⟩
theorem KR.any{k:κ}:∀{ks:List (κ×D)} {ws:List (κ×V)},KR K H mu ks ws->(ks.any λp=>decide (p.1=k))=ws.any λp=>decide (p.1=k):=by
 intro ks ws h
 induction h with
 |nil=>rfl
 |cons r t ih=>rw[bd,bd,ih,r.1]
theorem KR.repl{k:κ}{d:D}{v:V}(q:eJ K H mu d v):∀ {ks:List (κ×D)} {ws:List (κ×V)},KR K H mu ks ws ->
  KR K H mu (ks.map λp=>if p.1=k then(p.1,d)else p) (ws.map λp=>if p.1=k then(p.1,v)else p):=by
 intro ks ws h
 induction h with
 |nil=>exact .nil
 | @cons a b ks ws r t ih=>
  refine .cons ?_ ih;obtain⟨e,r⟩:=r;dsimp only;by_cases h:a.1=k
  ·rw[ak h,ak (e ▸ h)];exact⟨e,q⟩
  ·rw[aj h,aj (e ▸ h)];exact⟨e,r⟩
theorem KR.snoc{k:κ}{d:D}{v:V}(q:eJ K H mu d v):∀{ks:List (κ×D)} {ws:List (κ×V)},KR K H mu ks ws->KR K H mu (ks++[(k,d)]) (ws++[(k,v)]):=by
 intro ks ws h
 induction h with
 |nil=>exact .cons ⟨O,q⟩ .nil
 |cons r t ih=>exact .cons r ih
theorem KR.put{k:κ}{d:D}{v:V}(q:eJ K H mu d v){ks:List (κ×D)}{ws:List (κ×V)}(h:KR K H mu ks ws):KR K H mu (e6 ks k d) (ic ws k v):=by
 unfold e6 ic;rw[h.any];split
 ·exact h.repl q
 ·exact h.snoc q
end
noncomputable def uC:G2:=λd e S=>match e with
 | .ref n=>match S[n]? with
  |some (.dct kvs)=>(sn d).map λk=>(.bl (d2 kvs k).isSome,S)
  |_=>FP d e S
 |_=>FP d e S
noncomputable def iC:G2:=λd e S=>match e with
 | .ref n=>match S[n]? with
  |some (.dct kvs)=>(sn d).map λk=>(.bl (!(d2 kvs k).isSome),S)
  |_=>k9 d e S
 |_=>k9 d e S
noncomputable def lc:G2:=λd e S=>match d with
 | .ref n=>match S[n]? with
  |some (.dct kvs)=>(sn e).bind λk=>(d2 kvs k).map λx=>(x,S)
  |_=>Aa d e S
 |_=>Aa d e S
noncomputable def lH:G3:=λo i v S=>match o with
 | .ref n=>match S[n]? with
  |some (.dct kvs)=>(sn i).bind λk=>if kvs.length<dL then Z (.non,S.set n (.dct (e6 kvs k v)))else Y
  |_=>jF o i v S
 |_=>jF o i v S
section
variable{X:Cx}
theorem m3{K:Fg1}{H:Hp}{mu:List dE}{S:Sto}(hs:Sim K H mu S){n:Nat}{a:dE}{kvs:List (Key×D)}{k:Key}{y:V}(hn:mu[n]? = some a)(he:S[n]? = some (.dct kvs))(hy:y=kV k):
  ∃o:Option V,n3 H a y o/\(∀d,d2 kvs k=Z d -> ∃v,o=Z v/\eJ K H mu d v)/\(d2 kvs k=Y->o=Y)/\o.isSome=(d2 kvs k).isSome:=by
 obtain⟨ws,c,f⟩:=hs.dct he hn;subst hy;obtain⟨h1,h2⟩:=f.look (k:=k);refine⟨im ws k,n3.k c,h1,h2,?_⟩;cases e:d2 kvs k with
 |none=>rw[h2 e];rfl
 |some d=>obtain⟨v,b,_⟩:=h1 d e;rw[b];rfl
theorem GC(p:X.A.units+64<cLine):gp X (compareOp .In) (r2 X.K (b2 uC)):=by
 intro ag s σ H x y u w Q I l j h;obtain⟨mu,S,d,e,r,f,i,b,c,a,hc⟩:=oo h;have back:FP d e S=Z (r,f)->dM (model X.prog X.w) X.A (compareOp .In u w) (EP X ag σ Q) X.xe s:=λa=>IG p ag s σ H x y u w Q I l j ⟨mu,S,[d,e],r,f,.cons i (.cons b .nil),c,a,hc⟩;unfold uC at a;split at a
 ·rename_i n;split at a
  ·rename_i kvs t;obtain⟨k,v,a⟩:=oM1.mp a;cases a;cases b with
   |ref m=>
    cases j;obtain⟨o,g,_,_,hi⟩:=m3 c m t (ko i v);exact IV (by lia) I g l λs' q=>⟨.bl o.isSome,H,q,O,by rw[hi];exact hc.now (.bl _) c⟩
  ·exact back a
 ·exact back a
theorem zl(p:X.A.units+64<cLine):gp X (compareOp .NotIn) (r2 X.K (b2 iC)):=by
 intro ag s σ H x y u w Q I l j h;obtain⟨mu,S,d,e,r,f,i,b,c,a,hc⟩:=oo h;have back:k9 d e S=Z (r,f)->dM (model X.prog X.w) X.A (compareOp .NotIn u w) (EP X ag σ Q) X.xe s:=λa=>BH p ag s σ H x y u w Q I l j ⟨mu,S,[d,e],r,f,.cons i (.cons b .nil),c,a,hc⟩;unfold iC at a;split at a
 ·rename_i n;split at a
  ·rename_i kvs t;obtain⟨k,v,a⟩:=oM1.mp a;cases a;cases b with
   |ref m=>
    cases j;obtain⟨o,g,_,_,hi⟩:=m3 c m t (ko i v);exact Cy (by lia) I g l λs' q=>⟨.bl (!o.isSome),H,q,O,by rw[hi];exact hc.now (.bl _) c⟩
  ·exact back a
 ·exact back a
theorem FU(P:X.A.units+64<cLine):Di X (r2 X.K (b2 lc)):=by
 intro value b ag s σ H x y v u Q I w C h m;obtain⟨mu,S,d,e,r,B,t,l,p,c,hc⟩:=oo h;have back:Aa d e S=Z (r,B)->dM (model X.prog X.w) X.A (subscriptTail value b v u) (EP X ag σ Q) X.xe s:=λc=>Ia value b ag s σ H x y v u Q I w C ⟨mu,S,[d,e],r,B,.cons t (.cons l .nil),p,c,hc⟩ m;unfold lc at c;split at c
 ·rename_i n;split at c
  ·rename_i kvs D;obtain⟨k,K,c⟩:=oB1.mp c;obtain⟨z,G,c⟩:=oM1.mp c;cases c;cases t with
   | @ref _ a ao=>
    cases w;obtain⟨o,g,h1,_,_⟩:=m3 p ao D (ko l K);obtain⟨au,E,F⟩:=h1 _ G;subst E;have A:=sP I g;unfold subscriptTail;refine wB1 ?_;rw[getitemInPython_of_ne A.not_modules];refine wB1 (wpAny_specialOf A PySem.F.slot_dict_getitem.lookup ?_);have i:dM (model X.prog X.w) X.A (subscripted b J (.ref a) u) (λr f=>dM (model X.prog X.w) X.A (letTemporaryGo value (.ref a) r >>= λ_=>pure r) (EP X ag σ Q) X.xe f) X.xe s:=by
     rw[m];exact wpAny_operating (wpAny_mono (xp (by lia) I g C λam N L q=>(⟨au,H,L,q,hc.now F p⟩:EP X ag σ Q am N)) (λr f j=>wB1 (wpAny_letTemporaryGo (wP1 j))) λ_ _ x=>x)
    first
     |exact wP1 (wB1 i)
     |exact wB1 i
     |exact i
  ·exact back c
 ·exact back c
theorem DM(L:X.A.units+64<cLine):uP X (rU X.K (b3 lH)):=by
 intro ag s σ H o i v f z u Q I r x m h;obtain⟨mu,S,ds,d,y,B,b,a,hc⟩:=id h;cases B with
 |cons g A=>cases A with
  |cons w D=>cases D with
   |cons j am=>
    cases am;rename_i q l t;dsimp only[b3]at a;have back:jF q l t S=Z (d,y)->dM (model X.prog X.w) X.A (setItem f z u) (λ_ s'=>∃H',Inv X ag σ H' s'/\Q H') X.xe s:=λa=>Gg ag s σ H o i v f z u Q I r x m ⟨mu,S,[q,l,t],d,y,.cons g (.cons w (.cons j .nil)),b,a,hc⟩;unfold lH at a;split at a
    ·rename_i n;split at a
     ·rename_i kvs C;obtain⟨k,F,a⟩:=oB1.mp a;split at a
      ·rename_i K;cases a;cases g with
       |ref e=>
        cases r;obtain⟨ws,c,p⟩:=b.dct C e;have G:=ko w F;subst G;refine xn (by lia) I (xI.k c (by rw[<- p.length];exact K)) x m λs' E=>⟨_,E,?_⟩;have put:Ext mu mu H (upd H _ (.dK (ic ws k v))):=Ext.put c trivial (gM1 e);exact hc _ mu put (b.put e c trivial ⟨_,d4,(p.put j).ext put⟩)
      ·cases a
     ·exact back a
    ·exact back a
noncomputable def Cn:G2:=λd e S=>match e with
 | .non=>Z (.bl (oP d),S)
 | .bl b=>match d with
  | .bl c=>Z (.bl (c == b),S)
  |_=>Y
 |_=>Y
noncomputable def g9:G2:=λd e S=>match e with
 | .non=>Z (.bl (!oP d),S)
 | .bl b=>match d with
  | .bl c=>Z (.bl (!(c == b)),S)
  |_=>Y
 |_=>Y
theorem GA:gp X (compareOp .Is) (r2 X.K (b2 Cn)):=by
 intro ag s σ H x y u w Q I k i h;obtain⟨mu,S,d,e,r,l,g,a,j,f,hc⟩:=oo h;cases e with
 |non=>exact GB ag s σ H x y u w Q I k i ⟨mu,S,[d,.non],r,l,.cons g (.cons a .nil),j,f,hc⟩
 |bl b=>
  cases d with
  |bl c=>
   cases f;cases g;cases a;cases k;cases i;exact is_bool ⟨.bl (c == b),H,I,O,hc.now (.bl _) j⟩
  |_=>cases f
 |_=>cases f
theorem mW:gp X (compareOp .IsNot) (r2 X.K (b2 g9)):=by
 intro ag s σ H x y u w Q I k i h;obtain⟨mu,S,d,e,r,l,g,a,j,f,hc⟩:=oo h;cases e with
 |non=>exact Er ag s σ H x y u w Q I k i ⟨mu,S,[d,.non],r,l,.cons g (.cons a .nil),j,f,hc⟩
 |bl b=>
  cases d with
  |bl c=>
   cases f;cases g;cases a;cases k;cases i;exact isnot_bool ⟨.bl (!(c == b)),H,I,O,hc.now (.bl _) j⟩
  |_=>cases f
 |_=>cases f
noncomputable def zE:FE:=λ_ S=>Z (.ref S.length,S++[.dct []])
theorem xY{pos:Pos}:XE X (.Dict [] [] pos) zE:=⟨eU y2 <| by
 rintro σ H Q ⟨r,mu,S,d,e,f,b,c,hc⟩ p a;cases c;exact hc _ _ (mu++[p]) (Ext.new_ a) (.ref (fZ b.len p)) (b.new a ⟨[],d4,.nil⟩)⟩
noncomputable def B0:List (FE×FE)->Ev->Sto->Option (List (D×D)×Sto)
 |[],_,S=>Z ([],S)
 |(a,b)::l,r,S=>(a r S).bind λp=>(b r p.2).bind λq=>(B0 l r q.2).map λt=>((p.1,q.1)::t.1,t.2)
noncomputable def vE:List (D×D)->Option (List (Key×D))
 |[]=>Z []
 |(k,d)::l=>(sn k).bind λk=>(vE l).map λt=>(k,d)::t
noncomputable def r9(l:List (FE×FE)):FE:=λr S=>(B0 l r S).bind λp=>(vE p.1).bind λkvs=>if kvs.length<=15 then Z (.ref p.2.length,p.2++[.dct (kvs.foldl (λacc kv=>e6 acc kv.1 kv.2) [])])else Y
structure XP (X:Cx)(pos:Pos)(ks:List (Option Expr))(vs:List Expr)(l:List (FE×FE)):Prop where
 h:HB X pos ks vs (l.map λp=>(tM X.K p.1,tM X.K p.2))
theorem uT{pos:Pos}:XP X pos [] [] []:=⟨Bq⟩
theorem gi{pos:Pos}{k v:Expr}{ks:List (Option Expr)}{vs:List Expr}{a b:FE}{l:List (FE×FE)}(hk:XE X k a)(hv:XE X v b)(t:XP X pos ks vs l):XP X pos (Z k::ks) (v::vs) ((a,b)::l):=⟨yS hk.h hv.h t.h⟩
theorem yR{K:Fg1}{σ:L2.St}:∀ {l:List (FE×FE)} {r:Ev} {mu:List dE} {H:Hp} {S e:Sto} {ps:List (D×D)} {Q:List (V×V)->Hp->Prop},fJ K H mu r σ->Sim K H mu S->B0 l r S=some (ps,e) ->
  (∀vs H' mu',Ext mu mu' H H'->Paired (λ(p:D×D) (q:V×V)=>eJ K H' mu' p.1 q.1/\eJ K H' mu' p.2 q.2) ps vs->Sim K H' mu' e->Q vs H')->pK (l.map λp=>(tM K p.1,tM K p.2)) σ H Q
 |[],r,mu,H,S,e,ps,Q,he,hs,c,hc=>by cases c;exact hc [] H mu (.refl _ _) .nil hs
 |(a,b)::l,r,mu,H,S,e,ps,Q,he,hs,c,hc=>by
  obtain⟨⟨d,j⟩,m,c⟩:=oB1.mp c;obtain⟨⟨w,y⟩,o,c⟩:=oB1.mp c;obtain⟨⟨t,E⟩,s,c⟩:=oM1.mp c;cases c;refine⟨r,mu,S,d,j,he,hs,m,λv H1 mu1 i n k=>⟨r,mu1,j,w,y,he.ext i,k,o,λC H2 x g r2 A=>?_⟩⟩;refine yR ((he.ext i).ext g) A s λvs B f h u z=>hc _ B f ((i.trans g).trans h) (.cons ⟨(n.ext g).ext h,r2.ext h⟩ u) z
theorem zN{K:Fg1}{H:Hp}{mu:List dE}:∀ {ps:List (D×D)} {vs:List (V×V)} {kvs:List (Key×D)},Paired (fun (p:D×D) (q:V×V)=>eJ K H mu p.1 q.1/\eJ K H mu p.2 q.2) ps vs->vE ps=some kvs ->
  ∃ws:List (Key×V),vs=ws.map (λc=>(kV c.1,c.2))/\KR K H mu kvs ws:=by
 intro ps vs kvs g h
 induction g generalizing kvs with
 |nil=>cases h;exact⟨[],O,.nil⟩
 | @cons a b ps vs q t ih=>
  obtain⟨k,d⟩:=a;obtain⟨m,f⟩:=b;obtain⟨j,l,h⟩:=oB1.mp h;obtain⟨rest,i,h⟩:=oM1.mp h;cases h;obtain⟨ws,e,r⟩:=ih i;have:=ko q.1 l;dsimp only at this;subst this;exact⟨(j,f)::ws,by rw[mP1,<- e],.cons ⟨O,q.2⟩ r⟩
theorem zx{K:Fg1}{H:Hp}{mu:List dE}:∀{kvs:List (Key×D)} {ws:List (Key×V)} {acc:List (Key×D)} {acw:List (Key×V)},KR K H mu kvs ws->KR K H mu acc acw->KR K H mu (kvs.foldl (λacc c=>e6 acc c.1 c.2) acc) (iz acw ws):=by
 intro kvs ws acc acw f h
 induction f generalizing acc acw with
 |nil=>exact h
 | @cons a b kvs ws r t ih=>
  obtain⟨k,d⟩:=a;obtain⟨g,v⟩:=b;obtain⟨e,r⟩:=r;dsimp only at e r;subst e;show KR K H mu (kvs.foldl _ (e6 acc k d)) (iz (ic acw k v) ws);exact ih (h.put r)
theorem ra{pos:Pos}{ks:List (Option Expr)}{vs:List Expr}{l:List (FE×FE)}(h:XP X pos ks vs l)(m:ks.all (·.isSome)=M:=by rfl)(I:ks.length=vs.length:=by rfl)(h0:ks≠[]:=by(intro z;cases z))(x:ks.length<=15:=by decide):XE X (.Dict ks vs pos) (r9 l):=
 ⟨eU (Bz h.h m I h0 x) <| by
  rintro σ H Q ⟨r,mu,S,d,R,K,D,f,hc⟩ p i;obtain⟨⟨ps,F⟩,am,f⟩:=oB1.mp f;obtain⟨kvs,ao,f⟩:=oB1.mp f;dsimp only at f;split at f
  ·rename_i s;cases f;have A:Ext mu mu H (upd H p (.dK [])):=Ext.fresh i;refine yR (K.ext A) (D.fresh i) am fun vs H1 mu1 j L g=>?_;obtain ⟨v,k⟩:=j.held (a:=p) (o:=.dK []) d4 (D.notin i);obtain ⟨ws,N,rk⟩:=zN L ao;refine ⟨v,ws,N,by rw [<- rk.length];exact s,?_⟩;have put:Ext (p::mu1) (p::mu1) H1 (upd H1 p (.dK (iz [] ws))):=Ext.put v trivial mS1;have au:=g.aside put.inner k;have y:Ext mu (mu1++[p]) H (upd H1 p (.dK (iz [] ws))):=by
    refine⟨j.pre.trans (bw _ _),λb o e n=>?_,λb ys e=>put.tup b ys (j.tup b ys (A.tup b ys e)),λb o u e=>put.frz b o u (j.frz b o u (A.frz b o u e)),λb C=>?_⟩
    ·have G:b≠p:=eD e i;rw[dY G];exact j.old b o (by rw[dY G];exact e) n
    ·rcases aG.mp C with z|z
     ·rcases j.new b z with q|q
      ·exact .inl q
      ·by_cases t:b=p
       ·exact .inr (by rw[t];exact i)
       ·rw[dY t]at q;exact .inr q
     ·have:b=p:=by simpa using z
      exact .inr (by rw[this];exact i)
   have w:=zx rk (acc:=[]) (acw:=[]) .nil;refine hc _ _ (mu1++[p]) y (.ref (fZ g.len p)) ⟨by rw[lA1,lA1,g.len];rfl,?_,λn o b h1 h2=>?_⟩
   ·rw[bB];refine⟨g.nd,by simp,λb P c hc e=>?_⟩;have:c=p:=by simpa using hc
    subst this;subst e;exact k P
   ·by_cases E:n<F.length
    ·rw[gL1 E]at h1;rw[gL1 (by rw[g.len];exact E)]at h2;exact(au.ob n o b h1 h2).mor [p]
    ·have B:n=F.length:=by
      have:=(gE1.mp h1).1;rw[lA1]at this;simp at this;lia
     subst B;rw[gR1 (nR1 _)]at h1;rw[<- g.len,gR1 (nR1 _)]at h2;simp at h1 h2;subst h1;subst h2;exact⟨_,d4,KR.mor [p] (Paired.mapP w λ_ _ z=>⟨z.1,z.2.exw put.inner⟩)⟩
  ·cases f⟩
end
section
variable{K:Fg1}{H H':Hp}{mu mu':List dE}{S:Sto}
end
theorem l6{X:Cx}(i j:Nat){x y:Str}{a b:Expr}{m:FA}{k l pt pos:Pos}{kt k2 pt2}(hc:X.calm=true)(hN:X.N.Nodup)(hi:X.N[i]? = some x)(t:X.N[j]? = some y)(n:i≠j)(hx:X.env.scope.names.lookup x=some .local)(hy:X.env.scope.names.lookup y=some .local)(ha:XA X [a,b] m)(hw:swappedStores [.Tuple [.Name x k,.Name y l] kt pt] (.Tuple [a,b] k2 pt2) X.env=pure (some [x,y]):=by rfl)(hs:swapsWithSole [.Tuple [.Name x k,.Name y l] kt pt] (.Tuple [a,b] k2 pt2) pos.line X.env=pure false:=by rfl):
  XS X (.Assign [.Tuple [.Name x k,.Name y l] kt pt] (.Tuple [a,b] k2 pt2) pos) (eh (eQ m) (gT 2 (gCs (gN i) (gCs (gN j) gNl)))):=
 ⟨hH (D1 hc hN hi t n hx hy ha.h hw hs) <| by
  rintro E σ H ⟨r,mu,S,f,w,B,o,hs,h,hc⟩;obtain⟨⟨d,A⟩,e,h⟩:=oB1.mp h;obtain⟨⟨r2,z⟩,c,h⟩:=oB1.mp h;cases h;obtain⟨⟨ds,C⟩,u,e⟩:=oB1.mp e;dsimp only at e;split at e
  ·cases e;refine⟨r,mu,S,ds,_,o,hs,u,λvs H1 mu1 p g q=>?_⟩;dsimp only at c;rw[gT]at c;split at c
   ·cases g with
    |nil=>cases c
    |cons s g=>cases g with
     |nil=>cases c
     |cons v g=>cases g with
      |nil=>
       cases c;exact⟨_,_,O,hc _ H1 mu1 p (((o.ext p).set s).set v) q⟩
      |cons _ _=>cases c
   ·cases c
  ·cases e⟩
noncomputable def Ac:G2:=λd e S=>match d,e with
 | .int i,.int j=>Z (.int (i+j),S)
 |_,_=>Y
theorem Cb{X:Cx}:H7 X .Add (r2 X.K (b2 Ac)):=by
 intro ag s σ H x y v u Q I k f h;obtain⟨mu,S,d,e,r,l,c,b,g,a,hc⟩:=oo h;unfold Ac at a;split at a
 ·rename_i i j;cases a;cases c;cases b;exact Cc ag s σ H _ _ v u Q I k f ⟨i,j,O,O,hc.now (.int _) g⟩
 ·cases a
end Mi
namespace HT
open PySem PySem.Spec PyProof.Rows
variable{prog:dF}{w:dH}{A:dG}{E:dB->dD->Prop}{s:dD}
theorem jo{t sl:dE}{items:Array dB}{e vu:dB}{lo hi:Option Int}{Q:dB->dD->Prop}(ht:IsTup s.heap t items)(hs:s.heap.IsSliceOf sl e vu .none)(pl:IsPart e lo)(g:IsPart vu hi)(hw:sIx items.size 0 lo=0/\sIx items.size items.size hi=items.size)(h:Q (.ref t) s):dM (model prog w) A (getItem (.ref t) (.ref sl)) Q E s:=by
 obtain⟨i,d,c,f⟩:=id hs;have b:s.TypeIs (.ref sl) "slice":=⟨i,d,c⟩;unfold getItem
 try with_reducible refine wpAny_holding ?_
 first|refine wB1 (wP1 ?_)|skip
 refine wB1 (wpAny_sequenceKey ht.typeIs (by decide) ?_);refine wB1 (wpAny_callSpecial?_slot (name:=Str.ofString "__getitem__") ht.typeIs PyProof.Rows.slot_tuple_getitem
  (wE1 PyProof.Rows.slot_tuple_getitem ht.typeIs entry_tuple_getitem ?_ (args_tuple_getitem _ _)))
 show dM _ _ (Builtin.Tuple.tupleItemsOf (.ref t) >>= _) _ _ s;refine wB1 (tupleItemsOf_ ht ?_);refine wB1 (wpAny_typeOf b ?_);rw[ak (by decide)];refine wB1 (hU hs pl g ?_);have a:((((sIx items.size 0 lo:Nat):Int) == 0&&(1:Int) == 1&&(sIx items.size items.size hi-sIx items.size 0 lo) == items.size)=M):=by
  rw[hw.1,hw.2];simp
 show dM _ _ (if(((sIx items.size 0 lo:Nat):Int) == 0&&(1:Int) == 1&&(sIx items.size items.size hi-sIx items.size 0 lo) == items.size)=M then _ else _) _ _ s;rw[ak a];refine wB1 ?_;unfold Builtin.Tuple.tupleIsExact;refine wB1 (wpAny_typeOf ht.typeIs (wP1 ?_));rw[ak (by decide)]
 first
  |exact wB1 (wpAny_rule (wP1 ⟨_,rfl,wP1 h⟩))
  |exact wB1 (wpAny_rule (wB1 (wP1 ⟨_,rfl,wP1 h⟩)))
end HT
namespace Mi
open PySem PySem.Spec PyProof.Rows L2
noncomputable def IA(K:Fg1):V->Option Int->Option Int->Hp->VK->Prop:=λx lo hi H Q=>∃a xs,x = .ref a/\jm K H a xs/\(HT.sIx xs.length 0 lo=0/\HT.sIx xs.length xs.length hi=xs.length)/\Q (.ref a) H
section
variable{X:Cx}
theorem Ba:AV X (IA X.K):=by
 intro ag s σ H x v k vu lo hi sl Q I i g pl e h;obtain⟨a,xs,rfl,f,j,q⟩:=h;cases i;obtain⟨c,r,d,l⟩:=I.tuple f;have b:c.toArray.size=xs.length:=by rw[sT1];exact r.length.symm
 refine⟨"tuple",_,PyProof.Rows.slot_tuple_getitem.lookup,d.typeIs,?_⟩;exact HT.jo d g pl e (by rw[b];exact j) ⟨.ref a,H,I,O,q⟩
noncomputable def yx(S:Sto)(d:D)(lo hi:Option Int):Option (D×Sto):=(d6 S d).map λp=>if p.1=M then(.ref S.length,S++[.lst (Mi.sT p.2 lo hi)])else(.tup (Mi.sT p.2 lo hi),S)
noncomputable def wS(m:FE)(lo hi:FO):FE:=λr S=>(m r S).bind λp=>(lo r p.2).bind λa=>(hi r a.2).bind λb=>yx b.2 p.1 a.1 b.1
theorem xr{xs:List D}{lo hi:Option Int}(h:HT.sIx xs.length 0 lo=0/\HT.sIx xs.length xs.length hi=xs.length):Mi.sT xs lo hi=xs:=by
 unfold Mi.sT;rw[h.1,h.2,bZ,Nat.sub_zero,b4]
theorem tO{e:Expr}{lo hi:Option Expr}{m:FE}{a b:FO}{pos p2:Pos}(h:XE X e m)(N:XO X lo a)(am:XO X hi b):XE X (.Subscript e (.Slice lo hi Y p2) pos) (wS m a b):=
 ⟨eU (y0 (AV.or Ba (AV.or DI Bb)) h.h N.h am.h) <| by
  rintro σ H Q ⟨r,mu,S,d,P,o,I,f,hc⟩;obtain⟨⟨L,B⟩,D,f⟩:=oB1.mp f;obtain⟨⟨l,A⟩,F,f⟩:=oB1.mp f;obtain⟨⟨n,au⟩,G,f⟩:=oB1.mp f;refine⟨r,mu,S,L,B,o,I,D,λv H1 mu1 x E C=>?_⟩;refine⟨r,mu1,B,l,A,o.ext x,C,F,λH2 w s ao=>?_⟩;refine⟨r,w,A,n,au,(o.ext x).ext s,ao,G,λR g z j=>?_⟩;obtain⟨⟨k,xs⟩,K,f⟩:=oM1.mp f;have y:=(x.trans s).trans z;obtain⟨c,vs,rfl,q,t⟩:=ev ((E.ext s).ext z) j K;cases k with
  |true=>
   cases f;right;right;exact⟨c,vs,O,q,λp i=>hc _ _ (g++[p]) (y.trans (Ext.new_ i)) (.ref (fZ j.len p)) (j.newL (v6 t l n) i)⟩
  |false=>
   simp only[bF1,if_false]at f;cases f;by_cases u:HT.sIx xs.length 0 l=0/\HT.sIx xs.length xs.length n=xs.length
   ·left;rw[xr u]at hc;exact⟨c,vs,O,q,by rw[<- t.length];exact u,hc _ _ g y (.tup q t) j⟩
   ·right;left;exact⟨c,vs,O,q,by rw[<- t.length];exact u,λp i=>hc _ _ g (y.trans (Ext.fresh i)) (.tup (jm.of d4) ((v6 t l n).ext (Ext.fresh i))) (j.fresh i)⟩⟩
end
mutual
inductive gD (h:dN):TK->dB->Prop
 |non:gD h .non .none
 |int (i t):gD h (.int i) (.int i t)
 |tup {a o items n xs}:h.get? a=some o->o.cls = .type "tuple"->o.data = .seq items n->gO h xs items.toList->gD h (.tup xs) (.ref a)
inductive gO (h:dN):List TK->List dB->Prop
 |nil:gO h [] []
 |cons {k v ks vs}:gD h k v->gO h ks vs->gO h (k::ks) (v::vs)
end
section
variable{prog:dF}{w:dH}{A:dG}{E:dB->dD->Prop}{s:dD}
theorem rG{Q:Int->dD->Prop}(h:Q 0xFCA86420 {s with toks:=s.toks+1}):dM (model prog w) A (pyHash .none) Q E s:=by
 have a:s.TypeIs .none "NoneType":=rfl;unfold pyHash
 first|unfold pyHashByItsType|skip
 have b:[Value.none].any Value.onHeap=J:=rfl;refine wB1 ?_;rw[cRoomFor,aj (by rw[b];exact aK)];refine wP1 ?_;refine wB1 (wpAny_specialOf a F.slot_NoneType_hash.lookup ?_);show dM _ _ (if(Z (Value.builtin "NoneType.__hash__") == Z Value.none)=M then _ else _) Q E s;rw[aj (by rw[beq_builtin_none];exact aK)];refine wB1 (wpAny_specialOf a F.slot_NoneType_hash.lookup ?_);show dM _ _ (callSpecialIfBoundUnlessNone? .none "__hash__" _ >>= _) Q E s;refine wB1 (wpAny_callSpecialIfBoundUnlessNone?_slot a F.slot_NoneType_hash (wE1 F.slot_NoneType_hash a F.entry_NoneType_hash (show dM _ _ (retInt 0xFCA86420) _ _ s from wpAny_ret_mkInt ?_) (F.args_NoneType_hash_1 _)));exact wP1 h
noncomputable def qL(prog:dF)(w:dH)(k:TK):Prop:=∀{A:dG} {E:dB->dD->Prop} {s:dD} {v:dB} {Q:Int->dD->Prop},A.units+k.dep<cLine->gD s.heap k v->Q k.hash {s with toks:=s.toks+k.draws}->dM (model prog w) A (pyHash v) Q E s
theorem gO.split{h:dN}:∀{ks:List TK} {vs:List dB},gO h ks vs->ks.length=vs.length:=λa=>a.rec (motive_1:=λ_ _ _=>True) (motive_2:=λks vs _=>ks.length=vs.length) trivial (λ_ _=>trivial) (λ_ _ _ _ _=>trivial) O (λ_ _ _ ih=>congrArg (· + 1) ih)
theorem zW{xs:List TK}(all:∀k∈xs,qL prog w k):qL prog w (.tup xs):=by
 intro A E s v Q u t h;cases t with
 | @tup a o l n _ p hc r hi=>
  have g:s.TypeIs (.ref a) "tuple":=⟨o,p,hc⟩;rw[TK.dep]at u;unfold pyHash
  first|unfold pyHashByItsType|skip
  first|refine wB1 (wpAny_cRoomFor_or (.inr (by lia)) ?_)|skip
  refine wB1 (wpAny_specialOf g F.slot_tuple_hash.lookup ?_);show dM _ _ (if(Z (Value.builtin "tuple.__hash__") == Z Value.none)=M then _ else _) Q E s;rw[aj (by rw[beq_builtin_none];exact aK)];refine wB1 (wpAny_specialOf g F.slot_tuple_hash.lookup ?_);show dM _ _ (callSpecialIfBoundUnlessNone? (.ref a) "__hash__" _ >>= _) Q E s;refine wB1 (wpAny_callSpecialIfBoundUnlessNone?_slot g F.slot_tuple_hash (wE1 F.slot_tuple_hash g F.entry_tuple_hash ?_ (F.args_tuple_hash_1 _)));show dM _ _ (Builtin.Tuple.tupleItemsOf (.ref a) >>= _) _ _ s;refine wB1 (wpAny_tupleItemsOf p r ?_);refine wB1 ?_;rw[<- Array.forIn_toList];refine wpAny_forIn_list _
   (λrest (b:Array Int) s'=>∃done c,xs=done++c/\gO s.heap c rest/\b.toList=TK.hashes done/\s'={s with toks:=s.toks+TK.drawsAll done})
   _ ?_ ?_ _ _ ⟨[],xs,O,hi,O,O⟩
  ·rintro x rest b s' ⟨done,c,e,m,j,rfl⟩;cases m with
   | @cons k _ f _ h1 d=>
    have q:k∈xs:=by rw[e];simp
    refine wB1 (all k q (show A.in1.units+k.dep<cLine by have:=TK.dep_mem q;rw[show A.in1.units=A.units+1 from rfl];lia) h1 ?_)
    first
     |exact wP1 ⟨done++[k],f,by simp[e],d,by rw[TK.hashes_app];simp[j,TK.hashes],by rw[TK.draws_app];simp[TK.drawsAll,bm]⟩
     |exact wB1 (wP1 (wP1 ⟨done++[k],f,by simp[e],d,by rw[TK.hashes_app];simp[j,TK.hashes],by rw[TK.draws_app];simp[TK.drawsAll,bm]⟩))
  ·rintro b s' ⟨done,c,e,m,j,rfl⟩;cases m;rw[aM]at e;subst e;show dM _ _ (retInt (Builtin.Tuple.tupleHashOf b.toList)) _ _ _;rw[j];refine wpAny_ret_mkInt ?_;show dM _ _ (if(decide (-(2:Int)^63<=Builtin.Tuple.tupleHashOf (TK.hashes xs))&&decide (Builtin.Tuple.tupleHashOf (TK.hashes xs)<2^63))=M then _ else _) Q E _;rw[TK.hash,TK.draws]at h;unfold reduceHash at h;by_cases i:(decide (-(2:Int)^63<=Builtin.Tuple.tupleHashOf (TK.hashes xs))&&decide (Builtin.Tuple.tupleHashOf (TK.hashes xs)<2^63))=M
   ·rw[ak i];rw[ak i]at h;exact wP1 (by simpa[bm]using h)
   ·rw[aj i];rw[aj i]at h;exact wB1 (wpAny_rule (wP1 (by simpa[bm]using h)))
mutual
theorem vM:∀k:TK,qL prog w k
 | .non=>λb a h=>by cases a;exact rG h
 | .int i=>λb a h=>by cases a;exact wpAny_pyHash_int h
 | .tup xs=>zW (sC xs)
theorem sC:∀ks:List TK,∀k∈ks,qL prog w k
 |[],k,h=>by simp at h
 |x::xs,k,h=>by
  by_cases e:k=x
  ·rw[e];exact vM x
  ·exact sC xs k ((aF.mp h).resolve_left e)
end
end
theorem gD.inj{h:dN}:∀ {k k':TK} {v:dB},gD h k v->gD h k' v->k=k':=fun e=>e.rec (motive_1:=fun k v _=>∀ k',gD h k' v->k=k') (motive_2:=fun k v _=>∀ k',gO h k' v->k=k')
  (λk' g=>by cases g;rfl) (λ_ _ k' g=>by cases g;rfl)
  (λf m i l ih k' g=>by
   cases g with
   |tup d n c j=>
    rw[f]at d;cases d;rw[i]at c;cases c;rw[ih _ j])
  (λk' g=>by cases g;rfl) (λ_ _ a b k' g=>by cases g with|cons r' t'=>rw[a _ r',b _ t']) _
theorem gD.keeps{h h':dN}{d:dE}{o:Obj}{es ep}(ho:h.get? d=some o)(hd:o.data = .dict es ep)(hs:Heap.SameBut d h h'):∀ {k:TK} {v:dB},gD h k v->gD h' k v:=fun f=>f.rec (motive_1:=fun k v _=>gD h' k v) (motive_2:=fun k v _=>gO h' k v) .non .int
  (λ{a} _ _ _ _ e g c _ ih=>.tup ((hs.2 a (λz=>by subst z;rw[e]at ho;cases ho;rw[c]at hd;cases hd)).trans e) g c ih) .nil (λ_ _ a b=>.cons a b)
theorem gO.at{h:dN}:∀{ks:List TK} {vs:List dB} (j:Nat) (h1:j<ks.length) (h2:j<vs.length),gO h ks vs->gD h ks[j] vs[j]
 |_::_,_::_,0,_,_,.cons r _=>r
 |_::ks,_::vs,j+1,h1,h2,.cons _ t=>gO.at j (by simpa using h1) (by simpa using h2) t
theorem AH{xs ys:List TK}(b:xs.length=ys.length):((af (min xs.length ys.length)).all λj=>decide (xs[j]?=ys[j]?))=decide (xs=ys):=by
 by_cases h:xs=ys
 ·subst h;simp
 ·rw[ai h,List.all_eq_false];have:∃j,xs[j]? ≠ ys[j]?:=Classical.byContradiction λz=>h (b5 λj=>Classical.byContradiction λq=>z ⟨j,q⟩);obtain⟨j,a⟩:=this;refine⟨j,?_,by simpa using a⟩;rw[aB,b,Nat.min_self];apply Classical.byContradiction;intro c;exact a (by rw[b6 (by lia),b6 (by lia)])
theorem He:∀(n:Nat) {k k':TK} {A:dG} {s:dD} {u v:dB},k.dep<=n->A.units+n<cLine->gD s.heap k u->gD s.heap k' v->SeqAt.EqAt A s u v (decide (k=k')):=by
 intro n
 induction n with
 |zero=>
  intro k k' A s u v E U r g;cases r with
  |tup _ _ _ _=>simp[TK.dep]at E
  |non=>
   cases g with
   |non=>simpa using SeqAt.EqAt.same (A:=A) (s:=s) Value.none
   |int i t=>simpa[uF]using jG (A:=A) (s:=s) (y:=.non) (x:=.int i) O ⟨t,O⟩ O O
   |tup e c d t=>simpa using(fh (A:=A) (s:=s) (b:=J) (v:=.non) (u:=.none) ⟨_,e,c,_,d⟩ O O (by lia)).2.1
  |int i t=>
   cases g with
   |non=>simpa[uF]using jG (A:=A) (s:=s) (y:=.int i) (x:=.non) ⟨t,O⟩ O O O
   |int j H=>
    have:=jG (A:=A) (s:=s) (y:=.int i) (x:=.int j) ⟨t,O⟩ ⟨H,O⟩ O O;have e:uF (.int i) (.int j)=decide (TK.int i=TK.int j):=by
     by_cases h:i=j
     ·subst h;simp[uF]
     ·rw[ai (λz=>h (by injection z))];simp[uF,h]
    rw[e]at this;exact this
   |tup e c d q=>simpa using(fh (A:=A) (s:=s) (b:=J) (v:=.int i) (u:=.int i t) ⟨_,e,c,_,d⟩ ⟨t,O⟩ O (by lia)).2.1
 |succ n ih=>
  intro k k' A s u v E U r g;cases r with
  |non=>
   cases g with
   |non=>simpa using SeqAt.EqAt.same (A:=A) (s:=s) Value.none
   |int i t=>simpa[uF]using jG (A:=A) (s:=s) (y:=.non) (x:=.int i) O ⟨t,O⟩ O O
   |tup e c d t=>simpa using(fh (A:=A) (s:=s) (b:=J) (v:=.non) (u:=.none) ⟨_,e,c,_,d⟩ O O (by lia)).2.1
  |int i t=>
   cases g with
   |non=>simpa[uF]using jG (A:=A) (s:=s) (y:=.int i) (x:=.non) ⟨t,O⟩ O O O
   |int j H=>
    have:=jG (A:=A) (s:=s) (y:=.int i) (x:=.int j) ⟨t,O⟩ ⟨H,O⟩ O O;have e:uF (.int i) (.int j)=decide (TK.int i=TK.int j):=by
     by_cases h:i=j
     ·subst h;simp[uF]
     ·rw[ai (λz=>h (by injection z))];simp[uF,h]
    rw[e]at this;exact this
   |tup e c d q=>simpa using(fh (A:=A) (s:=s) (b:=J) (v:=.int i) (u:=.int i t) ⟨_,e,c,_,d⟩ ⟨t,O⟩ O (by lia)).2.1
  | @tup a o f m xs l w p D=>
   cases g with
   |non=>simpa using(fh (A:=A) (s:=s) (b:=J) (v:=.non) (u:=.none) ⟨_,l,w,_,p⟩ O O (by lia)).1
   |int i t=>simpa using(fh (A:=A) (s:=s) (b:=J) (v:=.int i) (u:=.int i t) ⟨_,l,w,_,p⟩ ⟨t,O⟩ O (by lia)).1
   | @tup a2 Q items2 m2 ys K P ao G=>
    by_cases am:a=a2
    ·subst am;have:TK.tup xs=TK.tup ys:=gD.inj (.tup l w p D) (.tup K P ao G);rw[ah this];exact .same _
    ·refine .of_refs am ?_;have au:=D.split;have N:=G.split;have C:=SeqAt.RcAt.tuples (A:=A) (s:=s) (e:=fun j=>decide (xs[j]? = ys[j]?)) ⟨o,l,w,m,p⟩ ⟨Q,K,P,m2,ao⟩ (by lia) (fun j h1 h2=>by
      have I:j<xs.length:=by rw[au];simpa using h1
      have L:j<ys.length:=by rw[N];simpa using h2
      rw[TK.dep]at E;have V:=TK.dep_mem (bU I);have q:=ih (k:=xs[j]) (k':=ys[j]) (A:=A.in1) (s:=s) (by lia) (by show A.units+1+n<cLine;lia) (D.at j I (by simpa using h1)) (G.at j L (by simpa using h2));have e:decide (xs[j]?=ys[j]?)=decide (xs[j]=ys[j]):=by
       rw[gG1 I,gG1 L];simp
      rw[e];simpa using q)
     have S:f.size=xs.length:=by rw[au];simp
     have R:items2.size=ys.length:=by rw[N];simp
     rw[S,R]at C;have F:((af (min xs.length ys.length)).all (λj=>decide (xs[j]?=ys[j]?))&&xs.length == ys.length)=decide (TK.tup xs=TK.tup ys):=by
      by_cases B:xs.length=ys.length
      ·rw[AH B,B,beq_self_eq_true,bO];by_cases h:xs=ys
       ·subst h;simp
       ·rw[ai h,ai (λz=>h (by injection z))]
      ·have T:(xs.length == ys.length)=J:=by simpa using B
       rw[T,Bool.and_false,ai (λz=>B (by injection z with z;rw[z]))]
     rw[F]at C;exact C
theorem yI{prog:dF}{w:dH}:∀(n:Nat) {k:TK} {A:dG} {E:dB->dD->Prop} {s:dD} {v:dB} {Q:Bool->dD->Prop},k.dep<=n->gD s.heap k v->Q M s->dM (model prog w) A (eqIsQuiet n v) Q E s:=by
 intro n
 induction n with
 |zero=>
  intro k A E s v Q c r h;cases r with
  |non=>rw[eqIsQuiet_byValue 0 O];exact wP1 h
  |int i t=>rw[eqIsQuiet_byValue 0 O];exact wP1 h
  |tup _ _ _ _=>simp[TK.dep]at c
 |succ n ih=>
  intro k A E s v Q c r h;cases r with
  |non=>rw[eqIsQuiet_byValue _ O];exact wP1 h
  |int i t=>rw[eqIsQuiet_byValue _ O];exact wP1 h
  | @tup a o b m xs f y q x=>
   have g:s.TypeIs (.ref a) "tuple":=⟨o,f,y⟩;rw[TK.dep]at c;unfold eqIsQuiet;refine wB1 (wpAny_specialOf g F.slot_tuple_eq.lookup ?_);show dM _ _ (isInstance (.ref a) (.type "tuple") >>= _) _ _ s;refine wB1 (wpAny_isInstance g isSubtype_tuple_tuple ?_);simp only[b7,bF1,if_false];refine wB1 (wpAny_seqItems f q ?_);refine wB1 ?_;show dM _ _ (forIn b _ _) _ _ s;rw[<- Array.forIn_toList];refine wpAny_forIn_list _ (λrest r s'=>r.1=Y/\s'=s /\ ∃ks,gO s.heap ks rest/\TK.depAll ks<=n) _ ?_ ?_ _ _ ⟨O,O,xs,x,by lia⟩
   ·rintro v rest r s' ⟨d,rfl,ks,p,j⟩;cases p with
    | @cons l _ e _ u z=>
     rw[TK.depAll]at j;refine wB1 (ih (k:=l) (by lia) u ?_);simp only[b7,bF1,if_false];exact wP1 ⟨O,O,e,z,by lia⟩
   ·rintro⟨B,r2⟩ s' ⟨d,rfl,_⟩;simp only at d;subst d;exact wP1 h
noncomputable def fP(prog:dF)(w:dH):HeapKind prog w TK where
 is:=λh k a=>gD h k (.ref a)/\k.dep<=8
 hash:=TK.hash
 draws:=TK.draws
 room:=λA=>A.units+8<cLine
 inj:=λhx hy=>hx.1.inj hy.1
 keeps:=λx ho hd hs=>⟨x.1.keeps ho hd hs,x.2⟩
 pyHash:=λhu hk h=>vM _ (by have:=hk.2;omega) hk.1 h
 eqBool:=λhu hx hy h=>He 8 hx.2 hu hx.1 hy.1 _ _ _ _ h
 quiet:=λhk h=>yI 8 hk.2 hk.1 h
noncomputable def Ke:G2:=λo v S=>match o,v with
 | .ref n,.ref b=>match S[n]?,S[b]? with
  |some (.lst xs),Z (.lst ys)=>if xs.length+ys.length<=dL then Z (.non,S.set n (.lst (xs++ys)))else Y
  |_,_=>Y
 |_,_=>Y
noncomputable def ql(n:Nat)(k:Int):Nat:=if k<0 then(k+(n:Int)).toNat else min k.toNat n
noncomputable def xc:G3:=λo i v S=>match o,i with
 | .ref n,.int k=>match S[n]? with
  |some (.lst xs)=>if-(2^63)<=k/\k<2^63/\xs.length<dL then Z (.non,S.set n (.lst (xs.take (ql xs.length k)++v::xs.drop (ql xs.length k))))else Y
  |_=>Y
 |_,_=>Y
noncomputable def xh(f:D->D->Option Bool)(x:D):List D->Option (List Bool)
 |[]=>Z []
 |y::ys=>(f y x).bind λb=>(xh f x ys).map (b :: ·)
noncomputable def Ab:G2:=λo x S=>match o with
 | .ref n=>match S[n]? with
  |some (.lst ys)=>(xh (gr S eO) x ys).bind λbs=>if bs.length<2^62 then(bs.findIdx? id).map λj=>(.int (j:Nat),S)else Y
  |_=>Y
 |_=>Y
theorem vU(f:D->D->Option Bool)(x:D):∀{ys:List D} {bs:List Bool},xh f x ys=Z bs->bs.length=ys.length /\ ∀(j:Nat) (y:D) (k:Bool),ys[j]?=Z y->bs[j]?=Z k->f y x=Z k
 |[],bs,h=>by cases h;exact⟨O,λj y k h=>by simp at h⟩
 |y::ys,bs,h=>by
  rw[xh]at h;obtain⟨b,d,h⟩:=oB1.mp h;obtain⟨g,c,h⟩:=oM1.mp h;obtain⟨e,a1⟩:=vU f x c;subst h;refine⟨by simp[e],λj=>?_⟩;cases j with
  |zero=>intro a k h1 h2;simp at h1 h2;subst h1;subst h2;exact d
  |succ j=>intro a k h1 h2;exact a1 j a k (by simpa using h1) (by simpa using h2)
section
open PySem.MeetsSeq PySem.MeetsSeq2 PySem.MeetsSeq3 PySem.SeqRoads2
theorem sB{l:dE}{its:Array dB}{n:Nat}{x:dB}{e:Nat->Bool}{top:Int}{j:Nat}(f:j<its.size)(ht:(j:Int)<top)(c:e j=true):∀ (k i:Nat),i+k=j->(∀ m,i<=m->m<j->e m=false) ->
  Meets (Builtin.«list.index.loop» ⟨[.ref l,x,rawInt i,rawInt top],[]⟩)
   (λA R s=>s.heap.get? l=Z {cls:=.type "list",data:=.seq its n}/\(∀m (h:m<its.size),SeqAt.EqAt A.in1 s its[m] x (e m))/\R (.ok (.ret (.int j s.toks))) {s with toks:=s.toks+1})
 |0,i,hk,hno,prog,w,A,R,⟨hp,g,d,tk,os⟩,⟨hl,he,h⟩=>by
  have o:i=j:=by lia
  subst o
  wp_walk using AutoSeq1.wpAny_loadPart' hl
  rw[show(if(i:Int)<top then its[((i:Nat):Int).toNat]? else Y)=Z its[i] by simp[ht,f]];refine wB1 (he i f prog w _ _ ?_);rw[c]
  wp_walk
  exact h
 |k+1,i,hk,hno,prog,w,A,R,⟨hp,g,d,tk,os⟩,⟨hl,he,h⟩=>by
  have h1:i<its.size:=by lia
  have h2:(i:Int)<top:=by lia
  wp_walk using AutoSeq1.wpAny_loadPart' hl
  rw[show(if(i:Int)<top then its[((i:Nat):Int).toNat]? else Y)=Z its[i] by simp[h1,h2]];refine wB1 (he i h1 prog w _ _ ?_);rw[hno i (nR1 i) (by lia)]
  wp_walk
  rw[show((i:Int)+1)=((i+1:Nat):Int) by push_cast;rfl];have z:=sB (l:=l) (n:=n) (x:=x) f ht c k (i+1) (by lia) (λm a b=>hno m (by lia) b) prog w A R _ ⟨hl,he,h⟩;exact⟨plainId_quiet plain_index_loop _,wD1 entry_index_loop (by rw[Around.under_plainId plain_index_loop _];exact z)⟩
theorem zU{l:dE}{its:Array dB}{n:Nat}{x:dB}{e:Nat->Bool}{j:Nat}(o:j<its.size)(ht:(j:Int)<2^63-1)(c:e j=true)(a:∀ m,m<j->e m=false):
  Meets (Builtin.«list.index» ⟨[.ref l,x],[]⟩)
   (λA R s=>s.heap.get? l=Z {cls:=.type "list",data:=.seq its n}/\(∀m (h:m<its.size),SeqAt.EqAt A.in1 s its[m] x (e m))/\R (.ok (.ret (.int j s.toks))) {s with toks:=s.toks+1}):=by
 intro prog w A R ⟨q,g,d,tk,p⟩ ⟨f,k,h⟩
 wp_walk using AutoSeq1.wpAny_loadPart' f
 rw[show((λi:Int=>if i<0 then max 0 (i+(its.size:Int))else i) ((Y:Option Int).getD 0))=((0:Nat):Int) by simp,show((λi:Int=>if i<0 then max 0 (i+(its.size:Int))else i) ((Y:Option Int).getD (2^63-1)))=2^63-1 by simp];have z:=sB (l:=l) (n:=n) (x:=x) o ht c j 0 (by lia) (λm _ b=>a m b) prog w A R _ ⟨f,k,h⟩;exact⟨plainId_quiet plain_index_loop _,wD1 entry_index_loop (by rw[Around.under_plainId plain_index_loop _];exact z)⟩
end
section
variable{X:Cx}
theorem Iz{K:Fg1}{H:Hp}{Q:VK}{f:G3}{xs:List V}(h:rN K (b3 f) xs H Q):∃x y z mu S d e g r b,xs=[x,y,z]/\eJ K H mu d x/\eJ K H mu e y/\eJ K H mu g z/\Sim K H mu S/\f d e g S=Z (r,b)/\n4 K mu H r b Q:=by
 obtain⟨mu,S,ds,r,b,c,j,a,hc⟩:=h;cases c with
 |nil=>cases a
 |cons q t=>cases t with
  |nil=>cases a
  |cons i t=>cases t with
   |nil=>cases a
   |cons k t=>cases t with
    |nil=>exact⟨_,_,_,mu,S,_,_,_,r,b,O,q,i,k,j,a,hc⟩
    |cons l t=>cases a
theorem FZ(hu:X.A.units+64<cLine):Dh X "list.index" (λx xs H Q=>rN X.K (b2 Ab) (x::xs) H Q):=by
 intro ag s σ H x xs v wq Q I am N h;obtain⟨x',y,mu,S,d,e,V,S',ao,w,r2,k,a,hc⟩:=yE h;cases ao;unfold Ab at a;split at a
 ·rename_i n;split at a
  ·rename_i ys K;obtain⟨bs,au,a⟩:=oB1.mp a;split at a
   ·rename_i r;obtain⟨j,q,a⟩:=oM1.mp a;cases a;cases w with
    |ref U=>
     obtain⟨vs,L,t⟩:=k.lst K U;cases am;obtain⟨u,rfl,B⟩:=N.one;obtain⟨z,b,E,c,hl,e⟩:=I.lstM L;obtain⟨l1,l⟩:=vU _ _ au;have aq:=t.length;have W:=c.length;rw[b8]at q;obtain⟨D,g,o⟩:=q;have f:∀m (a:m<b.toArray.size),SeqAt.EqAt X.A.in1 s b.toArray[m] u (bs[m]?.getD J):=λm a=>by
      have m1:m<b.length:=by simpa using a
      obtain⟨P,T,C⟩:=t.getV (i:=m) (v:=vs[m]'(by lia)) (gG1 (by lia));obtain⟨w',p,R⟩:=c.get (i:=m) (x:=vs[m]'(by lia)) (gG1 (by lia));have m2:m<bs.length:=by lia
      have G:b.toArray[m]=w':=by
       have:=gG1 m1;rw[this]at p;simpa using p
      rw[G,gG1 m2];exact(nv I k eO (A:=X.A.in1) (by show X.A.units+1+60<cLine;lia) C r2 R B (l m P bs[m] T (gG1 m2))).1
     refine call_meets F.slot_list_index ⟨_,e,O⟩ F.entry_list_index (F.args_list_index_2 _ _)
      (zU (n:=E) (e:=λm=>bs[m]?.getD J) (j:=j) (by simp;lia) (by lia) ?_ ?_) ⟨e,f,?_⟩
     ·simp only[gG1 D,b9];simpa using g
     ·intro m a;have m2:m<bs.length:=by lia
      have:=o m a;simp only[gG1 m2,b9];simpa using this
     ·exact⟨.int j,H,I.tok _,⟨_,O⟩,hc.now (.int _) k⟩
   ·cases a
  ·cases a
 ·cases a
theorem CW:Dh X "list.insert" (λx xs H Q=>rN X.K (b3 xc) (x::xs) H Q):=by
 intro ag s σ H x xs v ao Q I r B h;obtain⟨P,y,z,mu,S,d,e,g,E,N,A,o,r2,C,l,b,hc⟩:=Iz h;cases A;unfold xc at b;split at b
 ·rename_i n k;split at b
  ·rename_i ys w;split at b
   ·rename_i m;cases b;cases o with
    |ref i=>
     cases r2;obtain⟨vs,f,t⟩:=l.lst w i;cases r;obtain⟨K,j,rfl,p,D⟩:=B.two;obtain⟨tk,rfl⟩:=p;obtain⟨G,a,q,c,au,e⟩:=I.lstM f;have L:=t.length;have am:=c.length;refine call_meets F.slot_list_insert ⟨_,e,O⟩ F.entry_list_insert (F.args_list_insert_3 _ _ _)
      (AutoSeq1.list_insert_list_int_val_1 _ a.toArray q k tk j (by rw[fitsIndex_both m.1 m.2.1];exact aK) (by rw[sT1];omega)) ⟨e,?_⟩
     have x:=Ext.put (u:=.lst (vs.take (ql ys.length k)++z::vs.drop (ql ys.length k))) f trivial (gM1 i);refine⟨.non,_,I.lset (its':=a.take (ql ys.length k)++j::a.drop (ql ys.length k)) f e ?_ ((c.take _).append (.cons D (c.drop _))) ?_,O,hc _ _ mu x .non (l.putL ((t.take _).append (.cons C (t.drop _))) i f)⟩
     ·rw[show ys.length=a.length by omega];simp[ql];exact ca (by simp)
     ·simp;omega
   ·cases b
  ·cases b
 ·cases b
end
mutual
noncomputable def kD:D->Option TK
 | .non=>Z .non
 | .int i=>Z (.int i)
 | .tup xs=>(GT xs).map .tup
 |_=>Y
noncomputable def GT:List D->Option (List TK)
 |[]=>Z []
 |x::xs=>(kD x).bind λk=>(GT xs).map (k :: ·)
end
noncomputable def keyT:D->Option TK
 | .tup xs=>(GT xs).bind λks=>if(TK.tup ks).dep<=8 then Z (.tup ks)else Y
 |_=>Y
mutual
theorem GU:∀{d:D} {k:TK},kD d=Z k->tkD k=d
 | .non,k,h=>by cases h;rfl
 | .int i,k,h=>by cases h;rfl
 | .tup xs,k,h=>by
  rw[kD]at h;obtain⟨ks,e,h⟩:=oM1.mp h;subst h;rw[tkD,uu e]
 | .bl _,k,h=>by simp[kD]at h
 | .str _,k,h=>by simp[kD]at h
 | .rol _,k,h=>by simp[kD]at h
 | .fn _,k,h=>by simp[kD]at h
 | .ref _,k,h=>by simp[kD]at h
theorem uu:∀{ds:List D} {ks:List TK},GT ds=Z ks->hE ks=ds
 |[],ks,h=>by cases h;rfl
 |x::xs,ks,h=>by
  rw[GT]at h;obtain⟨k,b,h⟩:=oB1.mp h;obtain⟨t,a,h⟩:=oM1.mp h;subst h;rw[hE,GU b,uu a]
end
theorem vF{d:D}{k:TK}(h:keyT d=Z k):tkD k=d/\k.dep<=8 /\ ∃xs,k = .tup xs:=by
 cases d with
 |tup xs=>
  rw[keyT]at h;obtain⟨ks,e,h⟩:=oB1.mp h;split at h
  ·rename_i a;cases h;exact⟨by rw[tkD,uu e],a,ks,O⟩
  ·cases h
 |_=>cases h
section
variable{X:Cx}{ag:List (dE×Obj)}{σ:L2.St}{H:Hp}{s:dD}{mu:List dE}
mutual
theorem uY(I:Inv X ag σ H s):∀(k:TK) {v:V} {u:dB},eJ X.K H mu (tkD k) v->d7 v u->gD s.heap k u
 | .non,v,u,r,q=>by
  rw[tkD]at r;cases r;cases q;exact .non
 | .int i,v,u,r,q=>by
  rw[tkD]at r;cases r;obtain⟨t,rfl⟩:=q;exact .int i t
 | .tup xs,v,u,r,q=>by
  rw[tkD]at r;cases r with
  |tup h t=>
   cases q;obtain⟨b,e,⟨o,a,c,n,d⟩,_⟩:=I.tuple h;exact .tup a c d (by simpa using yk I xs t e)
theorem yk(I:Inv X ag σ H s):∀(ks:List TK) {vs:List V} {a:List dB},d0 X.K H mu (hE ks) vs->ei vs a->gO s.heap ks a
 |[],vs,a,r,q=>by rw[hE]at r;cases r;cases q;exact .nil
 |k::ks,vs,a,r,q=>by
  rw[hE]at r;cases r with
  |cons r t=>cases q with
   |cons q p=>exact .cons (uY I k r q) (yk I ks t p)
end
theorem uf{α β γ δ:Type}{F:α->β->Prop}{G:γ->δ->Prop}{f:α->γ}{g:β->δ}:∀{l₁:List α} {l₂:List β},Paired F l₁ l₂->(∀a b,F a b->G (f a) (g b))->Paired G (l₁.map f) (l₂.map g):=by
 intro a b h g
 induction h with
 |nil=>exact .nil
 |cons r t ih=>exact .cons (g _ _ r) ih
theorem ug{α β:Type}{F:α->β->Prop}:∀{l₁ f:List α} {l₂ e:List β},Paired F l₁ l₂->Paired F f e->Paired F (l₁++f) (l₂++e):=by
 intro a b c d h g
 induction h with
 |nil=>exact g
 |cons r t ih=>exact .cons r ih
theorem KT.length{K:Fg1}:∀{ks:List (TK×D)} {ws:List (TK×dE×dB)},KT K H mu ks ws->ks.length=ws.length:=λh=>Paired.length h
theorem KT.mem{K:Fg1}:∀{ks:List (TK×D)} {ws:List (TK×dE×dB)},KT K H mu ks ws -> ∀x∈ws,x.1.dep<=8/\eJ K H mu (tkD x.1) (.ref x.2.1):=by
 intro ks ws a x h
 induction a with
 |nil=>cases h
 |cons r t ih=>
  rcases aF.mp h with e|e
  ·subst e;rw[<- r.1];exact⟨r.2.1,r.2.2.1⟩
  ·exact ih e
theorem KT.look{K:Fg1}{k:TK}:∀ {ks:List (TK×D)} {ws:List (TK×dE×dB)},KT K H mu ks ws ->
  (∀d,d2 ks k=Z d -> ∃p v,atKey ws k=Z p/\d7 v p.2/\eJ K H mu d v)/\(atKey ws k).isSome=(d2 ks k).isSome:=by
 intro ks ws h
 induction h with
 |nil=>exact⟨λd h=>by simp[d2]at h,O⟩
 | @cons p j ks ws r t ih=>
  obtain⟨a,e⟩:=p;obtain⟨l,a2,c⟩:=j;obtain⟨z,d,q,v,f,r⟩:=r;dsimp only at z q f r;subst z;obtain⟨h1,h2⟩:=ih;by_cases b:a=k
  ·subst b;refine⟨λd h=>?_,by simp[atKey,d2]⟩;have:e=d:=by simpa[d2]using h
   subst this;exact⟨(a2,c),v,by simp[atKey],f,r⟩
  ·have g:d2 ((a,e)::ks) k=d2 ks k:=by simp[d2,bc,b]
   have i:atKey ((a,a2,c)::ws) k=atKey ws k:=by simp[atKey,bc,b]
   rw[g,i];exact⟨h1,h2⟩
theorem KT.put{K:Fg1}{k:TK}{d:D}{v:V}{a:dE}{u:dB}(hk:k.dep<=8)(m:eJ K H mu (tkD k) (.ref a))(i:d7 v u)(q:eJ K H mu d v){ks:List (TK×D)}{ws:List (TK×dE×dB)}(h:KT K H mu ks ws):KT K H mu (e6 ks k d) (storedH ws k a u):=by
 unfold e6 storedH;have e:(ks.any λp=>decide (p.1=k))=(atKey ws k).isSome:=by
  rw[h.look.2];unfold d2;rw[bg,bS,List.find?_isSome,bT]
 rw[e];split
 ·clear e;refine uf h λp w ⟨z,f,g,l,c,j⟩=>?_;unfold putAt;by_cases b:p.1=k
  ·rw[ak b,ak (by rw[<- z];exact b)];exact⟨z,f,g,v,i,q⟩
  ·rw[aj b,aj (by rw[<- z];exact b)];exact⟨z,f,g,l,c,j⟩
 ·exact ug h (.cons ⟨O,hk,m,v,i,q⟩ .nil)
theorem sQ(I:Inv X ag σ H s){a:dE}{xs:List (TK×dE×dB)}{kvs:List (TK×D)}(e:H a=Z (.ext (gb a xs)))(h:KT X.K H mu kvs xs):(a == sysModules)=J/\s.heap.DictOfH (fP X.prog X.w) a xs:=by
 obtain⟨⟨h1,h2,o,es,ep,d,c,f,g⟩,_⟩:=(show eN X.prog X.w H s.heap a (.ext (gb a xs))from I.hok a _ e);exact⟨h1,o,es,ep,d,c,f,g,λx b=>⟨uY I _ (h.mem x b).2 O,(h.mem x b).1⟩,h2⟩
theorem qu{h:dN}{a:dE}{xs:List (TK×dE×dB)}(hd:(a == sysModules)=J)(hm:h.DictOfH (fP X.prog X.w) a xs):eN X.prog X.w H h a (.ext (gb a xs)):=by
 obtain⟨o,es,ep,d,e,i,k,m,g⟩:=hm;refine⟨⟨hd,g,o,es,ep,d,e,i,k⟩,⟨o,d⟩,λp n ⟨a1,a2,o',c,b,b3,l,f,j⟩ st=>⟨a1,a2,o',c,b,st _ b3,l,f,j⟩⟩
end
noncomputable def i3:G2:=λd e S=>match e with
 | .ref n=>match S[n]? with
  |some (.dcT kvs)=>(keyT d).map λk=>(.bl (d2 kvs k).isSome,S)
  |_=>uC d e S
 |_=>uC d e S
noncomputable def fG:G2:=λd e S=>match e with
 | .ref n=>match S[n]? with
  |some (.dcT kvs)=>(keyT d).map λk=>(.bl (!(d2 kvs k).isSome),S)
  |_=>iC d e S
 |_=>iC d e S
noncomputable def dW:G2:=λd e S=>match d with
 | .ref n=>match S[n]? with
  |some (.dcT kvs)=>(keyT e).bind λk=>(d2 kvs k).map λx=>(x,S)
  |some (.dcF kvs)=>(keyT e).bind λk=>(d2 kvs k).map λx=>(x,S)
  |_=>lc d e S
 |_=>lc d e S
noncomputable def i0:G3:=λo i v S=>match o with
 | .ref n=>match S[n]? with
  |some (.dcT kvs)=>(keyT i).bind λk=>if kvs.length<dL then Z (.non,S.set n (.dcT (e6 kvs k v)))else Y
  |some (.dct [])=>match keyT i with
   |some k=>Z (.non,S.set n (.dcT [(k,v)]))
   |none=>lH o i v S
  |_=>lH o i v S
 |_=>lH o i v S
section
variable{X:Cx}
theorem lG{κ:Type}[DecidableEq κ](kvs:List (κ×D))(k:κ)(d:D):(e6 kvs k d).length<=kvs.length+1:=by
 unfold e6;split
 ·rw[lM1];lia
 ·simp
theorem nw{h:dN}{a:dE}(dd:h.DictOf (eW X.prog X.w) a []):h.DictOfH (fP X.prog X.w) a []:=by
 obtain⟨o,es,ep,h1,h2,d,_,b,_⟩:=dd;have e:es.toList=[]:=by
  generalize es.toList=l at b;cases b;rfl
 exact⟨o,es,ep,h1,h2,d,e,(λx c=>by simp at c),bq⟩
theorem iu{A:dG}(a:A.units+64<cLine):(fP X.prog X.w).room A.in1:=by
 show A.units+1+8<cLine;lia
theorem iX{ag:List (dE×Obj)}{σ:L2.St}{H:Hp}{s:dD}{mu:List dE}(I:Inv X ag σ H s){d:D}{v:V}{u:dB}{k:TK}(r:eJ X.K H mu d v)(q:d7 v u)(h:keyT d=some k):
  ∃a,u = .ref a/\v = .ref a/\eJ X.K H mu (tkD k) (.ref a)/\k.dep<=8/\(fP X.prog X.w).is s.heap k a:=by
 obtain⟨e,b,xs,ex⟩:=vF h;subst e;have is:=uY I k r q;subst ex;cases id is with
 | @tup a _ _ _ _ _ _ _ _=>
  rw[tkD]at r;cases r with
  |tup h1 h2=>
   cases q;exact⟨a,O,O,by rw[tkD];exact .tup h1 h2,b,is,b⟩
theorem oC(i:X.A.units+64<cLine):gp X (compareOp .In) (r2 X.K (b2 i3)):=by
 intro ag s σ H x y u w Q I o m h;obtain⟨mu,S,d,e,r,g,j,c,f,b,hc⟩:=oo h;have back:uC d e S=Z (r,g)->dM (model X.prog X.w) X.A (compareOp .In u w) (EP X ag σ Q) X.xe s:=λb=>GC i ag s σ H x y u w Q I o m ⟨mu,S,[d,e],r,g,.cons j (.cons c .nil),f,b,hc⟩;unfold i3 at b;split at b
 ·rename_i n;split at b
  ·rename_i kvs t;obtain⟨k,v,b⟩:=oM1.mp b;cases b;cases c with
   |ref p=>
    cases m;obtain⟨xs,z,l,_⟩:=f.dcT t p;obtain⟨q,dd⟩:=sQ I z l;obtain⟨a,rfl,rfl,_,_,hi⟩:=iX I j o v;refine wpAny_in_heap (iu i) hi q dd ?_;exact⟨.bl (atKey xs k).isSome,H,I.tok _,O,by rw[l.look.2];exact hc.now (.bl _) f⟩
  ·exact back b
 ·exact back b
theorem mU(i:X.A.units+64<cLine):gp X (compareOp .NotIn) (r2 X.K (b2 fG)):=by
 intro ag s σ H x y u w Q I o m h;obtain⟨mu,S,d,e,r,g,j,c,f,b,hc⟩:=oo h;have back:iC d e S=Z (r,g)->dM (model X.prog X.w) X.A (compareOp .NotIn u w) (EP X ag σ Q) X.xe s:=λb=>zl i ag s σ H x y u w Q I o m ⟨mu,S,[d,e],r,g,.cons j (.cons c .nil),f,b,hc⟩;unfold fG at b;split at b
 ·rename_i n;split at b
  ·rename_i kvs t;obtain⟨k,v,b⟩:=oM1.mp b;cases b;cases c with
   |ref p=>
    cases m;obtain⟨xs,z,l,_⟩:=f.dcT t p;obtain⟨q,dd⟩:=sQ I z l;obtain⟨a,rfl,rfl,_,_,hi⟩:=iX I j o v;refine wpAny_notIn_heap (iu i) hi q dd ?_;exact⟨.bl (!(atKey xs k).isSome),H,I.tok _,O,by rw[l.look.2];exact hc.now (.bl _) f⟩
  ·exact back b
 ·exact back b
theorem Fi{ag:List (dE×Obj)}{σ:L2.St}{H:Hp}{s:dD}{mu:List dE}(I:Inv X ag σ H s){a:dE}{xs:List (TK×dE×dB)}{kvs:List (TK×D)}(e:∃o u,H a=Z (.frz o u)/\wp a xs o)(h:KT X.K H mu kvs xs):(a == sysModules)=J/\s.heap.DictOfH (fP X.prog X.w) a xs:=by
 obtain⟨o,u,e,h1,h2,c,es,ep,f,g⟩:=e;obtain⟨d,_⟩:=(show eN X.prog X.w H s.heap a (.frz o u)from I.hok a _ e);exact⟨h1,o,es,ep,d,c,f,g,λx b=>⟨uY I _ (h.mem x b).2 O,(h.mem x b).1⟩,h2⟩
theorem qP(am:X.A.units+64<cLine):Di X (r2 X.K (b2 dW)):=by
 intro value c ag s σ H x y v u Q I B G h q;obtain⟨mu,S,d,e,r,D,w,o,t,f,hc⟩:=oo h;have back:lc d e S=Z (r,D)->dM (model X.prog X.w) X.A (subscriptTail value c v u) (EP X ag σ Q) X.xe s:=λf=>FU am value c ag s σ H x y v u Q I B G ⟨mu,S,[d,e],r,D,.cons w (.cons o .nil),t,f,hc⟩ q;have g:∀kvs a xs,v = .ref a->KT X.K H mu kvs xs->s.heap.DictOfH (fP X.prog X.w) a xs->((keyT e).bind λk=>(d2 kvs k).map λx=>(x,S))=Z (r,D)->dM (model X.prog X.w) X.A (subscriptTail value c v u) (EP X ag σ Q) X.xe s:=λkvs a xs K l dd f=>by
  obtain⟨k,N,f⟩:=oB1.mp f;obtain⟨z,ao,f⟩:=oM1.mp f;cases f;subst K;obtain⟨b,rfl,rfl,_,_,hi⟩:=iX I o G N;obtain⟨p,au,ep,L,P⟩:=l.look.1 _ ao;have F:=dd.typeIs;unfold subscriptTail;refine wB1 ?_;rw[getitemInPython_of_ne F.not_modules];refine wB1 (wpAny_specialOf F PySem.F.slot_dict_getitem.lookup ?_);have j:dM (model X.prog X.w) X.A (subscripted c J (.ref a) (.ref b)) (λr i=>dM (model X.prog X.w) X.A (letTemporaryGo value (.ref a) r >>= λ_=>pure r) (EP X ag σ Q) X.xe i) X.xe s:=by
   rw[q];exact wpAny_operating (wpAny_mono (wpAny_getItem_heap (iu am) hi dd ep (show EP X ag σ Q p.2 _ from⟨au,H,I.tok _,L,hc.now P t⟩)) (λr i m=>wB1 (wpAny_letTemporaryGo (wP1 m))) λ_ _ x=>x)
  first
   |exact wP1 (wB1 j)
   |exact wB1 j
   |exact j
 unfold dW at f;split at f
 ·rename_i n;split at f
  ·rename_i kvs C;cases w with
   | @ref _ a E=>
    cases B;obtain⟨xs,A,l,_⟩:=t.dcT C E;exact g kvs a xs O l (sQ I A l).2 f
  ·rename_i kvs C;cases w with
   | @ref _ a E=>
    cases B;obtain⟨xs,A,l,_⟩:=(show jI X.K H mu a (.dcF kvs)from t.ob n _ a C E);exact g kvs a xs O l (Fi I A l).2 f
  ·exact back f
 ·exact back f
theorem pS(K:X.A.units+64<cLine):uP X (rU X.K (b3 i0)):=by
 intro ag s σ H o i v ao R u Q I C am x h;obtain⟨mu,S,ds,d,P,U,j,a,hc⟩:=id h;cases U with
 |cons y T=>cases T with
  |cons G V=>cases V with
   |cons t aq=>
    cases aq;rename_i au N E;dsimp only[b3]at a;have back:lH au N E S=Z (d,P)->dM (model X.prog X.w) X.A (setItem ao R u) (λ_ s'=>∃H',Inv X ag σ H' s'/\Q H') X.xe s:=λa=>DM K ag s σ H o i v ao R u Q I C am x ⟨mu,S,[au,N,E],d,P,.cons y (.cons G (.cons t .nil)),j,a,hc⟩;unfold i0 at a;split at a
    ·rename_i n;split at a
     ·rename_i kvs B;obtain⟨k,F,a⟩:=oB1.mp a;split at a
      ·rename_i wq;cases a;cases y with
       | @ref _ l g=>
        cases C;obtain⟨xs,p,m,W⟩:=j.dcT B g;obtain⟨A,dd⟩:=sQ I p m;obtain⟨b,rfl,rfl,rk,w,hi⟩:=iX I G am F;refine wpAny_setItem_heap (hsz:=W) (iu K) hi dd λh' e c=>?_;have f:∃q,h'.get? _=Z q:=let ⟨q,_,_,f,_⟩:=e;⟨q,f⟩
        have put:Ext mu mu H (upd H l (.ext (gb l (storedH xs k b u)))):=Ext.put p trivial (gM1 g);refine⟨_,kG I (by rw[p];exact True.intro) c f (qu A e),hc _ mu put (j.put g p trivial ⟨_,d4,((m.put w rk x t).ext put),?_⟩)⟩;rw[<- (m.put w rk x t).length];have:=lG kvs k E;lia
      ·cases a
     ·rename_i B;split at a
      ·rename_i k F;cases a;cases y with
       | @ref _ l g=>
        cases C;obtain⟨ws,r,m⟩:=j.dct B g;cases m;obtain⟨z,A,vs,L,dd⟩:=vZ I.hok r;cases L;obtain⟨b,rfl,rfl,rk,w,hi⟩:=iX I G am F;have D:s.heap.DictOfH (fP X.prog X.w) _ []:=nw dd;refine wpAny_setItem_heap (hsz:=bi _) (iu K) hi D λh' e c=>?_;have f:∃q,h'.get? _=Z q:=let ⟨q,_,_,f,_⟩:=e;⟨q,f⟩
        have put:Ext mu mu H (upd H l (.ext (gb l (storedH [] k b u)))):=Ext.put r trivial (gM1 g);exact⟨_,kG I (by rw[r];exact True.intro) c f (qu A e),hc _ mu put (j.put g r trivial ⟨_,d4,KT.ext put (.cons ⟨O,w,rk,v,x,t⟩ .nil),(show 1<=dL by decide)⟩)⟩
      ·exact back a
     ·exact back a
    ·exact back a
end
noncomputable def tX(S:Sto)(d:D):Option Bool:=match d with
 | .non=>Z J
 | .bl b=>Z b
 | .int i=>Z (i != 0)
 | .str y=>if y.length<=dL then Z ((y.length:Int) != 0)else Y
 | .ref n=>match S[n]? with
  |some (.dct kvs)=>Z (!kvs.isEmpty)
  |_=>(d6 S d).map λp=> !p.2.isEmpty
 |_=>(d6 S d).map λp=> !p.2.isEmpty
noncomputable def GM (m:FE):FT:=λr S=>(m r S).bind λp=>(tX p.2 p.1).map λb=>(b,p.2)
section
variable{K:Fg1}{H:Hp}{mu:List dE}{S:Sto}
theorem pQ{d:D}{v:V}{b:Bool}(r:eJ K H mu d v)(s:Sim K H mu S)(h:((d6 S d).map λp=> !p.2.isEmpty)=Z b):CN K v H b:=by
 obtain⟨⟨k,xs⟩,e,h⟩:=oM1.mp h;obtain⟨a,vs,rfl,q,t⟩:=ev r s e;have z:(!xs.isEmpty) = !vs.isEmpty:=by cases t<;>rfl
 dsimp only at h;rw[z]at h;cases k
 ·exact .inr (.inl ⟨vs,q,h.symm⟩)
 ·exact .inl ⟨vs,q,h.symm⟩
theorem Dx{d:D}{v:V}{b:Bool}(r:eJ K H mu d v)(s:Sim K H mu S)(h:tX S d=Z b):CN K v H b:=by
 cases d with
 |non=>cases r;cases h;rfl
 |bl k=>cases r;cases h;rfl
 |int i=>cases r;cases h;rfl
 |str y=>
  rw[tX]at h;split at h
  ·rename_i f;cases r;cases h;exact⟨f,O⟩
  ·cases h
 |tup xs=>exact pQ r s h
 |rol xs=>exact pQ r s h
 |fn x=>cases h
 |ref n=>
  rw[tX]at h;split at h
  ·rename_i kvs e;cases h;cases r with
   |ref a=>
    obtain⟨ws,g,c⟩:=s.dct e a;refine .inr (.inr ⟨ws,g,?_⟩);cases c<;>rfl
  ·exact pQ r s h
end
theorem pA{X:Cx}{x:Expr}{f:FE}(h:XE X x f)(he:∀a,isTrue x X.env a=(do let v<-a;standAt x.pos;holding [v] (truthy v)):=by intro _;rfl):XT X x (GM f):=
 ⟨ub (yO h.h he) <| by
  rintro σ H Q ⟨r,mu,S,b,l,he,j,c,hc⟩;obtain⟨⟨m,n⟩,e,c⟩:=oB1.mp c;obtain⟨b1,i,c⟩:=oM1.mp c;cases c;exact⟨r,mu,S,_,_,he,j,e,λv H1 mu1 k g d=>⟨_,Dx g d i,hc H1 mu1 k d⟩⟩⟩
mutual
noncomputable def pyD:D->Option PyData
 | .non=>Z .none
 | .bl b=>Z (.bool b)
 | .int i=>Z (.int i)
 | .str x=>Z (.str x)
 | .tup xs=>(pyDs xs).map .tuple
 | .rol _=>Y
 | .fn _=>Y
 | .ref _=>Y
noncomputable def pyDs:List D->Option (List PyData)
 |[]=>Z []
 |d::ds=>(pyD d).bind λp=>(pyDs ds).map λps=>p::ps
end
mutual
theorem mL:∀{d:D} {p:PyData},pyD d=Z p->p.hasDict=J
 | .non,p,h=>by simp only[pyD]at h;cases h;rfl
 | .bl b,p,h=>by simp only[pyD]at h;cases h;rfl
 | .int i,p,h=>by simp only[pyD]at h;cases h;rfl
 | .str x,p,h=>by simp only[pyD]at h;cases h;rfl
 | .tup xs,p,h=>by
  simp only[pyD]at h;obtain⟨ps,e,h⟩:=oM1.mp h;cases h;simp only[PyData.hasDict];exact lB e
 | .rol _,p,h=>by simp only[pyD]at h;cases h
 | .fn _,p,h=>by simp only[pyD]at h;cases h
 | .ref _,p,h=>by simp only[pyD]at h;cases h
theorem lB:∀{ds:List D} {ps:List PyData},pyDs ds=Z ps->PyData.hasDictAll ps=J
 |[],ps,h=>by simp only[pyDs]at h;cases h;rfl
 |d::ds,ps,h=>by
  simp only[pyDs]at h;obtain⟨p,b,h⟩:=oB1.mp h;obtain⟨c,a,h⟩:=oM1.mp h;cases h;simp only[PyData.hasDictAll,mL b,lB a,Bool.or_self]
end
noncomputable def nk:G1:=λd S=>match d with
 | .tup xs=>(pyDs xs).bind λps=>if(PyData.tuple ps).showable=M/\(PyData.tuple ps).shown.length<=dL/\(PyData.tuple ps).depth<=60 then Z (.str (PyData.tuple ps).shown,S)else Y
 |_=>Y
section
variable{X:Cx}{ag:List (dE×Obj)}{σ:L2.St}{H:Hp}{s:dD}{mu:List dE}
theorem yH(I:Inv X ag σ H s):∀ {d:D} {v:V} {u:dB} {p:PyData},eJ X.K H mu d v->d7 v u->pyD d=some p -> ∃ as,Reads s.heap u p as:=fun j=>j.rec (motive_1:=fun d v _=>∀ u p,d7 v u->pyD d=some p -> ∃ as,Reads s.heap u p as) (motive_2:=fun ds vs _=>∀ f ps,ei vs f->pyDs ds=some ps -> ∃ as,ReadsAll s.heap f ps as)
  (λ_ _ c h=>by simp only[pyD]at h;cases h;cases c;exact⟨[],.none⟩)
  (λb _ _ c h=>by simp only[pyD]at h;cases h;cases c;exact⟨[],.bool b⟩)
  (λi _ _ c h=>by simp only[pyD]at h;cases h;obtain⟨t,rfl⟩:=c;exact⟨[],.int i t⟩)
  (λx _ _ c h=>by simp only[pyD]at h;cases h;obtain⟨t,rfl⟩:=c;exact⟨[],.str x t⟩)
  (λq _ ih _ _ c h=>by
   simp only[pyD]at h;obtain⟨ps,e,h⟩:=oM1.mp h;cases h;cases c;obtain⟨m,w,⟨o,r,hc,n,g⟩,_⟩:=I.tuple q;obtain⟨as,z⟩:=ih _ _ w e;exact⟨as,.tuple r hc g (by simpa using z)⟩)
  (λ_ _ _ _ _ _ h=>by simp only[pyD]at h;cases h) (λ_ _ _ _ h=>by simp only[pyD]at h;cases h) (λ_ _ _ _ h=>by simp only[pyD]at h;cases h)
  (λ_ _ tv h=>by simp only[pyDs]at h;cases h;cases tv;exact⟨[],.nil⟩)
  (λ_ _ a b _ _ tv h=>by
   simp only[pyDs]at h;obtain⟨p,k,h⟩:=oB1.mp h;obtain⟨A,y,h⟩:=oM1.mp h;cases h;cases tv with
   |cons v tv=>
    obtain⟨a1,l⟩:=a _ _ v k;obtain⟨a2,r2⟩:=b _ _ tv y;exact⟨_,.cons l r2⟩) _ _
end
section
variable{X:Cx}
theorem AB{k:Nat}(hr:fN k X.A):fj X (.builtin "repr") (rN X.K (b1 nk)):=by
 intro ag s σ H xs w Q I r h;obtain⟨x,mu,S,d,p,n,rfl,c,m,a,hc⟩:=DQ h;unfold nk at a;split at a
 ·rename_i ds;obtain⟨ps,e,a⟩:=oB1.mp a;split at a
  ·rename_i j;obtain⟨h1,h2,v⟩:=j;cases a;cases r with
   |cons g rt=>
    cases rt;have f:pyD (.tup ds)=Z (.tuple ps):=by simp only[pyD,e,oP1]
    obtain⟨as,l⟩:=yH I c g f;cases c with
    |tup q t=>
     cases g;refine repr_of_reads' l h1 (PyData.noDict_hsm (mL f)) hr.gd (by have:=hr.un;lia) (λb o z=>z) (λh' u tk i=>?_) h2;exact⟨.str _,H,I.kept i,⟨u,O⟩,hc.now (.str _) m⟩
  ·cases a
 ·cases a
noncomputable def m7:List D->Option (List Int)
 |[]=>Z []
 | .int i::ds=>(m7 ds).map λis=>i::is
 |_=>Y
noncomputable def ddI(ns:List Int):List Int:=ns.foldl step_dedup []
theorem sR:∀(ns acc:List Int),acc.Nodup->(ns.foldl step_dedup acc).Nodup
 |[],acc,h=>h
 |n::ns,acc,h=>by
  rw[cb];refine sR ns _ ?_;unfold step_dedup;split
  ·exact h
  ·rename_i d;rw[bB];refine⟨h,by simp,λa f b c e=>?_⟩;simp at c;apply d;rw[bT];exact⟨a,f,by simp[e,c]⟩
theorem wZ{K:Fg1}{H:Hp}{mu:List dE}:∀{ds:List D} {vs:List V} {b:List dB} {ns:List Int},d0 K H mu ds vs->ei vs b->m7 ds=Z ns->IntsAre b ns/\ns.length=ds.length:=by
 intro ds vs b ns f a h
 induction f using d0.ind generalizing b ns with
 |hn=>cases h;cases a;exact⟨.nil,O⟩
 | @hc d v ds vs r t ih=>
  cases d with
  |int i=>
   obtain⟨c,e,h⟩:=oM1.mp h;cases h;cases r;cases a with
   |cons r a=>
    obtain⟨g,j⟩:=ih a e;obtain⟨tk,rfl⟩:=r;exact⟨.cons _ _ g,by rw[lC1,lC1,j]⟩
  |_=>cases h
end
@[elab_as_elim] theorem Ka {P:List dB->Prop}{us:List dB}(l:us.length=0)(f:P []):P us:=by
 cases us with
 |nil=>exact f
 |cons _ _=>cases l
@[elab_as_elim] theorem Jr {P:List dB->Prop}{us:List dB}(l:us.length=1)(f:∀a,P [a]):P us:=by
 cases us with
 |nil=>cases l
 |cons a us=>exact Ka (P:=λus=>P (a::us)) (Nat.succ.inj l) (f a)
@[elab_as_elim] theorem Jq {P:List dB->Prop}{us:List dB}(l:us.length=2)(f:∀a b,P [a,b]):P us:=by
 cases us with
 |nil=>cases l
 |cons a us=>exact Jr (P:=λus=>P (a::us)) (Nat.succ.inj l) (f a)
@[elab_as_elim] theorem Jp {P:List dB->Prop}{us:List dB}(l:us.length=3)(f:∀a b c,P [a,b,c]):P us:=by
 cases us with
 |nil=>cases l
 |cons a us=>exact Jq (P:=λus=>P (a::us)) (Nat.succ.inj l) (f a)
@[elab_as_elim] theorem Jo {P:List dB->Prop}{us:List dB}(l:us.length=4)(f:∀a b c d,P [a,b,c,d]):P us:=by
 cases us with
 |nil=>cases l
 |cons a us=>exact Jp (P:=λus=>P (a::us)) (Nat.succ.inj l) (f a)
@[elab_as_elim] theorem HR {P:List dB->Prop}{us:List dB}(l:us.length=5)(f:∀a b c d e,P [a,b,c,d,e]):P us:=by
 cases us with
 |nil=>cases l
 |cons a us=>exact Jo (P:=λus=>P (a::us)) (Nat.succ.inj l) (f a)
end Mi
namespace HT
open PySem PySem.Spec PyProof.Rows
variable{prog:dF}{w:dH}{A:dG}{E:dB->dD->Prop}{s:dD}
theorem kX{sl:dE}{t:Tok}{n:Nat}{Q:Int×Int×Nat->dD->Prop}(hs:s.heap.IsSliceOf sl .none .none (.int (-1) t))(h:Q ((n:Int)-1,-1,n) s):dM (model prog w) A (Builtin.Slice.sliceApplied (.ref sl) (pure (n:Int))) Q E s:=by
 obtain⟨d,b,c,a⟩:=id hs;unfold Builtin.Slice.sliceApplied Builtin.Slice.sliceFields;refine wB1 (wB1 (wpAny_field b a (x:=.none) O (wB1 (wpAny_field b a (x:=.none) O (wB1 (wpAny_field b a (x:=.int (-1) t) O (wP1 ?_)))))));refine wB1 (gH (.int (-1) t) ?_);show dM _ _ (if((-1:Int) == 0)=M then _ else _) _ _ s;rw[aj (by decide)];refine wB1 (gH .none (wB1 (gH .none (wB1 (wP1 ?_)))));show dM _ _ (pure ((n:Int)-1,(-1:Int),Builtin.Slice.slicePlaces ((n:Int)-1) (-1) (-1))) _ _ s;have e:Builtin.Slice.slicePlaces ((n:Int)-1) (-1) (-1)=n:=by
  unfold Builtin.Slice.slicePlaces;have h1:¬ (-1:Int)>0:=by lia
  have h2: -(-1:Int)=1:=rfl;simp only[h1,if_false,h2,Int.ediv_one];split<;>lia
 rw[e];exact wP1 h
theorem Af{α β:Type}{f g:α->Option β}:∀l:List α,(∀m,m∈l->f m=g m)->l.filterMap f=l.filterMap g:=by
 intro l
 induction l with
 |nil=>intro _;rfl
 |cons x l ih=>intro h;rw[aE,aE,h x (mS1 ..),ih λm a=>h m (mC1 _ a)]
theorem rH(xs:Array dB):((af xs.size).filterMap λ(m:Nat)=>xs[(((xs.size:Int)-1)+(m:Int)*(-1)).toNat]?).toArray=xs.toList.reverse.toArray:=by
 congr 1
 have e:((af xs.size).filterMap λ(m:Nat)=>xs[(((xs.size:Int)-1)+(m:Int)*(-1)).toNat]?)=(af xs.size).filterMap λm=>xs.toList.reverse[m]?:=by
  apply Af;intro m a;have a:=aB.mp a;rw[List.getElem?_reverse (by rw[aJ];exact a),aT1,aJ]
  congr 1
  lia
 rw[e];have:=pick_run xs.toList.reverse.toArray 0 xs.size;rw[aU]at this;have b:((λx=>xs.toList.reverse.toArray[x]?)∘λx=>0+x)=λm=>xs.toList.reverse[m]?:=by funext m;simp
 rw[b]at this;rw[this];simp only[bZ];exact ca (by simp)
theorem ku {t sl:dE}{items:Array dB}{tk:Tok}{Q:dB->dD->Prop}(ht:IsTup s.heap t items)(hs:s.heap.IsSliceOf sl .none .none (.int (-1) tk))
  (h:Q (.ref s.heap.objs.size) {s with heap:=s.heap.push {cls:=.type "tuple",data:=.seq items.toList.reverse.toArray}})
  (hsz:items.size<=dL):dM (model prog w) A (getItem (.ref t) (.ref sl)) Q E s:=by
 have a:sizeOk (.seq items.toList.reverse.toArray):=by
  show items.toList.reverse.toArray.size<=dL;rw[sT1,cc,aJ];exact hsz
 obtain⟨g,e,d,f⟩:=id hs;have c:s.TypeIs (.ref sl) "slice":=⟨g,e,d⟩;unfold getItem
 try with_reducible refine wpAny_holding ?_
 first|refine wB1 (wP1 ?_)|skip
 refine wB1 (wpAny_sequenceKey ht.typeIs (by decide) ?_);refine wB1 (wpAny_callSpecial?_slot (name:=Str.ofString "__getitem__") ht.typeIs PyProof.Rows.slot_tuple_getitem
  (wE1 PyProof.Rows.slot_tuple_getitem ht.typeIs entry_tuple_getitem ?_ (args_tuple_getitem _ _)))
 show dM _ _ (Builtin.Tuple.tupleItemsOf (.ref t) >>= _) _ _ s;refine wB1 (tupleItemsOf_ ht ?_);refine wB1 (wpAny_typeOf c ?_);rw[ak (by decide)];refine wB1 (kX hs ?_);have b:¬ (((items.size:Int)-1 == 0&&(-1:Int) == 1&&items.size == items.size)=M):=by
  intro q;rw[bA1,bA1]at q;exact absurd (eq_of_beq q.1.2) (by decide)
 show dM _ _ (if((items.size:Int)-1 == 0&&(-1:Int) == 1&&items.size == items.size)=M then _ else _) _ _ s;rw[aj b,rH]
 first
  |exact wB1 (m:=Builtin.Tuple.tupleExact _) (wO1 (wP1 ⟨_,rfl,wP1 h⟩) a)
  |exact wB1 (m:=Builtin.Tuple.tupleExact _) (wO1 (wB1 (wP1 (wP1 ⟨_,rfl,wP1 h⟩))) a)
  |exact wB1 (wB1 (m:=Builtin.Tuple.tupleExact _) (wO1 (wP1 (wP1 ⟨_,rfl,wP1 h⟩)) a))
  |exact wB1 (wB1 (m:=Builtin.Tuple.tupleExact _) (wO1 (wP1 ⟨_,rfl,wP1 h⟩) a))
end HT
namespace Mi
open PySem PySem.Spec PyProof.Rows L2
section
variable{X:Cx}
theorem rf:∀{xs:List V} {a:List dB},ei xs a->ei xs.reverse a.reverse:=by
 intro xs
 induction xs with
 |nil=>intro a r;cases r;exact .nil
 |cons x xs ih=>
  intro a r;cases r with
  |cons b r2=>rw[bo,bo];exact(ih r2).append (.cons b .nil)
end
end Mi
namespace HT
open PySem PySem.Spec PyProof.Rows
section
variable{prog:dF}{w:dH}{A:dG}{R:Result->dD->Prop}{I ax L:dE}{xs:Array dB}
end
section
variable{prog:dF}{w:dH}{A:dG}{E:dB->dD->Prop}{s:dD}
end
end HT
namespace Mi
open PySem PySem.Spec PyProof.Rows L2
section
variable{X:Cx}
end
section
variable{elt tg iter tg2 iter2 tg3 iter3:Expr}{ifs ifs2 ifs3:List Expr}{scope:dR}{pos:Pos}
end
section
variable{X:Cx}
end
noncomputable def w5(a:Int):List Int->List Int
 |[]=>[a]
 |b::l=>if a<=b then a::b::l else b::w5 a l
noncomputable def jP:List Int->List Int
 |[]=>[]
 |a::l=>w5 a (jP l)
theorem k8(a:Int):∀l:List Int,(w5 a l).Perm (a::l)
 |[]=>.refl _
 |b::l=>by
  rw[w5];split
  ·exact .refl _
  ·exact((k8 a l).cons b).trans (.swap _ _ _)
theorem ip:∀l:List Int,(jP l).Perm l
 |[]=>.refl _
 |a::l=>(k8 a _).trans ((ip l).cons a)
theorem vK{a:Int}:∀{l:List Int},l.Pairwise (· <= ·)->(w5 a l).Pairwise (· <= ·)
 |[],_=>List.pairwise_singleton _ _
 |b::l,h=>by
  rw[cf]at h;rw[w5];split
  ·rename_i d;rw [cf,cf];exact ⟨fun x c=>by
    rcases aF.mp c with z|z
    ·lia
    ·have:=h.1 x z;lia,h.1,h.2⟩
  ·rename_i d;rw[cf];refine⟨λx c=>?_,vK h.2⟩;rcases aF.mp ((k8 a l).mem_iff.mp c)with z|z
   ·lia
   ·exact h.1 x z
theorem mz:∀l:List Int,(jP l).Pairwise (· <= ·)
 |[]=>.nil
 |a::l=>vK (mz l)
theorem pV:∀{a b:List Int},a.Perm b->a.Pairwise (· <= ·)->b.Pairwise (· <= ·)->a=b
 |[],b,p,_,_=>(List.nil_perm.mp p).symm
 |x::a,[],p,_,_=>absurd p.length_eq (by simp)
 |x::a,y::b,p,h1,h2=>by
  rw[cf]at h1 h2;have e:x=y:=by
   have d:=p.mem_iff.mp (mS1 (a:=x) (l:=a));have f:=p.mem_iff.mpr (mS1 (a:=y) (l:=b));rcases aF.mp d with z|z
   ·exact z
   ·rcases aF.mp f with c|c
    ·exact c.symm
    ·have:=h2.1 x z;have:=h1.1 y c;lia
  subst e;rw[pV (List.perm_cons x |>.mp p) h1.2 h2.2]
noncomputable def GV:List D->Option (List Int)
 |[]=>Z []
 | .int i::l=>(GV l).map λt=>i::t
 |_=>Y
section
variable{X:Cx}
theorem wY:∀{us:List dB} {ns:List Int},IntsAre us ns->ei (ns.map V.int) us:=by
 intro us ns h
 induction h with
 |nil=>exact .nil
 |cons i t _ ih=>exact .cons ⟨t,O⟩ ih
end
end Mi
namespace Mi
open PySem PySem.Spec PyProof.Rows L2
theorem wH(its:List dB):slicePick its.toArray Y Y (Z (-1))=its.reverse.toArray:=by
 have h:=HT.rH its.toArray;rw[sT1]at h;unfold slicePick;have b:sliceBounds Y Y (Z (-1)) its.toArray.size=(((its.length:Nat):Int)-1,-1,-1):=by
  rw[sT1];unfold sliceBounds;have h1:¬ ((Z (-1:Int)).getD 1>0):=by decide
  simp only[h1,if_false];rfl
 rw[b];unfold sliceRange;have hc:(if((its.length:Nat):Int)-1 > -1 then(((its.length:Nat):Int)-1 - -1 - -1-1)/(- -1)else 0).toNat=its.length:=by
  have h2: - (-1:Int)=1:=rfl;rw[h2,Int.ediv_one];split<;>lia
 dsimp only;rw[aj (by decide),hc,aU];have e:((λx=>its.toArray[x]?)∘λ(k:Nat)=>((its.length:Int)-1 + -1*(k:Int)).toNat)=λ(m:Nat)=>its.toArray[(((its.length:Int)-1)+(m:Int)*(-1)).toNat]?:=by
  funext m
  have a:((its.length:Int)-1 + -1*(m:Int)).toNat=(((its.length:Int)-1)+(m:Int)*(-1)).toNat:=by rw[Int.mul_comm]
  show its.toArray[((its.length:Int)-1 + -1*(m:Int)).toNat]?=its.toArray[(((its.length:Int)-1)+(m:Int)*(-1)).toNat]?;rw[a]
 rw[e,h]
section
variable{X:Cx}
noncomputable def F3(K:Fg1)(te tk:TE):TE:=fun σ H Q=>te σ H λx H1=>tk σ H1 λk H2=>k = .int (-1)/\((∃a xs,x = .ref a/\jm K H2 a xs /\ ∀p,H2 p=Y->Q (.ref p) (upd H2 p (.tup xs.reverse)))\/(∃a xs,x = .ref a/\lU K H2 a xs /\ ∀p,H2 p=Y->Q (.ref p) (upd H2 p (.lst xs.reverse))))
theorem ue{e j:Expr}{te tk:TE}{pos p2:Pos}(he:PE X e te)(hk:PE X j tk):PE X (.Subscript e (.Slice Y Y (Z j) p2) pos) (F3 X.K te tk):=by
 intro ag s σ H Q I h;refine Subscript_ (fg (he ag s σ H _ I h) λv y ⟨x,H1,B,p,A⟩=>?_);refine wpAny_Slice ?_;rw[evalPart_none];refine wP1 ?_;refine wP1 ?_;rw[evalPart_some];refine fg (hk ag y σ H1 _ B A) λu c ⟨k,H2,z,rk,m⟩=>?_;obtain⟨rfl,m⟩:=m;obtain⟨t,rfl⟩:=rk;have f:Inv X ag σ H2 {c with heap:=c.heap.push {cls:=.type "slice",data:=.fields #[.none,.none,.int (-1) t]}}:=z.kept (t':=c.toks) λb w q=>hP1 _ q;rcases m with⟨a,xs,rfl,n,q⟩|⟨a,xs,rfl,n,q⟩
 ·cases p;obtain⟨g,r,i,l⟩:=f.tuple n;have d:g.toArray.size=xs.length:=by rw[sT1];exact r.length.symm
  show dM (model X.prog X.w) X.A (subscriptTail e (.Slice Y Y (Z j) p2) (.ref a) (.ref c.heap.objs.size)) (EP X ag σ Q) X.xe {c with heap:=c.heap.push {cls:=.type "slice",data:=.fields #[.none,.none,.int (-1) t]}};refine tail_any (ops:=[.ref a,.ref c.heap.objs.size]) i.typeIs PyProof.Rows.slot_tuple_getitem.lookup ?_ (by with_unfolding_all rfl);refine HT.ku i (Heap.IsSliceOf.new ..) ?_ (by rw[d];exact l);refine⟨.ref _,_,f.laid (t':=c.toks) (o:=.tup xs.reverse) (λb w q=>hP1 _ q) (nR1 _) ?_,O,q _ (f.hok.fresh (nR1 _))⟩;exact⟨by rw[cc];exact l,_,rf r,IsTup.new _ _⟩
 ·cases p;obtain⟨g,r,i,l⟩:=f.list n;have d:=r.length;show dM (model X.prog X.w) X.A (subscriptTail e (.Slice Y Y (Z j) p2) (.ref a) (.ref c.heap.objs.size)) (EP X ag σ Q) X.xe {c with heap:=c.heap.push {cls:=.type "slice",data:=.fields #[.none,.none,.int (-1) t]}};refine tail_any (ops:=[.ref a,.ref c.heap.objs.size]) i.isList.typeIs slot_list_getitem.lookup ?_ (by with_unfolding_all rfl);refine wpAny_getItem_list_slice i.isList (Heap.IsSliceOf.new ..) .none .none (.int (-1) t) (by decide) ?_ (by rw[sT1];lia);rw[wH];refine⟨.ref _,_,f.laid (t':=c.toks) (o:=.lst xs.reverse) (λb w q=>hP1 _ q) (nR1 _) ?_,O,q _ (f.hok.fresh (nR1 _))⟩;exact⟨by rw[cc];exact l,_,0,rf r,hS1 _ O⟩
noncomputable def DR(S:Sto)(d k:D):Option (D×Sto):=match k with
 | .int i=>if i = -1 then(d6 S d).map λp=>if p.1=M then(.ref S.length,S++[.lst p.2.reverse])else(.tup p.2.reverse,S)else Y
 |_=>Y
noncomputable def oF(m a:FE):FE:=λr S=>(m r S).bind λp=>(a r p.2).bind λb=>DR b.2 p.1 b.1
theorem q9{e s:Expr}{m a:FE}{pos p2:Pos}(h:XE X e m)(G:XE X s a):XE X (.Subscript e (.Slice Y Y (Z s) p2) pos) (oF m a):=
 ⟨eU (ue h.h G.h) <| by
  rintro σ H Q ⟨r,mu,S,d,I,o,C,b,hc⟩;obtain⟨⟨F,x⟩,z,b⟩:=oB1.mp b;obtain⟨⟨w,E⟩,B,b⟩:=oB1.mp b;refine⟨r,mu,S,F,x,o,C,z,λv H1 mu1 n A y=>?_⟩;refine⟨r,mu1,x,w,E,o.ext n,y,B,λu H2 g l r2 j=>?_⟩;cases w with
  |int i=>
   dsimp only[DR]at b;split at b
   ·rename_i hi;subst hi;cases r2;refine⟨O,?_⟩;obtain⟨⟨k,xs⟩,D,b⟩:=oM1.mp b;obtain⟨c,vs,rfl,q,t⟩:=ev (A.ext l) j D;cases k with
    |true=>
     cases b;right;exact⟨c,vs,O,q,λp f=>hc _ _ (g++[p]) ((n.trans l).trans (Ext.new_ f)) (.ref (fZ j.len p)) (j.newL t.reverse f)⟩
    |false=>
     simp only[bF1,if_false]at b;cases b;left;exact⟨c,vs,O,q,λp f=>hc _ _ g ((n.trans l).trans (Ext.fresh f)) (.tup (jm.of d4) (t.reverse.ext (Ext.fresh f))) (j.fresh f)⟩
   ·cases b
  |_=>cases b⟩
end
theorem n9(n:Nat):∀ns:List Int,D.unds n (ns.map D.int)=M
 |[]=>rfl
 |_::ns=>by rw[mP1,D.unds,n9 n ns];rfl
theorem gc_same{n:Nat}{d:D}{S:Sto}(h:S.length=n):gc n (d,S)=(d,S):=by
 unfold gc;split
 ·rw[show(d,S).2=S from rfl,<- h,b4]
 ·rfl
theorem xy{n:Nat}{f:FN}{ds:List D}{S S1:Sto}{d:D}(h:f ds []=Z (d,S1))(hn:ds.length=n)(a:D.unds 0 ds=M)(hd:d.und 0=M):dX n f ds S=Z (d,S):=by
 unfold dX lQ;rw[ak hn,ak a,h,oP1,ak hd]
theorem sY{n:Nat}{f:FN}{ds:List D}{S S1:Sto}{d:D}(h:f ds []=Z (d,S1))(hn:ds.length=n)(a:D.unds 0 ds=M)(hd:d.und 0=J):dX n f ds S=Z (d.sh S.length,S++S1.map (Ob.sh S.length)):=by
 unfold dX lQ;rw[ak hn,ak a,h,oP1,aj (by dsimp only;rw[hd];decide)]
theorem o4{n:Nat}{f:FN}{ds:List D}{S S1:Sto}{d:D}(h:f ds S=Z (d,S1))(hn:ds.length=n)(a:D.unds 0 ds=J):dX n f ds S=Z (gc S.length (d,S1)):=by
 unfold dX lQ;rw[ak hn,aj (by rw[a];decide),h,oP1]
theorem lh{n:Nat}{f:FN}{ds:List D}{S S1:Sto}{d:D}(h:f ds S=Z (d,S1))(hn:ds.length=n)(b:D.unds 0 ds=J)(a:S1.length=S.length):dX n f ds S=Z (d,S1):=by
 rw[o4 h hn b,gc_same a]
theorem oD{i j:Int}(h1: -(2^64)<i)(h2:i<2^64):eR i j=M:=by
 unfold eR;simp only[bQ,bA1,al];exact .inl (.inl ⟨h1,h2⟩)
theorem vy{i j:Int}(h1: -(2^64)<j)(h2:j<2^64):eR i j=M:=by
 unfold eR;simp only[bQ,bA1,al];exact .inl (.inr ⟨h1,h2⟩)
theorem gY{S:Sto}{n:Nat}{xs:List D}(h:S[n]?=Z (.lst xs)):oB S [(n,xs)]=M:=by
 rw[oB,h];simp[D.sames_refl,oB]
noncomputable def jA(n:Nat):Nat->List D
 |0=>[]
 |k+1=>.ref n::jA (n+1) k
theorem r4:∀{n:Nat} {lo:Int} {d:D},d∈gB lo n -> ∃k:Int,d = .int k/\lo<=k/\k<lo+n
 |0,lo,d,h=>by simp[gB]at h
 |n+1,lo,d,h=>by
  rw[gB]at h;rcases aF.mp h with h|h
  ·exact⟨lo,h,Int.le_refl _,by lia⟩
  ·obtain⟨k,e,h1,h2⟩:=r4 h;exact⟨k,e,by lia,by lia⟩
theorem gG{n:Nat}:∀{xs:List D} {x:D},D.unds n xs=M->x∈xs->x.und n=M
 |y::ys,x,h,hx=>by
  rw[D.unds,bA1]at h;rcases aF.mp hx with e|e
  ·rw[e];exact h.1
  ·exact gG h.2 e
theorem jg{S:Sto}{d:D}(h:d.und 0=M):d6 S d=d6 [] d:=by
 cases d with
 |ref n=>simp[D.und]at h
 |_=>rfl
theorem iq{S:Sto}{d:D}(h:d.und 0=M){p:Bool×List D}(e:d6 S d=Z p):D.unds 0 p.2=M:=by
 cases d with
 |ref n=>simp[D.und]at h
 |tup xs=>cases e;simpa[D.und]using h
 |rol xs=>cases e;simpa[D.und]using h
 |_=>cases e
theorem oU{f f':D->D->Option Bool}:∀{xs ys:List D},(∀x∈xs,∀y∈ys,f x y=f' x y)->nJ f xs ys=nJ f' xs ys
 |[],[],_=>rfl
 |[],_::_,_=>rfl
 |_::_,[],_=>rfl
 |x::xs,y::ys,h=>by
  rw[nJ,nJ,h x mS1 y mS1,oU λa c b d=>h a (mC1 _ c) b (mC1 _ d)]
theorem su{S:Sto}{d:D}(h:d.und 0=M):uw S d=J:=by
 cases d with
 |ref n=>simp[D.und]at h
 |_=>rfl
theorem vV{S:Sto}:∀{n:Nat} {d e:D},d.und 0=M->e.und 0=M->gr S n d e=gr [] n d e
 |0,_,_,_,_=>rfl
 |n+1,d,e,hd,he=>by
  rw[gr,gr,jg hd,jg he];unfold HW;simp only[su hd,su he];cases h1:d6 [] d with
  |none=>cases d6 [] e<;>rfl
  |some p=>
   cases h2:d6 [] e with
   |none=>rfl
   |some q=>
    dsimp only;have c:=iq hd h1;have b:=iq he h2;rw[oU (f:=gr S n) (f':=gr [] n) λx a y g=>vV (gG c a) (gG b g)]
theorem oH{f f' g g':D->D->Option Bool}:∀{xs ys:List D},(∀x∈xs,∀y∈ys,f x y=f' x y)->(∀x∈xs,∀y∈ys,g x y=g' x y)->nQ f g xs ys=nQ f' g' xs ys
 |[],[],_,_=>rfl
 |[],_::_,_,_=>rfl
 |_::_,[],_,_=>rfl
 |x::xs,y::ys,h,k=>by
  rw[nQ,nQ,h x mS1 y mS1,k x mS1 y mS1,oH (λa c b d=>h a (mC1 _ c) b (mC1 _ d)) λa c b d=>k a (mC1 _ c) b (mC1 _ d)]
theorem vB{S:Sto}:∀{n:Nat} {d e:D},d.und 0=M->e.und 0=M->jJ S n d e=jJ [] n d e
 |0,_,_,_,_=>rfl
 |n + 1,d,e,h,i=>by
  rw[jJ,jJ,jg h,jg i];cases HQ d e with
  |some b=>rfl
  |none=>
   cases h1:d6 [] d with
   |none=>rfl
   |some p=>
    cases h2:d6 [] e with
    |none=>rfl
    |some q=>
     dsimp only;have k:=iq h h1;have j:=iq i h2;rw[oH (f:=gr S n) (f':=gr [] n) (g:=jJ S n) (g':=jJ [] n) (λx c y a=>vV (gG k c) (gG j a)) λx c y a=>vB (gG k c) (gG j a)]
open Classical in
noncomputable def rkV(ws:List dB)(x:dB):Nat:=ws.findIdx λy=>decide (y=x)
theorem yF{ws:List dB}{x:dB}(h:x∈ws):ws[rkV ws x]?=Z x:=by
 have a:rkV ws x<ws.length:=List.findIdx_lt_length_of_exists ⟨x,h,by simp⟩;rw[gG1 a];have:=List.findIdx_getElem (w:=a);have e:ws[rkV ws x]=x:=of_decide_eq_true this;rw[e]
noncomputable def kR(ws:List dB)(xs:Array Keyed)(i:Nat):Nat:=(xs[i]?.map λp=>rkV ws p.1).getD 0
theorem kq{ws:List dB}{xs ys:Array Keyed}{i j:Nat}(h:xs[i]?=ys[j]?):kR ws xs i=kR ws ys j:=by unfold kR;rw[h]
noncomputable def Up(ws:List dB)(xs:Array Keyed)(k:Nat):Prop:=∀i j,i<j->j<k->kR ws xs i<kR ws xs j
structure lj (prog:dF)(w:dH)(A:dG)(s:dD)(κ:SortKind)(ws:List dB)(a₀:Array Keyed):Prop where
 nd:ws.Nodup
 keys:(a₀.toList.map (·.1)).Perm ws
 lt:∀(x y:dB) (i j:Nat),ws[i]?=some x->ws[j]?=some y->i≠j -> ∀(E:dB->dD->Prop) (Q:Bool->dD->Prop),Q (decide (i<j)) s->dM (model prog w) A (keyLt' κ x y) Q E s
section
variable{prog:dF}{w:dH}{A:dG}{E:dB->dD->Prop}{s:dD}{κ:SortKind}{ws:List dB}{a₀:Array Keyed}
theorem lj.at_(C:lj prog w A s κ ws a₀){xs:Array Keyed}(p:xs.Perm a₀){i:Nat}(hi:i<a₀.size):∃x q,xs[i]?=Z (x,q)/\ws[kR ws xs i]?=Z x:=by
 have a:i<xs.size:=by rw[p.size_eq];exact hi
 refine⟨xs[i].1,xs[i].2,aG1 a,?_⟩;have b:xs[i]∈a₀.toList:=(cg.mp p).mem_iff.mp (by simp);have:=yF (C.keys.mem_iff.mp (ci.mpr ⟨_,b,O⟩));unfold kR;rw[aG1 a];exact this
theorem lj.inj(C:lj prog w A s κ ws a₀){xs:Array Keyed}(p:xs.Perm a₀){i j:Nat}(hi:i<a₀.size)(e:j<a₀.size)(h:kR ws xs i=kR ws xs j):i=j:=by
 obtain⟨x,q,c,b⟩:=C.at_ p hi;obtain⟨y,r,f,d⟩:=C.at_ p e;rw[h,d]at b;cases b;have nd:(xs.toList.map (·.1)).Nodup:=(((cg.mp p).map (·.1)).trans C.keys).nodup_iff.mpr C.nd;have a:(xs.toList.map (·.1))[i]?=Z x:=by rw[gP1,aT1,c];rfl
 have g:(xs.toList.map (·.1))[j]?=Z x:=by rw[gP1,aT1,f];rfl
 exact(List.getElem?_inj (gE1.mp a).1 nd).mp (a.trans g.symm)
theorem DH(C:lj prog w A s κ ws (pairsOf vs)){xs:Array Keyed}(p:xs.Perm (pairsOf vs))(u:Up ws xs (pairsOf vs).size):xs.map (·.2)=ws.toArray:=by
 have m:ws.length=(pairsOf vs).size:=by rw[<- C.keys.length_eq,lM1];simp
 have a:∀i,i<(pairsOf vs).size->i<=kR ws xs i:=by
  intro i
  induction i with
  |zero=>intro _;lia
  |succ i ih=>intro h;have:=ih (by lia);have:=u i (i+1) (by lia) h;lia
 have b:∀d i,i+d+1=(pairsOf vs).size->kR ws xs i<=i:=by
  intro d
  induction d with
  |zero=>
   intro i h;obtain⟨x,q,_,f⟩:=C.at_ p (i:=i) (by lia);have:=(gE1.mp f).1;lia
  |succ d ih=>
   intro i h;have:=ih (i+1) (by lia);have:=u i (i+1) (by lia) (by lia);lia
 apply Array.ext
 ·rw[Array.size_map,p.size_eq,<- m];simp
 ·intro i h1 h2;rw[Array.size_map,p.size_eq]at h1;have k:kR ws xs i=i:=Nat.le_antisymm (b ((pairsOf vs).size-1-i) i (by lia)) (a i h1);obtain⟨x,q,e,f⟩:=C.at_ p h1;rw[k]at f;have c:(x,q)∈(pairsOf vs).toList:=(cg.mp p).mem_iff.mp (cj.mpr (ck e));rw[pairsOf_toList]at c;have l:x=q:=(mem_zip_self c).1;have j:(xs.map (·.2))[i]?=Z q:=by rw[Array.getElem?_map,e];rfl
  have g:ws.toArray[i]?=Z x:=by rw[cm];exact f
  rw[aG1 (by rw[Array.size_map,p.size_eq];exact h1)]at j;rw[aG1 h2]at g;rw[Option.some.inj j,Option.some.inj g,l]
end
section
variable{prog:dF}{w:dH}{A:dG}{E:dB->dD->Prop}{s:dD}
theorem zd{p q:dB}{b:Bool}{Q:Bool->dD->Prop}(r:AM A.in1 s p q b)(h:Q b s):dM (model prog w) A (oneLt' J p q) Q E s:=by
 rw[oneLt'_eq];simp only[bF1,if_false];exact wB1 (wpAny_of_in1 (r prog w E _ (wpAny_truthy_bool h)))
theorem iB(f:Bool)(x y:dB):keyLt' (tuples' f) x y=(do
  let xs<-Builtin.List.listItems x
  let ys<-Builtin.List.listItems y
  for ((p,q),i) in (xs.toList.zip ys.toList).zipIdx do
   if !(<- eqBool p q)then return<-oneLt' (f&&i == 0) p q
  return decide (xs.size<ys.size)):=rfl
theorem E1{a b:dE}{f zs:List dB}{k:Bool}{Q:Bool->dD->Prop}(ha:IsTup s.heap a f.toArray)(hb:IsTup s.heap b zs.toArray)(L:tw A s f zs k)(h:Q k s):
  dM (model prog w) A (keyLt' (tuples' J) (.ref a) (.ref b)) Q E s:=by
 rw[iB];obtain⟨o,m,y,_,r⟩:=ha;obtain⟨v,u,B,_,n⟩:=hb;refine wB1 (listItems_at m r (wB1 (listItems_at u n ?_)));simp only[Bool.false_and];refine wB1 (wpAny_mono (wpAny_forIn_list _ (λrest c s'=>s'=s/\c=(Y,()) /\ ∃(i:Nat) (vs ws:List dB),rest=(vs.zip ws).zipIdx i/\tw A s vs ws k/\vs.length+zs.length=ws.length+f.length)
  (λc s'=>s'=s/\(c=(Z k,())\/(c=(Y,())/\k=decide (f.length<zs.length)))) ?_ ?_ _ _ ⟨O,O,0,f,zs,O,L,by lia⟩) ?_ λ_ _ e=>e)
 ·rintro x rest c s' ⟨rfl,rfl,i,vs,ws,d,j,g⟩;cases j with
  |nn=>simp at d
  |nc _ _=>simp at d
  |cn _ _=>simp at d
  | @eq p q ps l _ e t=>
   rw[bV,bM]at d;cases d;refine wB1 (e.of_in1 prog w E _ ?_);simp only[b7,bF1,if_false];exact wP1 ⟨O,O,i+1,ps,l,O,t,by simp at g;lia⟩
  | @lt p q ps l _ e t=>
   rw[bV,bM]at d;cases d;refine wB1 (e.of_in1 prog w E _ ?_);simp only[cp,if_true];exact wB1 (zd t (wP1 ⟨O,.inl O⟩))
 ·rintro c s' ⟨rfl,rfl,i,vs,ws,d,j,g⟩;refine⟨O,.inr ⟨O,?_⟩⟩;cases j with
  |nn=>simp at g;rw[ai (by lia)]
  |nc _ _=>simp at g;rw[ah (by lia)]
  |cn _ _=>simp at g;rw[ai (by lia)]
  |eq _ _=>simp at d
  |lt _ _=>simp at d
 ·rintro c s' ⟨rfl,z⟩;rcases z with rfl|⟨rfl,z⟩
  ·exact wP1 h
  ·refine wP1 ?_;rw[sT1,sT1,<- z];exact h
theorem kf{ao:Model}{α β:Type}{f:α->Sem β}{P:α->β->Prop}:∀ {l:List α} {Q:List β->dD->Prop},(∀ v∈l,∃ r,P v r /\ ∀ Q:β->dD->Prop,Q r s->dM ao A (f v) Q E s) ->
  (∀rs,rs.length=l.length->(∀r∈rs,∃v∈l,P v r)->Q rs s)->dM ao A (l.mapM f) Q E s
 |[],Q,_,q=>by rw[List.mapM_nil];exact wP1 (q [] rfl λr a=>by cases a)
 |v::l,Q,h,q=>by
  rw[List.mapM_cons];obtain⟨r,p,a⟩:=h v mS1;refine wB1 (a _ ?_);refine wB1 (kf (λv b=>h v (mC1 _ b)) λrs e c=>?_);refine wP1 (q (r::rs) (by rw[lC1,lC1,e]) λx g=>?_);rcases aF.mp g with z|z
  ·exact⟨v,mS1,by rw[z];exact p⟩
  ·obtain⟨d,h1,h2⟩:=c x z;exact⟨d,mC1 _ h1,h2⟩
theorem sG(v:dB):firstOfTuple' v=(do
  if(<- typeOf v) != .type "tuple" then return Y
  return (<- Builtin.List.listItems v)[0]?):=rfl
theorem E3{vs:List dB}{Q:SortKind->dD->Prop}(n:vs≠[])(h:∀ v∈vs,∃ a p ps b c,v = .ref a/\IsTup s.heap a (p::ps).toArray/\p = .ref b/\IsTup s.heap b c)(q:Q (tuples' false) s):
  dM (model prog w) A (keyKind' vs.toArray) Q E s:=by
 rw[keyKind'_eq,cq,<- bind_pure_comp];refine wB1 (wB1 (kf (P:=λ_ r=>∃b c,r=Z (.ref b)/\IsTup s.heap b c) (λv i=>?_) λrs H l=>wP1 ?_))
 ·obtain⟨a,p,ps,b,c,rfl,⟨o,g,u,_,G⟩,rfl,m⟩:=h v i;refine⟨Z (.ref b),⟨b,c,O,m⟩,λQ q=>?_⟩;rw[sG];refine wB1 (wpAny_typeOf (T:="tuple") ⟨o,g,u⟩ ?_);rw[aj (by decide)];refine wB1 (listItems_at g G (wP1 ?_));simpa using q
 ·have C:rs.toArray.all (·.isSome)=true:=by
   rw[cr,bD];intro r j;obtain⟨v,_,b,c,e,_⟩:=l r j;rw[e];rfl
  rw[ak C];refine wB1 (wpAny_rule ?_);rw[oneTypeOnly'_eq];have D:rs.toArray.filterMap id=(rs.filterMap id).toArray:=by simp
  rw[D,cq,<- bind_pure_comp];refine wB1 (wB1 (wB1 (kf (P:=λ_ t=>t=Value.type "tuple") (λv i=>?_) λf d m=>wP1 ?_)))
  ·obtain⟨r,j,e⟩:=aL.mp i;obtain⟨I,_,b,c,B,⟨o,g,u,_⟩⟩:=l r j;rw[B]at e;cases e;exact⟨_,O,λQ q=>wpAny_typeOf (T:="tuple") ⟨o,g,u⟩ q⟩
  ·cases f with
   |nil=>
    exfalso;cases rs with
    |nil=>exact n (cu.mp H.symm)
    |cons r rs=>
     obtain⟨_,_,b,_,e,_⟩:=l r mS1;rw[e]at d;simp at d
   |cons t f=>
    have all:∀x∈t::f,x=Value.type "tuple":=λx k=>by obtain⟨_,_,z⟩:=m x k;exact z
    have F:=all t mS1;subst F;have y:((Value.type "tuple"::f).toArray.all λx=>x == Value.type "tuple")=M:=by
     rw[cr,bD];intro x k;rw[all x k];rfl
    show dM _ _ (pure (if((Value.type "tuple"::f).toArray.all λx=>x == Value.type "tuple")=M then Z (Value.type "tuple")else Y)) _ _ _;rw[ak y];exact wP1 (wP1 q)
end
section
variable{prog:dF}{w:dH}{A:dG}{E:dB->dD->Prop}{R:Result->dD->Prop}
end
section
variable{prog:dF}{w:dH}{A:dG}{E:dB->dD->Prop}{s:dD}
end
mutual
theorem tT{n:Nat}:∀k:TK,(tkD k).und n=M
 | .non=>rfl
 | .int _=>rfl
 | .tup xs=>by rw[tkD,D.und];exact uW xs
theorem uW{n:Nat}:∀ks:List TK,D.unds n (hE ks)=M
 |[]=>rfl
 |k::ks=>by rw[hE,D.unds,tT k,uW ks];rfl
end
section
variable{X:Cx}
end
noncomputable def FJ(H:Hp)(a:dE):Prop:=(∃kvs,H a=Z (.dK kvs)) \/ ∃xs,H a=Z (.ext (gb a xs))
section
variable{X:Cx}
theorem Ca{ag:List (dE×Obj)}{σ:L2.St}{H:Hp}{s:dD}{a:dE}(I:Inv X ag σ H s)(h:FJ H a):(a == sysModules)=J /\ ∃o,s.heap.get? a=Z o/\o.ExactDict:=by
 rcases h with⟨kvs,e⟩|⟨xs,e⟩
 ·obtain⟨_,b,vs,_,o,es,ep,h1,h2,_⟩:=I.hok a _ e;exact⟨b,o,h1,h2⟩
 ·obtain⟨⟨b,_,o,es,ep,h1,h2,_⟩,_⟩:=(show eN X.prog X.w H s.heap a (.ext (gb a xs))from I.hok a _ e);exact⟨b,o,h1,h2⟩
end
abbrev xG(h:dN)(it d:dE)(i n ep:Nat):Prop:=h.get? it=Z {cls:=.type "dict_keyiterator",dict:=Y,data:=.fields #[.ref d,.int i 0,.int n 0,.int ep 0],slots:= #[]}
section
variable{prog:dF}{w:dH}{A:dG}{E:dB->dD->Prop}{s:dD}
theorem B4{it d:dE}{i ep:Nat}{es:Array DictEntry}{o:Obj}{Q:Option dB->dD->Prop}(f:xG s.heap it d i es.size ep)(hd:s.heap.get? d=Z o)(k:o.data = .dict es ep)(hi:i<es.size)(q:∀h',xG h' it d (i+1) es.size ep->Heap.SameBut it s.heap h'->Q (Z es[i].key) {s with heap:=h'}):dM (model prog w) A (pyNext (.ref it)) Q E s:=by
 have j:s.TypeIs (.ref it) "dict_keyiterator":=⟨_,f,O⟩;unfold pyNext;refine wB1 (wpAny_attempt (wpAny_callSpecial?_slot (name:=Str.ofString "__next__") j PySem.F.slot_dict_keyiterator_next
  (wE1 PySem.F.slot_dict_keyiterator_next j PySem.F.entry_dict_keyiterator_next ?_ (PySem.F.args_dict_keyiterator_next_1 _))))
 refine wB1 (wP1 (wB1 (wB1 (wB1 (wpAny_typeNameOfWhole_keyiter j (wP1 ?_))))));refine wB1 (wpAny_fieldsOf f O ?_);have h:Builtin.Dict_items.ownsTuple "dict_keyiterator"=J:=by decide
 simp only[h,bF1,if_false];show dM _ _ (if(Value.ref d == Value.none)=M then _ else _) _ _ s;rw[aj (show¬ ((Value.ref d == Value.none)=M)from aK)];refine wB1 (wP1 (wB1 (wpAny_dictEntries hd k ?_)));rw[aj (by simp)];refine wB1 (wP1 (wB1 (wpAny_dictEpoch hd k ?_)));rw[aj (by simp)];refine wP1 ?_;simp only[show¬ ((i:Int)<0)from by lia,if_false,Int.toNat_natCast,aG1 hi];refine wB1 (wB1 (wpAny_typeNameOfWhole_keyiter j (wP1 ?_)));refine wB1 (wpAny_isOneOf_keyiter j ?_);show dM _ _ (setField (.ref it) 1 (rawInt ((i:Int)+1)) >>= _) _ _ s;refine wB1 (wS1 f (by simp) λb a g=>?_);replace a:xG b it d (i+1) es.size ep:=by
  have e:((i+1:Nat):Int)=(i:Int)+1:=by lia
  unfold xG;rw[e];simpa[rawInt]using a
 have c:Shared.TypeIs {s with heap:=b} (.ref it) "dict_keyiterator":=⟨_,a,O⟩;refine wB1 (wpAny_holding (wB1 (wpAny_isOneOf_keyiter c ?_)));show dM _ _ (pure es[i].key) _ _ _;exact wP1 (wP1 ⟨_,O,wP1 (q b a g)⟩)
theorem EZ{it d:dE}{i ep:Nat}{es:Array DictEntry}{o:Obj}{Q:Option dB->dD->Prop}(n:A.handled=Y)(c:xG s.heap it d i es.size ep)(hd:s.heap.get? d=Z o)(h:o.data = .dict es ep)(hi:es.size<=i)(q:∀h',(∀b o,b≠it->s.heap.get? b=Z o->h'.get? b=Z o)->Q Y {s with heap:=h'}):dM (model prog w) A (pyNext (.ref it)) Q E s:=by
 have j:s.TypeIs (.ref it) "dict_keyiterator":=⟨_,c,O⟩;unfold pyNext;refine wB1 (wpAny_attempt (wpAny_callSpecial?_slot (name:=Str.ofString "__next__") j PySem.F.slot_dict_keyiterator_next
  (wE1 PySem.F.slot_dict_keyiterator_next j PySem.F.entry_dict_keyiterator_next ?_ (PySem.F.args_dict_keyiterator_next_1 _))))
 refine wB1 (wP1 (wB1 (wB1 (wB1 (wpAny_typeNameOfWhole_keyiter j (wP1 ?_))))));refine wB1 (wpAny_fieldsOf c O ?_);have g:Builtin.Dict_items.ownsTuple "dict_keyiterator"=J:=by decide
 simp only[g,bF1,if_false];show dM _ _ (if(Value.ref d == Value.none)=M then _ else _) _ _ s;rw[aj (show¬ ((Value.ref d == Value.none)=M)from aK)];refine wB1 (wP1 (wB1 (wpAny_dictEntries hd h ?_)));rw[aj (by simp)];refine wB1 (wP1 (wB1 (wpAny_dictEpoch hd h ?_)));rw[aj (by simp)];refine wP1 ?_;simp only[show¬ ((i:Int)<0)from by lia,if_false,Int.toNat_natCast,cv hi];refine wB1 (wB1 (wpAny_typeNameOfWhole_keyiter j (wP1 ?_)));show dM _ _ (setField (.ref it) 0 .none >>= _) _ _ s;refine wB1 (wS1 c (by simp) λl k f=>?_);show dM _ _ (newExc (.type "StopIteration") [] >>= _) _ _ _;refine wB1 ?_;simp only[newExc,newTuple];refine wB1 (wO1 ?_ (by size_fits));refine wB1 (m:=firstArgMember _ _) (wpAny_of_eq (a:=Value.none) (by first|rfl|(simp only[firstArgMember];rfl)) ?_);refine wO1 ?_ (by size_fits);simp only[raiseNew];refine wB1 (wpAny_handled ?_);rw[show A.in1.handled=Y from n];refine wB1 (wP1 (wpAny_throw ?_));refine wB1 (wpAny_isInstance (T:="StopIteration") (b:=M) ⟨_,hS1 _ O,O⟩ isSubtype_stop ?_);exact wP1 (q _ λb o p e=>hP1 _ (hP1 _ (f.extBut b o p e)))
theorem B5 {d:dE}{es:Array DictEntry}{ep:Nat}{o:Obj}{Q:dB->dD->Prop}(hm:(d == sysModules)=false)(hd:s.heap.get? d=some o)(hc:o.cls = .type "dict")(a:o.data = .dict es ep)(hn:es.size<=dL)
  (q:Q (.ref s.heap.objs.size) {s with heap:=s.heap.push {cls:=.type "dict_keyiterator",data:=.fields #[.ref d,.int 0 0,.int es.size 0,.int ep 0]}}):dM (model prog w) A (pyIter (.ref d)) Q E s:=by
 have b:s.TypeIs (.ref d) "dict":=⟨o,hd,hc⟩;refine wpAny_pyIter_slot b PySem.F.slot_dict_iter (wE1 PySem.F.slot_dict_iter b PySem.F.entry_dict_iter ?_ (PySem.F.args_dict_iter_1 _));unfold Builtin.«dict.__iter__»;refine wB1 ?_;unfold Builtin.Dict.dictSlotNone;refine wB1 (wpAny_notOrdered_dict b ?_);show dM _ _ (pure (Value.ref d)) _ _ s;refine wP1 ?_;show dM _ _ (Builtin.Dict.showsAll d >>= _) _ _ s;unfold Builtin.Dict.showsAll;rw[aj (by rw[hm];exact aK)];refine wB1 (wP1 (wB1 (wpAny_dictEntries hd a (wB1 (wpAny_dictEpoch hd a (wB1 ?_))))));refine wO1 (wP1 ⟨_,O,"dict_keyiterator",_,⟨_,hS1 _ O,O⟩,PySem.F.slot_dict_keyiterator_next.lookup,?_⟩);simpa[rawInt]using q
end
section
variable{prog:dF}{w:dH}{A:dG}{E:dB->dD->Prop}{R:Result->dD->Prop}
end
section
variable{X:Cx}
theorem KT.keys{K:Fg1}{H:Hp}{mu:List dE}:∀{ks:List (TK×D)} {ws:List (TK×dE×dB)},KT K H mu ks ws->d0 K H mu (ks.map λp=>tkD p.1) (ws.map λx=>V.ref x.2.1)
 |_,_,.nil=>.nil
 |_,_,.cons ⟨z,d,k,_⟩ t=>.cons k (KT.keys t)
noncomputable def Ip(X:Cx)(td ty tx:TE):TE:=fun σ H Q=>td σ H λx H1=>∃a,x = .ref a/\FJ H1 a/\ty σ H1 λy H2=>tx σ H2 λz H3=>
 ∀ag s u r,Inv X ag σ H3 s->d7 y u->d7 z r->dM (model X.prog X.w) X.A (call (.builtin "dict.get") [.ref a,u,r]) (EP X ag σ Q) X.xe s
theorem Eg {o e f:Expr}{apos cpos:Pos}{td ty tx:TE}(ho:PE X o td)(he:PE X e ty)(hf:PE X f tx)(m:M2 X o "get" apos e f cpos):PE X (.Call (.Attribute o "get" apos) [e,f] [] cpos) (Ip X td ty tx):=by
 intro ag s σ H Q I h;refine wpAny_Call_method m.base m.few m.line PySem.F.plainAttrs_dict PySem.F.slot_dict_get PySem.F.type_dict_get (fg (ho ag s σ H _ I h) λu k ⟨x,H1,j,C,a,ex,d,w⟩=>?_);subst ex;obtain rfl:u=Value.ref a:=C;obtain⟨_,o',i,c⟩:=Ca j d;refine⟨⟨o',i,c.1⟩,λb r=>by cases r;exact⟨o',i,c.2.1⟩,?_⟩;rw[m.trees];refine Calls.callWith_builtin O (Calls.evalArgs_plain (Calls.spliced_cons (fg (he ag k σ H1 _ j w) λp n ⟨y,H2,q,A,B⟩=>
  Calls.spliced_cons (fg (hf ag n σ H2 _ q B) λt l ⟨z,E,D,v,g⟩=>Calls.spliced_nil ?_))))
 exact g ag l p t D A v
noncomputable def xm(S:Sto)(n:Nat):Option (List (TK×D)):=match S[n]? with
 |some (.dcT kvs)=>Z kvs
 |some (.dct [])=>Z []
 |_=>Y
theorem v3{H:Hp}{mu:List dE}{S:Sto}{n:Nat}{a:dE}{kvs:List (TK×D)}(hs:Sim X.K H mu S)(hn:mu[n]? = some a)(h:xm S n=some kvs):
  FJ H a /\ ∃xs,KT X.K H mu kvs xs /\ ∀ag σ s,Inv X ag σ H s->(a == sysModules)=J/\s.heap.DictOfH (fP X.prog X.w) a xs:=by
 unfold xm at h;split at h
 ·rename_i ks c;cases h;obtain⟨xs,h1,h2,l⟩:=hs.dcT c hn;exact⟨.inr ⟨xs,h1⟩,xs,h2,λag σ s I=>sQ I h1 h2⟩
 ·rename_i c;cases h;obtain⟨ws,h1,h2⟩:=hs.dct c hn;cases h2;refine⟨.inl ⟨[],h1⟩,[],.nil,λag σ s I=>?_⟩;obtain⟨_,b,vs,g,o,es,ep,k,e,f,j⟩:=I.hok a _ h1;cases g;have d:es.toList=[]:=cu.mp (by have:=j.2.1.length;simpa using this);exact⟨b,o,es,ep,k,e,f,d,λx i=>(by cases i),bq⟩
 ·cases h
noncomputable def qg(m a b:FE):FE:=λr S=>(m r S).bind λp=>match p.1 with
 | .ref n=>(xm p.2 n).bind λ_=>(a r p.2).bind λq=>(b r q.2).bind λt=>(xm t.2 n).bind λkvs=>(keyT q.1).map λk=>((d2 kvs k).getD t.1,t.2)
 |_=>Y
theorem wv {o e f:Expr}{apos cpos:Pos}{m a b:FE}(hu:X.A.units+64<cLine)(ho:XE X o m)(he:XE X e a)(hf:XE X f b)(hm:M2 X o "get" apos e f cpos:=by exact⟨O,O,O,O⟩):XE X (.Call (.Attribute o "get" apos) [e,f] [] cpos) (qg m a b):=
 ⟨eU (Eg ho.h he.h hf.h hm) <| by
  rintro σ H Q ⟨r,mu,S,d,S',he,P,hm,hc⟩;obtain⟨⟨d1,G⟩,K,hm⟩:=oB1.mp hm;refine⟨r,mu,S,d1,G,he,P,K,λv1 H1 mu1 j ao C=>?_⟩;dsimp only at hm;split at hm
  ·rename_i n;obtain⟨kv0,B,hm⟩:=oB1.mp hm;cases ao with
   | @ref _ D am=>
    refine⟨D,O,(v3 C am B).1,?_⟩;obtain⟨⟨U,E⟩,N,hm⟩:=oB1.mp hm;obtain⟨⟨d3,S3⟩,au,hm⟩:=oB1.mp hm;refine⟨r,mu1,G,U,E,he.ext j,C,N,λv2 H2 y h r2 s2=>?_⟩;refine⟨r,y,E,d3,S3,(he.ext j).ext h,s2,au,λT l g i wq A=>?_⟩;obtain⟨kvs,W,hm⟩:=oB1.mp hm;obtain⟨k,ek,hm⟩:=oM1.mp hm;cases hm;intro ag s u w I L t;obtain⟨_,xs,F,R⟩:=v3 A (i.at (h.at am)) W;obtain⟨q,dd⟩:=R ag σ s I;obtain⟨b,rfl,rfl,_,_,hi⟩:=iX I (r2.ext i) L ek;refine call_meetsIn PySem.F.slot_dict_get dd.typeIs PySem.F.entry_dict_get (PySem.F.args_dict_get_3 _ _ _) (meetsH_dict_get_default (fP X.prog X.w) D b q w) ⟨iu hu,k,xs,hi,dd,?_⟩;show EP X ag σ Q (((atKey xs k).map (·.2)).getD w) _;cases ez:d2 kvs k with
    |none=>
     have c:=(F.look (k:=k)).2;rw[ez]at c hc;have x:atKey xs k=Y:=by
      cases x:atKey xs k with
      |none=>rfl
      |some _=>rw[x]at c;cases c
     rw[x];exact⟨T,l,I.tok _,t,hc _ l g ((j.trans h).trans i) wq A⟩
    |some z=>
     obtain⟨p,v,V,aq,rd⟩:=F.look.1 z ez;rw[ez]at hc;rw[V];exact⟨v,l,I.tok _,aq,hc _ l g ((j.trans h).trans i) rd A⟩
  ·cases hm⟩
end
noncomputable def NF(X:Cx)(a:dE):Prop:=(∀xs,X.H₀ a≠Z (.tup xs))/\(∀o v,X.H₀ a≠Z (.frz o v)) /\ ∀ps,X.H₀ a≠Z (.tbl ps)
section
variable{X:Cx}{ag:List (dE×Obj)}{σ:L2.St}{H:Hp}{s:dD}{a:dE}{u v:HO}
theorem sv(I:Inv X ag σ H s)(e:H a=Z u)(d:NF X a)(h1:∀c,u ≠ .own c)(h2:∀xs,u ≠ .tup xs)(new:eN X.prog X.w H s.heap a v):Inv X ag σ (upd H a v) s:=by
 have ne:∀{b:dE},H b=Y->b≠a:=λ{b} z=>by rintro rfl;rw[e]at z;cases z
 have g:∀b c,H b=Z (.own c)->upd H a v b=Z (.own c):=λb c z=>by
  rw[dY (by rintro rfl;rw[e]at z;cases z;exact h1 _ O)];exact z
 have f:∀b xs,H b=Z (.tup xs)->upd H a v b=Z (.tup xs):=λb xs z=>by
  rw[dY (by rintro rfl;rw[e]at z;cases z;exact h2 _ O)];exact z
 refine⟨I.ok,I.os,I.bare,⟨I.base.keep,I.base.slot,λb o q n k=>?_,I.base.there,λb xs q=>?_,λb o w q=>?_,λb ps q=>?_⟩,I.loc,I.cell,?_,λx c q=>?_,λp j=>?_,λb w q=>?_,I.len⟩
 ·have z:=I.base.free b o q n k;rw[dY (ne z)];exact z
 ·rw[dY (by rintro rfl;exact d.1 _ q)];exact I.base.tups b xs q
 ·rw[dY (by rintro rfl;exact d.2.1 _ _ q)];exact I.base.frzs b o w q
 ·rw[dY (by rintro rfl;exact d.2.2 _ q)];exact I.base.tbls b ps q
 ·rw[dY (ne I.free)];exact I.free
 ·rw[dY (ne (I.freeC x c q))];exact I.freeC x c q
 ·obtain⟨i,p2,l⟩:=I.pin p j;exact⟨i,by rw[dY (ne p2)];exact p2,l⟩
 ·by_cases h:b=a
  ·subst h;rw[d4]at q;cases q;exact new.stay (λc o _ z=>z) (λc z=>g c _ z) λc xs z=>f c xs z
  ·rw[dY h]at q;exact(I.hok b w q).stay (λc o _ z=>z) (λc z=>g c _ z) λc xs z=>f c xs z
end
inductive xH (a:dE):List (TK×dE×dB)->HO->Prop
 |ext (xs:List (TK×dE×dB)):xH a xs (.ext (gb a xs))
 |dK:xH a [] (.dK [])
noncomputable def ItD(a:dE)(o:Obj)(xs:List (TK×dE×dB)):It:=
 ⟨λi H=>(∃u,H a=Z (.frz o u))/\i<xs.length,λi H x H'=>H'=H /\ ∃q,xs[i]?=Z q/\x = .ref q.2.1,λi H=>(∃u,H a=Z (.frz o u))/\xs.length<=i⟩
theorem wy{P:dF}{w:dH}{K:Fg1}{tg:Expr}{a it:dE}{o:Obj}{xs:List (TK×dE×dB)}{es:Array DictEntry}{ep:Nat}(hd:o.data = .dict es ep)(c:es.toList=xs.map fun x=>(⟨x.1.hash,.ref x.2.1,x.2.2⟩:DictEntry)):
  tu P w K tg (ItD a o xs) [it] it (λi h=>xG h it a i es.size ep) where
 mem:=by simp
 obj:=λi h st b d=>by
  have e:b=it:=by simpa using d
  subst e;exact⟨_,st,λv z=>by cases z⟩
 keep:=λi h h' st k=>k it (by simp) _ st
 item:=by
  intro X j p q hc i ag s σ H E I f st A;subst j p q;obtain⟨⟨u,B⟩,hi⟩:=A;obtain⟨g,_⟩:=(show eN X.prog X.w H s.heap a (.frz o u)from I.hok a _ B);have y:es.size=xs.length:=by rw[<- aJ,c,lM1]
  obtain⟨r,n,C,m,l,t⟩:=f it (by simp);refine B4 st g hd (by omega) λh' st' am=>?_;have D:Inv X ag σ H {s with heap:=h'}:=I.turned (t':=s.toks) (λb o d e=>(am.2 b d).trans e) r n m l t;have F:es[i].key = .ref (xs[i]).2.1:=by
   have:es.toList[i]?=(xs.map λx=>(⟨x.1.hash,.ref x.2.1,x.2.2⟩:DictEntry))[i]?:=by rw[c]
   rw[aT1,aG1 (by omega),gP1,gG1 hi]at this;have:=Option.some.inj this;rw[this]
  refine⟨_,O,vN (s:={s with heap:=h'}) st' O O (by decide) ⟨.ref (xs[i]).2.1,H,D,F,⟨O,_,gG1 hi,O⟩,st',λb d=>(f b d).1⟩⟩
 done:=by
  intro X j p q hc i ag s σ H E I f st A;subst j p q;obtain⟨⟨u,B⟩,hi⟩:=A;obtain⟨g,_⟩:=(show eN X.prog X.w H s.heap a (.frz o u)from I.hok a _ B);have y:es.size=xs.length:=by rw[<- aJ,c,lM1]
  obtain⟨r,n,C,m,l,t⟩:=f it (by simp);exact EZ (I.ok.hd hc) st g hd (by omega) λh' G=>⟨O,I.turned (t':=s.toks) (λb o d e=>G b o d e) r n m l t⟩
 self:=λ_ _ _ _ _ st h=>wpAny_pyIter_keyiter ⟨_,st,O,O⟩ h
noncomputable def G5(X:Cx)(tl:TE):TI:=fun σ H R=>tl σ H λx H1=>∃a xs u,x = .ref a/\H1 a=Z u/\xH a xs u/\xs.length<=dL /\ ∀o,wp a xs o->NF X a->R (ItD a o xs) (upd H1 a (.frz o u))
theorem Fh{X:Cx}{ag:List (dE×Obj)}{σ:L2.St}{H:Hp}{s:dD}{a:dE}{u:HO}{xs:List (TK×dE×dB)}(I:Inv X ag σ H s)(e:H a=Z u)(h:xH a xs u):∃o,s.heap.get? a=Z o/\wp a xs o:=by
 cases h with
 |ext xs=>
  obtain⟨⟨h1,h2,o,es,ep,b,f,c,d⟩,_⟩:=(show eN X.prog X.w H s.heap a (.ext (gb a xs))from I.hok a _ e);exact⟨o,b,h1,h2,f,es,ep,c,d⟩
 |dK=>
  obtain⟨_,h1,vs,h2,b⟩:=(show eN X.prog X.w H s.heap a (.dK [])from I.hok a _ e);cases h2;obtain⟨o,es,ep,b,f,c,d,_⟩:=nw b;exact⟨o,b,h1,bq,f,es,ep,c,d⟩
theorem Fg{X:Cx}{ag:List (dE×Obj)}{σ:L2.St}{H:Hp}{s:dD}{a:dE}{u:HO}{xs:List (TK×dE×dB)}(I:Inv X ag σ H s)(e:H a=Z u)(h:xH a xs u):NF X a:=by
 refine⟨λys q=>?_,λo v q=>?_,λps q=>?_⟩
 ·have:=I.base.tups a ys q;rw[e]at this;cases this;cases h
 ·have:=I.base.frzs a o v q;rw[e]at this;cases this;cases h
 ·obtain⟨m,z⟩:=I.base.tbls a ps q;rw[e]at z;cases z;cases h
theorem D8{X:Cx}{tg l:Expr}{tl:TE}(r:PE X l tl):PI X tg l (G5 X tl):=by
 intro ag s σ H R I h;refine fg (r ag s σ H _ I h) λv s1 ⟨x,H1,d,t,w⟩=>?_;obtain⟨a,xs,u,e,g,f,E,q⟩:=w;subst e;cases t;obtain⟨o,k,i⟩:=Fh d g f;have p:=Fg d g f;have q:=q o i p;obtain⟨A,D,C,es,ep,n,m⟩:=i;have B:es.size=xs.length:=by rw[<- aJ,m,lM1]
 refine B5 A k C.1 n (by lia) ?_;have j:Inv X ag σ (upd H1 a (.frz o u)) s1:=sv d g p (λc z=>by subst z;cases f) (λc z=>by subst z;cases f) ⟨k,d.hok a _ g⟩;refine⟨s1.heap.objs.size,[s1.heap.objs.size],_,_,_,O,j.kept (t':=s1.toks) λb o e=>hP1 _ e,wy n m,hS1 _ O,λb y=>?_,q⟩;have e:b=s1.heap.objs.size:=by simpa using y
 subst e;exact d.fpOk (nR1 _) (j.hok.fresh (nR1 _))
noncomputable def zM:Ob->Option (List (TK×D))
 | .dcT kvs=>Z kvs
 | .dct []=>Z []
 |_=>Y
noncomputable def lf(k:Nat)(keep:List Nat)(m:FE)(g:FG)(t:FT)(b:FV):FE:=λr S=>(m r S).bind λp=>match p.1 with
 | .ref n=>(p.2[n]?).bind fun ob=>(zM ob).bind fun kvs=>(fM [] g t b (kvs.map fun q=>tkD q.1) (nR k keep r) (p.2.set n (.dcF kvs))).bind fun q=>
   if q.1.length<=dL then Z (.ref q.2.2.length,q.2.2.set n ob++[.lst q.1])else Y
 |_=>Y
section
variable{K:Fg1}{H H':Hp}{mu mu':List dE}{S:Sto}{n:Nat}{a:dE}{o:Obj}{u:HO}
theorem jI.exv{b:dE}(e:xP mu mu' H H')(h:∀o,H b=Z o->H' b=Z o):∀{o:Ob},jI K H mu b o->jI K H' mu' b o
 | .lst _,⟨vs,q,r⟩=>⟨vs,h _ q,r.exv e⟩
 | .dct _,⟨ws,q,r⟩=>⟨ws,h _ q,Paired.mapP r λ_ _ z=>⟨z.1,z.2.exv e⟩⟩
 | .dcT _,⟨ws,q,r,l⟩=>⟨ws,h _ q,Paired.mapP r λ_ _ ⟨z,d,k,v,a,r⟩=>⟨z,d,k.exv e,v,a,r.exv e⟩,l⟩
 | .iset _,q=>⟨h _ q.1,q.2⟩
 | .dcF _,⟨ws,⟨o,u,f,c⟩,r,l⟩=>⟨ws,⟨o,u,h _ f,c⟩,Paired.mapP r λ_ _ ⟨z,d,k,v,a,r⟩=>⟨z,d,k.exv e,v,a,r.exv e⟩,l⟩
 | .tst _,⟨ws,q,r⟩=>⟨ws,h _ q,Paired.mapP r λ_ _ ⟨z,d,k,v,a,r⟩=>⟨z,d,k.exv e,v,a,r.exv e⟩⟩
theorem rj(e:H a=Z (.frz o u))(h1:∀xs,u ≠ .tup xs)(h2:∀xs,u ≠ .lst xs):xP mu mu H (upd H a u) where
 pre:=bn
 tup:=λb xs h=>by
  have ne:b≠a:=by
   rintro rfl;rcases h with h|⟨_,h⟩<;>(rw[e]at h;cases h)
   exact h1 _ O
  rcases h with h|⟨c,h⟩
  ·exact .inl (by rw[dY ne];exact h)
  ·exact .inr ⟨c,by rw[dY ne];exact h⟩
 frl:=λb c xs h=>by
  rw[dY (by rintro rfl;rw[e]at h;cases h;exact h2 _ O)];exact h
theorem Sim.thaw(s:Sim K H mu S){c:Ob}(hn:mu[n]?=Z a)(x:xP mu mu H (upd H a u))(ho:jI K (upd H a u) mu a c):Sim K (upd H a u) mu (S.set n c):=by
 refine⟨by rw[aW];exact s.len,s.nd,λk o' b h1 h2=>?_⟩;by_cases d:n=k
 ·subst d;have h:n<S.length:=by
   have:=(gE1.mp h1).1
   rwa [aW]at this
  rw[aI h]at h1;cases h1;rw[hn]at h2;cases h2;exact ho
 ·rw [gS1 d] at h1;have ne:b≠a:=fun e=>by
   subst e;obtain⟨j,f⟩:=gE1.mp hn;obtain⟨i,g⟩:=gE1.mp h2;exact d ((List.getElem_inj s.nd).mp (f.trans g.symm))
  exact(s.ob k o' b h1 h2).exv x λc e=>by rw[dY ne];exact e
theorem B7(s:Sim K H mu S){ob:Ob}{kvs:List (TK×D)}(h:S[n]? = some ob)(hk:zM ob=some kvs)(hn:mu[n]? = some a):
  ∃xs u,H a=Z u/\xH a xs u/\KT K H mu kvs xs/\xs.length<=dL /\ ∀H' mu',xP mu mu' H H'->H' a=Z u->jI K H' mu' a ob:=by
 cases ob with
 |dcT ks=>
  cases hk;obtain⟨xs,e,r,l⟩:=s.dcT h hn;exact⟨xs,_,e,.ext xs,r,l,λH' mu' x b=>⟨xs,b,Paired.mapP r λ_ _ ⟨z,d,k,v,c,r⟩=>⟨z,d,k.exv x,v,c,r.exv x⟩,l⟩⟩
 |dct ks=>
  cases ks with
  |nil=>
   cases hk;obtain⟨ws,e,r⟩:=s.dct h hn;cases r;exact⟨[],_,e,.dK,.nil,bi _,λH' mu' x b=>⟨[],b,.nil⟩⟩
  |cons _ _=>cases hk
 |_=>cases hk
end
theorem KT.keyOf{K:Fg1}{H:Hp}{mu:List dE}{ks:List (TK×D)}{ws:List (TK×dE×dB)}(h:KT K H mu ks ws){i:Nat}{d:D}(e:(ks.map λq=>tkD q.1)[i]?=Z d){q:TK×dE×dB}(b:ws[i]?=Z q):eJ K H mu d (.ref q.2.1):=by
 obtain⟨v,a,c⟩:=h.keys.get e;rw[gP1,b]at a;cases a;exact c
theorem Ay{X:Cx}{K:Fg1}{k:Nat}{keep:List Nat}{m:FE}{g:FG}{t:FT}{b:FV}{tb:dE->TS}(hb:∀ a E σ H,F8 K a b E σ H->tb a E σ H){σ:L2.St}{H:Hp}{Q:VK}(h:tM K (lf k keep m g t b) σ H Q):
  u5 k keep (G5 X (tM K m)) (DB K g) (yp K t) tb σ H (λv H'=>∃a o u,H' a=Z (.frz o u)/\(∀xs,u ≠ .tup xs)/\NF X a/\Q v (upd H' a u)):=by
 obtain⟨r,mu,S,d,S',he,hs,f,hc⟩:=h;obtain⟨⟨d1,S1⟩,e1,f⟩:=oB1.mp f;cases d1 with
 |ref n=>
  obtain⟨x,eo,f⟩:=oB1.mp f;obtain⟨kvs,ek,f⟩:=oB1.mp f;obtain⟨⟨ys,r2,am⟩,e2,f⟩:=oB1.mp f;dsimp only at f;split at f
  ·rename_i hl;cases f;refine⟨r,mu,S,.ref n,S1,he,hs,e1,λv H1 mu1 x1 r1 s1=>?_⟩;cases r1 with
   | @ref _ a F=>
   obtain⟨xs,u,P,A,C,hz,back⟩:=B7 s1 eo ek F;refine⟨a,xs,u,O,P,A,hz,λo hO nf p s=>?_⟩;have mt:Mut (Z u):=by cases A<;>trivial
   have put:Ext mu1 mu1 H1 (upd H1 a (.frz o u)):=Ext.put P mt (gM1 F);have sf:Sim K (upd H1 a (.frz o u)) mu1 (S1.set n (.dcF kvs)):=s1.put F P mt ⟨xs,⟨o,u,d4,hO⟩,KT.ext put C,hz⟩;have l:p≠a:=by rintro rfl;rw[d4]at s;cases s
   have R:Ext mu1 mu1 (upd H1 a (.frz o u)) (upd (upd H1 a (.frz o u)) p (.lst [])):=Ext.fresh s;have hlen:kvs.length=xs.length:=by have:=C.keys.length;simpa using this
   have J1:ItR K (ItD a o xs) ⟨kvs.map λq=>tkD q.1,[]⟩ mu1 (upd H1 a (.frz o u)):=by
    intro i H2 mu2 am x2 s2 _;have hf:=x2.frz a o u d4;refine⟨λd A=>?_,λh=>⟨⟨u,hf⟩,by rw[lM1]at h;lia⟩⟩;have hi:i<xs.length:=by have:=(gE1.mp A).1;rw[lM1]at this;lia
    refine⟨⟨⟨u,hf⟩,hi⟩,?_⟩;rintro y H3 ⟨rfl,q,eq,rfl⟩;exact⟨.refl _ _,s2,((KT.ext put C).keyOf A eq).exw x2⟩
   refine si (hb p) J1 R.w d4 (sf.notin s) .nil ((C7 k keep (he.ext (x1.trans put))).ext R) (sf.fresh s) e2 (by simpa using hl) fun σ' H' mu' D I wq U V he' s'=>?_;have G:H' a=Z (.frz o u):=I.frz a o u (by rw[dY l.symm];exact d4);have h1:∀xs,u ≠ .tup xs:=λxs z=>by subst z;cases A
   have h2:∀xs,u ≠ .lst xs:=λxs z=>by subst z;cases A
   refine⟨a,o,u,G,h1,nf,?_⟩;have B:=(bY.mp I.pre).2;have na:mu'[n]?=Z a:=by
    obtain⟨t,rfl⟩:=B;rw[gL1 (gE1.mp F).1];exact F
   have ne1:∀{b:dE},H1 b=Y->b≠a:=λ{b} z=>by rintro rfl;rw[P]at z;cases z
   have y:Ext mu1 (mu'++[p]) H1 (upd H' a u):=by
    refine⟨B.trans (bw _ _),λb w e nb=>?_,λb ys e=>?_,λb x w e=>?_,λb W=>?_⟩
    ·have T:b≠a:=λz=>nb (by rw[z];exact gM1 F);have bp:b≠p:=by rintro rfl;rw[dY l,e]at s;cases s
     rw[dY T];exact I.old b w (by rw[dY bp,dY T];exact e) λz=>by
      rcases aF.mp z with z|z
      ·exact bp z
      ·exact nb z
    ·exact(rj (mu:=mu') G h1 h2).tup b ys (I.tup b ys (R.tup b ys (put.tup b ys e)))
    ·have T:b≠a:=by rintro rfl;rw[P]at e;cases e;cases A
     rw[dY T];exact I.frz b x w (R.frz b x w (put.frz b x w e))
    ·rcases aG.mp W with z|z
     ·rcases I.new b (mC1 _ z)with q|q
      ·rcases aF.mp q with q|q
       ·exact .inr (by rw[q];rw[dY l]at s;exact s)
       ·exact .inl q
      ·by_cases au:b=p
       ·exact .inr (by rw[au];rw[dY l]at s;exact s)
       ·rw[dY au]at q;by_cases ao:b=a
        ·exact .inl (by rw[ao];exact gM1 F)
        ·rw[dY ao]at q;exact .inr q
     ·have:b=p:=by simpa using z
      exact .inr (by rw[this];rw[dY l]at s;exact s)
   have tx:=rj (mu:=mu') G h1 h2;have L:Sim K (upd H' a u) mu' (am.set n x):=s'.thaw na tx (back _ _ ⟨B,y.tup,λb x w e=>y.frz b x _ e⟩ d4);have N:upd H' a u p=Z (.lst D):=by rw[dY l];exact wq
   refine hc _ _ (mu'++[p]) (x1.trans y) (by rw[show am.length=(am.set n x).length by simp];exact .ref (fZ L.len p)) ⟨by rw[lA1,lA1,L.len];rfl,?_,λj w b h1 h2=>?_⟩
   ·rw[bB];refine⟨L.nd,by simp,λb hb c hc e=>?_⟩;have:c=p:=by simpa using hc
    subst this;subst e;exact U hb
   ·by_cases C:j<(am.set n x).length
    ·rw[gL1 C]at h1;rw[gL1 (by rw[L.len];exact C)]at h2;exact(L.ob j w b h1 h2).mor [p]
    ·have aq:j=(am.set n x).length:=by
      have:=(gE1.mp h1).1;rw[lA1]at this;simp at this C;simp;lia
     subst aq;rw[gR1 (nR1 _)]at h1;rw[<- L.len,gR1 (nR1 _)]at h2;simp at h1 h2;subst h1;subst h2;exact⟨D,N,((by simpa using V:d0 K H' mu' ys D).exv tx).mor [p]⟩
  ·cases f
 |_=>cases f
theorem n6{X:Cx}{elt tg iter:Expr}{ifs:List Expr}{scope:dR}{pos:Pos}{T:List Str}{keep:List Nat}{l:List (Str×dE)}{m:FE}{g:FG}{t:FT}{e:FE}(hc:X.calm=M)(C:FR X scope T keep)(i:i5 X.env.cells scope.names []=Z l)(hi:XE X iter m)(hb:∀s H b,H0 (cxC X scope l T keep s H b) X.K tg ifs elt g t e)(hs:∀x,foldedSetIterable iter X.env x=pure x:=by intro _;rfl):XE X (.ListComp elt [⟨tg,iter,ifs,0⟩] scope pos) (lf T.length keep m g t (eI e)):=by
 refine⟨λag s σ H Q I h=>?_⟩;have n:=vk (g:=DB X.K g) (ti:=yp X.K t) (emit:=oY elt) (tb:=λp=>rn p (tM X.K e)) hc (λit f d=>tW elt tg iter ifs scope pos it f d) C i (D8 (tg:=tg) hi.h) (λs H b p=>⟨(hb s H b).g.h,(hb s H b).t.h,pW (hb s H b).e.h p⟩) hs;refine wpAny_mono (n ag s σ H _ I (Ay (λa E σ H q=>ny q) h)) ?_ λ_ _ x=>x;rintro v w ⟨x,H2,j,r2,a,o,u,k,y,r,q⟩;exact⟨x,upd H2 a u,sv j k r (λc z=>by cases z) (λc z=>by cases z) (j.hok a _ k).2,r2,q⟩
theorem uN.lt{xs:Array Nat}(h:uN xs){a b u v:Nat}(e:a<b)(c:xs[a]?=Z u)(d:xs[b]?=Z v):u<v:=by
 rw[<- aT1]at c d;obtain⟨g,c⟩:=gE1.mp c;obtain⟨f,d⟩:=gE1.mp d;have:=cw.mp h a b g f e;rw[c,d]at this;exact this
structure Bs (xs:Array Nat)(j i:Nat):Prop where
 le:i<=xs.size
 lo:∀k v,xs[k]?=some v->k<i->v<j
 hi:∀k v,xs[k]?=some v->i<=k->j<=v
theorem Bs.uniq{xs:Array Nat}{j i i':Nat}(h:Bs xs j i)(h':Bs xs j i'):i=i':=by
 rcases Nat.lt_trichotomy i i' with z|z|z
 ·have a:i<xs.size:=nL1 z h'.le;have e:=aG1 a;have:=h.hi _ _ e (nR1 _);have:=h'.lo _ _ e z;lia
 ·exact z
 ·have a:i'<xs.size:=nL1 z h.le;have e:=aG1 a;have:=h'.hi _ _ e (nR1 _);have:=h.lo _ _ e z;lia
theorem AD{xs:Array Nat}{j:Nat}(hr:uN xs):∀n lo hi:Nat,lo<=hi->hi<=xs.size->hi-lo<=n->(∀k v,xs[k]?=Z v->k<lo->v<j)->(∀k v,xs[k]?=Z v->hi<=k->j<=v)->Bs xs j (SetTable.below.go xs j n lo hi)
 |0,lo,hi,h1,h2,i,a,c=>by
  have:lo=hi:=by lia
  subst this;exact⟨h2,a,c⟩
 |n + 1,lo,hi,h1,h2,i,a,c=>by
  rw[SetTable.below.go];by_cases f:lo<hi
  ·rw[ak f];have d:(lo+hi)/2<xs.size:=by lia
   have b:=aG1 d;have h:xs.getD ((lo+hi)/2) j=xs[(lo+hi)/2]:=by simp[Array.getD,d]
   dsimp only;rw[h];by_cases hc:xs[(lo+hi)/2]<j
   ·rw[ak hc];refine AD hr n _ _ (by lia) h2 (by lia) (λk v e g=>?_) c;rcases bX k ((lo+hi)/2)with z|z
    ·have:=hr.lt z e b;lia
    ·have:k=(lo+hi)/2:=by lia
     subst this;rw[b]at e;cases e;exact hc
   ·rw[aj hc];refine AD hr n _ _ (by lia) (by lia) (by lia) a λk v e g=>?_;rcases bX ((lo+hi)/2) k with z|z
    ·have:=hr.lt z b e;lia
    ·have:k=(lo+hi)/2:=by lia
     subst this;rw[b]at e;cases e;lia
  ·rw[aj f];have:lo=hi:=by lia
   subst this;exact⟨h2,a,c⟩
theorem nB{xs:Array Nat}(hr:uN xs)(j:Nat):Bs xs j (SetTable.below xs j):=
 AD hr _ 0 _ (bi _) (nR1 _) (by lia) (λ_ _ _ h=>absurd h (bA _)) λk v e h=>by
  have:=(Array.getElem?_eq_some_iff.mp e).1;lia
theorem sy{α:Type}(xs:Array α)(p:Nat)(x:α):(SetTable.insertAt xs p x).toList=xs.toList.take p++x::xs.toList.drop p:=by
 unfold SetTable.insertAt;rw[cy,cA,cB,cB];simp[List.extract_eq_drop_take];rw[ca (by simp)]
theorem Be{xs:Array Nat}(hr:uN xs){j:Nat}(hn:xs[SetTable.below xs j]? ≠ Z j):uN (SetTable.insertAt xs (SetTable.below xs j) j):=by
 have b:=nB hr j;unfold uN;rw[sy,cC,cf];have lo:∀v∈xs.toList.take (SetTable.below xs j),v<j:=λv h=>by
  obtain⟨k,d⟩:=br h;rw[List.getElem?_take]at d;split at d
  ·rename_i f;exact b.lo k v (by rw[<- aT1];exact d) f
  ·cases d
 have hi:∀v∈xs.toList.drop (SetTable.below xs j),j<v:=λv h=>by
  obtain⟨k,d⟩:=br h;rw[cD,aT1]at d;have h1:=b.hi _ v d (bt _ _);rcases bX j v with z|z
  ·exact z
  ·exfalso;have g:v=j:=by lia
   subst g;cases k with
   |zero=>exact hn d
   |succ k=>
    have l:SetTable.below xs v<xs.size:=by have:=(Array.getElem?_eq_some_iff.mp d).1;lia
    have e:=aG1 l;have:=b.hi _ _ e (nR1 _);have:=hr.lt (by lia) e d;lia
 refine⟨hr.sublist (aT _ _),⟨hi,hr.sublist (cE _ _)⟩,λa i c hc=>?_⟩;rcases aF.mp hc with z|z
 ·rw[z];exact lo a i
 ·exact bh (lo a i) (hi c z)
structure TS (l:Bool)(t:SetTable):Prop where
 up:uN t.place
 du:t.dummies = #[]
 ld:t.led=l
theorem rX{t:SetTable}(hd:t.dummies = #[])(j:Nat):SetTable.has t.dummies j=J:=by rw[hd];rfl
theorem og{t:SetTable}(hd:t.dummies = #[]){f:Nat->Int}{h:Int}:∀(n:Nat) (p:SetTable.Probe) (j:Nat) (d:Option Nat),p.dummy=Y->SetTable.probe.go t f h n p=Z (.empty j d)->d=Y/\t.place[SetTable.below t.place j]? ≠ Z j
 |0,p,j,d,_,e=>by rw[SetTable.probe.go]at e;cases e
 |n+1,p,j,d,hp,e=>by
  have a:(t.advance p).dummy=Y:=by
   unfold SetTable.advance;split
   ·exact hp
   ·dsimp only;exact hp
  rw[SetTable.probe.go]at e;unfold SetTable.slot at e;dsimp only at e;rw[rX hd]at e;by_cases hc:(t.place[SetTable.below t.place p.j]? == Z p.j)=M
  ·rw[ak hc]at e;dsimp only at e;split at e
   ·cases e
   ·exact og hd n _ j d a e
  ·rw[aj hc,aj (by decide)]at e;dsimp only at e;cases e;refine⟨hp,λz=>hc ?_⟩;rw[z];simp
theorem Cr{t:SetTable}(hd:t.dummies = #[]){h:Int}{j:Nat}{b:Bool}(e:t.freeSlot h=Z (j,b)):t.place[SetTable.below t.place j]? ≠ Z j:=by
 unfold SetTable.freeSlot at e;split at e
 ·rename_i c d ep;obtain⟨rfl,a⟩:=og hd _ _ _ _ O ep;cases e;exact a
 ·cases e
theorem jO{l:Bool}{t:SetTable}(h:TS l t)(n:Nat):TS l (t.standIn n):=by
 refine⟨?_,O,h.ld⟩;show(Array.range n).toList.Pairwise (· < ·);rw[Array.toList_range];exact cF
theorem FX{l:Bool}{t:SetTable}(h:TS l t)(n:Nat):TS l (t.orStandIn n):=by
 unfold SetTable.orStandIn;split
 ·exact h
 ·exact jO h n
theorem Du{l:Bool}{t:SetTable}(ht:TS l t)(es:Array (Int×dB))(h:Int)(x:dB):TS l (layNew t es h x).2.1:=by
 unfold layNew;split
 ·rename_i j b e;show TS l ((t.put j).1.orStandIn _);refine FX (t:=(t.put j).1) ⟨?_,?_,ht.ld⟩ _
  ·exact Be ht.up (Cr ht.du e)
  ·show(if SetTable.has t.dummies j=M then _ else t.dummies) = #[];rw[rX ht.du,aj (by decide)];exact ht.du
 ·exact jO ht _
theorem qr{α:Type}(f:Nat->Option α):∀l:List Nat,((l.filterMap λj=>(f j).map (j,·)).map (·.1)).Sublist l
 |[]=>.slnil
 |a::l=>by
  rw[aE];cases f a with
  |none=>exact(qr f l).cons a
  |some x=>exact(qr f l).cons₂ a
theorem A7{l p:Bool}{m d c:Nat}{hs:Array Int}{t:SetTable}{a:Array Nat}(e:SetTable.laid m d c l p hs=Z (t,a)):TS l t:=by
 unfold SetTable.laid at e;obtain⟨b,_,e⟩:=oB1.mp e;cases e;refine⟨?_,O,O⟩;unfold uN;dsimp only;exact List.pairwise_lt_range.sublist (by simpa using qr (λj=>b.getD j Y) (af (m+1)))
theorem yd{l:Bool}{t:SetTable}(ht:TS l t)(es:Array (Int×dB))(n:Nat):TS l (relayAll t es n).2.1:=by
 unfold relayAll;split
 ·rename_i b a e;dsimp only;split
  ·have:=A7 e;rw[ht.ld]at this;exact this
  ·exact jO ht _
 ·exact jO ht _
theorem ye(l:Bool):TS l (SetTable.fresh 0 0 l):=⟨List.Pairwise.nil,O,O⟩
theorem CF{xs:Array Nat}(hr:uN xs){i:Nat}(hi:i<xs.size):SetTable.below xs (xs[i]+1)=i+1:=by
 refine(nB hr _).uniq ⟨hi,λk v e a=>?_,λk v e a=>?_⟩
 ·rcases bX k i with z|z
  ·have:=hr.lt z e (aG1 hi);lia
  ·have:k=i:=by lia
   subst this;rw[aG1 hi]at e;cases e;lia
 ·have:=hr.lt (show i<k by lia) (aG1 hi) e;lia
theorem AC{xs:Array Nat}(hr:uN xs):SetTable.below xs 0=0:=
 (nB hr _).uniq ⟨bi _,λk v e a=>absurd a (bA _),λk v e a=>bi _⟩
noncomputable def IL(e:Int×dB):Int:=match e.2 with
 | .int k _=>k
 |_=>0
structure Els (es:Array (Int×dB))(ns:List Int):Prop where
 el:∀e∈es.toList,∃k t,e=(hashInt k,Value.int k t)
 pm:(es.toList.map IL).Perm ns
theorem Els.of{P:dF}{w:dH}{es:Array (Int×dB)}{ns:List Int}(h:Els es ns):ElemsOf (intKind P w) es.toList:=λe a=>by
 obtain⟨k,t,rfl⟩:=h.el e a;exact⟨⟨k,intKind_is _ _ _ _,O⟩,O⟩
theorem Els.size{es:Array (Int×dB)}{ns:List Int}(h:Els es ns):es.size=ns.length:=by
 have:=h.pm.length_eq;rw[lM1,aJ]at this;exact this
theorem Els.perm{es fs:Array (Int×dB)}{ns:List Int}(h:Els es ns)(p:fs.toList.Perm es.toList):Els fs ns:=
 ⟨λe a=>h.el e (p.mem_iff.mp a),(p.map _).trans h.pm⟩
theorem Els.add{es fs:Array (Int×dB)}{ns:List Int}(h:Els es ns){k:Int}{t:Tok}(p:fs.toList.Perm (es.push (hashInt k,.int k t)).toList):Els fs (ns++[k]):=by
 rw[cA]at p;refine⟨λe a=>?_,?_⟩
 ·rcases aG.mp (p.mem_iff.mp a)with z|z
  ·exact h.el e z
  ·simp at z;exact⟨k,t,z⟩
 ·refine(p.map _).trans ?_;rw[cG];exact h.pm.append (.refl _)
noncomputable def je(b:Bool)(p:dE)(ns:List Int)(h:dN):Prop:=∃es ep t l,h.get? p=Z (stO es ep t)/\Els es ns/\es.size<scanBound/\t.fits es.size=M/\TS l t/\(b=J->l=M)
section
variable{P:dF}{w:dH}{A:dG}{E:dB->dD->Prop}{s:dD}{b:Bool}{p:dE}{ns:List Int}
theorem yN{es fs:Array (Int×dB)}{ep:Nat}{t u:SetTable}{h:dN}(e:h.get? p=Z (stO es ep t)):(h.update p (Obj.putSet fs u)).get? p=Z (stO fs (ep+1) u):=by
 have:=hW1 (Obj.putSet fs u) e (by rw[putSet_of fs u O];rfl);rw[putSet_of fs u O]at this;exact this
theorem gw{c:Bool}{Q:Unit->dD->Prop}(q:Q () s):dM (model P w) A (match c with
  |true=>rule "set.scan.the-table-gave-way"
  |false=>pure ()) Q E s:=by cases c<;>first|exact wP1 q|exact wpAny_rule q
theorem IZ{k:Int}{tk:Tok}{Q:Bool->dD->Prop}(X:je b p ns s.heap)(hr:ns.length+1<scanBound)(q:∀c h',Heap.SameBut p s.heap h'->je b p (step_dedup ns k) h'->Q c {s with heap:=h'}):dM (model P w) A (setAddHashed p (.int k tk) (hashInt k)) Q E s:=by
 obtain⟨es,ep,t,l,g,a,U,D,V,K⟩:=X;have hz:=a.size;have au:ElemsOf (intKind P w) es.toList:=a.of;unfold setAddHashed setAddHashedIn;refine wpAny_holding (wB1 (wpAny_setState_of g O D ?_));dsimp only;rw[byScan_of (knd:=intKind P w) O U au,ak O];unfold setAddByScan;refine wB1 (wB1 (wpAny_rule (wB1 (wpAny_setScan_of (knd:=intKind P w) (k:=k) (intKind_is _ _ _ _) g O D au ?_))));cases hx:List.findIdx? (λe=>(intKind P w).is k e.2) es.toList with
 |some j=>
  obtain⟨ao,i,_⟩:=b8.mp hx;have G:k∈ns:=by
   refine a.pm.mem_iff.mp (ci.mpr ⟨_,bU ao,?_⟩);obtain⟨k',wq,e⟩:=a.el _ (bU ao);rw[e]at i ⊢;exact((intKind P w).inj _ _ _ i (intKind_is P w k' wq)).symm
  have F:step_dedup ns k=ns:=by unfold step_dedup;rw[ak (bT.mpr ⟨k,G,by simp⟩)]
  rw[F]at q;exact wP1 (wP1 (q _ s.heap (Heap.SameBut.refl p s.heap) ⟨es,ep,t,l,g,a,U,D,V,K⟩))
 |none=>
  have F:step_dedup ns k=ns++[k]:=by
   unfold step_dedup;rw[aj λz=>?_];obtain⟨k',G,e⟩:=bT.mp z;have e:=beq_iff_eq.mp e;subst e;obtain⟨x,m,f⟩:=ci.mp (a.pm.mem_iff.mpr G);obtain⟨o,h,rfl⟩:=a.el x m;have f:o=k':=f;subst f;have:=List.findIdx?_eq_none_iff.mp hx _ m;rw[show(intKind P w).is o (hashInt o,Value.int o h).2=M from intKind_is _ _ _ _]at this;cases this
  rw[F]at q;have am:=layNew_perm t es (hashInt k) (.int k tk);have C:=layNew_fits t es (hashInt k) (.int k tk);have y:=Du V es (hashInt k) (.int k tk);dsimp only;generalize layNew t es (hashInt k) (.int k tk)=L at am C y ⊢;obtain⟨fs,u,aq,gv⟩:=L;dsimp only at am C y ⊢;have n:Els fs (ns++[k]):=a.add am;have I:fs.size<scanBound:=by rw[n.size,lA1];exact hr
  refine wB1 (gw ?_);have tail:∀ (c:Bool),dM (model P w) A (do
    storeSet p fs u
    if (!aq&&u.tooFull)=true then do
      (match (relayAll u fs (SetTable.grown fs.size)).2.2 with
       |true=>rule "set.scan.the-table-gave-way"
       |false=>pure ())
      storeSet p (relayAll u fs (SetTable.grown fs.size)).1 (relayAll u fs (SetTable.grown fs.size)).2.1
      pure (Z M)
     else pure (Z M)) (λr s'=>dM (model P w) A (match r with
      |some d=>pure d
      |none=>setAddHashedIn p (.int k tk) (hashInt k) 99999) Q E s') E s:=λ_=>by
   refine wB1 (wpAny_storeSet_of g O ?_ (fits_of_scanBound I));have H:=yN (fs:=fs) (u:=u) g;have T:=Heap.SameBut.update s.heap p (Obj.putSet fs u);split
   ·have p2:=relayAll_perm u fs (SetTable.grown fs.size);have B:=relayAll_fits u fs (SetTable.grown fs.size);have h:=yd y fs (SetTable.grown fs.size);generalize relayAll u fs (SetTable.grown fs.size)=L2 at p2 B h ⊢;obtain⟨R,v,W⟩:=L2;dsimp only at p2 B h ⊢;have N:=n.perm p2;have S:R.size<scanBound:=by rw[N.size,<- n.size];exact I
    refine wB1 (gw (wB1 (wpAny_storeSet_of H O ?_ (fits_of_scanBound S))));exact wP1 (wP1 (q _ _ (T.trans (Heap.SameBut.update _ p _)) ⟨R,_,v,l,yN H,N,S,B,h,K⟩))
   ·exact wP1 (wP1 (q _ _ T ⟨fs,_,u,l,H,n,I,C,y,K⟩))
  split
  ·refine wB1 (wP1 ?_);exact tail M
  ·refine wB1 (wP1 ?_);exact tail M
end
section
variable{P:dF}{w:dH}{A:dG}{E:dB->dD->Prop}{s:dD}
noncomputable def byT(w:dH):Bool:=w.params.followText "set-order"
theorem BI(x:dB){G:dB->dD->Prop}(q:G (.ref s.heap.objs.size) {s with heap:=s.heap.push (stO #[] 0 (.fresh 0 0 (!byT w)))}):
  codeAny (model P w) A (.call (.builtin "set.__new__") ⟨[.type "set",x],[]⟩) (wants G E) s:=by
 refine codeAny_of_tree (?_:dM _ A.in1 (do checkBuiltinCall "set.__new__" ⟨[.type "set",x],[]⟩;again (.builtin "set.__new__" ⟨[.type "set",x],[]⟩)) _ _ s);refine wB1 (wpAny_of_eq (PySem.F.newCall_set_1 x) (wP1 ⟨plainId_quiet PySem.F.plain_set_new _,wD1 PySem.F.entry_set_new (?_:_)⟩));rw[Around.under_plainId PySem.F.plain_set_new _];unfold Builtin.«set.__new__» Builtin.Frozenset.newClass;have a:=sub_set_self;obtain⟨c,g,d,tk,b⟩:=s;dsimp only
 wp_walk
 refine wpAny_askSetting (wP1 (?_:_));dsimp only;simp only[newObj];exact wB1 (wpAny_alloc (wP1 (wP1 q)))
set_option maxHeartbeats 3200000 in
theorem uJ {l:dE}{its:Array dB}{Q:dB->dD->Prop}(I:s.heap.IsList l its)
  (i:∀h:dG,h.handled=A.handled->h.units<=A.units+2 -> ∀R:Result->dD->Prop,(∀s',Q (.ref s.heap.objs.size) s'->R (.ok (.ret .none)) s') ->
   codeAny (model P w) h (.builtin "set.update.loop" ⟨[.ref s.heap.objs.size,.ref (s.heap.objs.size+1)],[]⟩) R {s with heap:=(s.heap.push (stO #[] 0 (.fresh 0 0 (!byT w)))).push {cls:=.type "list_iterator",data:=.fields #[.ref l,.int 0 0]}}):
  dM (model P w) A (call (.type "set") [.ref l]) Q E s:=by
 obtain⟨W,V,t⟩:=PySem.F.called_set.mro;have g:=PySem.F.called_set.made;have m:=PySem.F.called_set.sub
 refine wpAny_call (codeAny_of_tree (?_:dM _ _ (callAny (.type "set") _) _ _ _));refine wP1 ⟨Code.quiet_builtin _ (by decide+kernel),wD1 PySem.F.entry_type_call (?_:_)⟩;rw[Around.under_plain (weight_type_call_type "set" [.ref l] []) O];have X:=PySem.F.called_set.notType;have S:=PySem.F.called_set.canCreate;have T:=PySem.F.typeCall_set_1 (.ref l)
 repeat(any_goals (first|wp_step|assumption))
 refine codeAny_mono (BI (.ref l) (E:=E) (G:=λx k=>x = .ref s.heap.objs.size/\k={s with heap:=s.heap.push (stO #[] 0 (.fresh 0 0 (!byT w)))}) ⟨O,O⟩) λr k f=>?_;cases r with
 |error e=>exact f
 |ok B=>
  cases B with
  |ret x=>
   obtain⟨rfl,rfl⟩:=f;have n:(s.heap.push (stO #[] 0 (.fresh 0 0 (!byT w)))).get? s.heap.objs.size=Z (stO #[] 0 (.fresh 0 0 (!byT w))):=hS1 _ O;have y:Shared.TypeIs {s with heap:=s.heap.push (stO #[] 0 (.fresh 0 0 (!byT w)))} (.ref s.heap.objs.size) "set":=⟨_,n,O⟩;have L:=PySem.F.called_set.init.lookup;have N:=PySem.F.called_set.init.bind (.ref s.heap.objs.size)
   repeat(any_goals (first|wp_step|assumption))
   refine codeAny_mono (codeAny_call_builtin (R:=wants (λr p=>r = .none/\Q (.ref s.heap.objs.size) p) E) PySem.F.called_set.init.plain PySem.F.entry_set_init (check_set_init_1 y (?_:_))) λr2 p a=>?_
   ·obtain⟨u,j,b,o,c⟩:=I;obtain⟨K,z,au,H⟩:=u;simp only at b c;subst b;subst c;have C:(s.heap.push (stO #[] 0 (.fresh 0 0 (!byT w)))).get? l=Z {cls:=.type "list",dict:=z,data:=.seq its o,slots:=H}:=hP1 _ j;have ao:=PySem.F.sub_list_set;have am:=PySem.F.sub_list_frozenset;have U:(Value.type "list" == Value.type "dict")=J:=by decide
    have F:(s.heap.push (stO #[] 0 (.fresh 0 0 (!byT w)))).IsList l its:=⟨_,C,O,o,O⟩;have D:(s.heap.push (stO #[] 0 (.fresh 0 0 (!byT w)))).get? s.heap.objs.size=Z {cls:=.type "set",dict:=Y,data:=.set #[] 0 (.fresh 0 0 (!byT w)),slots:= #[]}:=n;unfold Builtin.«set.__init__» noKeywords Builtin.Frozenset.updateFrom;generalize d:pyIter=PI
    wp_walk
    subst d;refine wpAny_pyIter_list F (wB1 (wpAny_runValue (?_:_)));dsimp only;rw[show(s.heap.push (stO #[] 0 (.fresh 0 0 (!byT w)))).objs.size=s.heap.objs.size+1 from by rw[hZ1]];refine i A.in1.in1 (by simp) (nR1 _) _ λs' q=>?_;exact wP1 (wP1 ⟨O,q⟩)
   ·cases r2 with
    |error e=>exact a
    |ok v=>
     cases v with
     |ret r=>
      obtain⟨rfl,q⟩:=a
      repeat(any_goals (first|wp_step|assumption))
     |_=>exact a.elim
  |_=>exact f.elim
theorem xz {l:dE}{its:Array dB}{Q:dB->dD->Prop}(c:s.heap.IsList l its)
  (b:∀a:dG,a.handled=A.handled -> ∀R:Result->dD->Prop,(∀s',Q (.ref s.heap.objs.size) s'->R (.ok (.ret .none)) s') ->
   codeAny (model P w) a (.builtin "set.update.loop" ⟨[.ref s.heap.objs.size,.ref (s.heap.objs.size+1)],[]⟩) R {s with heap:=(s.heap.push (stO #[] 0 (.fresh 0 0 (!byT w)))).push {cls:=.type "list_iterator",data:=.fields #[.ref l,.int 0 0]}}):
  dM (model P w) A (call (.type "set") [.ref l]) Q E s:=uJ c λa h _=>b a h
end
section
variable{P:dF}{w:dH}{A:dG}{E:dB->dD->Prop}{b:Bool}
theorem je.old{p:dE}{ns:List Int}{h h':dN}(x:je b p ns h)(k:∀o,h.get? p=Z o->h'.get? p=Z o):je b p ns h':=by
 obtain⟨es,ep,t,l,e,r⟩:=x;exact⟨es,ep,t,l,k _ e,r⟩
theorem no:∀(ns acc:List Int),(ns.foldl step_dedup acc).length<=acc.length+ns.length
 |[],acc=>by simp
 |n::ns,acc=>by
  rw[cb];have h1:=no ns (step_dedup acc n);have h2:(step_dedup acc n).length<=acc.length+1:=by unfold step_dedup;split<;>simp
  rw[lC1];lia
theorem yz{p l it:dE}{its:Array dB}{ns:List Int}{R:Result->dD->Prop}(I:A.handled=none)(C:IntsAre its.toList ns)(hb:ns.length+1<scanBound)(K:p≠l)(m:p≠it)(H:it≠l):
  ∀(k i:Nat) (s:dD),its.size-i=k->i<=its.size->s.heap.IsListIter it l i->s.heap.IsList l its->je b p ((ns.take i).foldl step_dedup []) s.heap ->
  (∀h' tk,(∀c o,c≠p->c≠it->s.heap.get? c=Z o->h'.get? c=Z o)->je b p (ddI ns) h'->R (.ok (.ret .none)) {s with heap:=h',toks:=tk})->codeAny (model P w) A (.builtin "set.update.loop" ⟨[.ref p,.ref it],[]⟩) R s:=by
 have a:its.size=ns.length:=by rw[<- aJ];exact C.length
 intro k
 induction k with
 |zero=>
  intro i s L hi st h n q;have e:i=its.size:=by lia
  subst e;refine wD1 PyProof.Rows.F.entry_set_update_loop (?_:_);rw[Around.under_plainId PyProof.Rows.F.plain_set_update_loop _];show dM _ A.in1 (pyNext (.ref it) >>= _) _ _ s;refine wB1 (wpAny_pyNext_list_end (by simpa using I) st h (by simp) λh' B=>wP1 ?_);refine q h' s.toks (λc o _ hc e=>B c o hc e) ?_;have:=n.old (h':=h') λo e=>B p o m e;rw[a,b4]at this;exact this
 |succ k ih=>
  intro i s L hi st h n q;have g:i<its.size:=by lia
  have y:=aG1 g;obtain⟨t,am⟩:=PyProof.Rows.IntsAre.int_at C i its[i] (by rw[aT1];exact y);refine wD1 PyProof.Rows.F.entry_set_update_loop (?_:_);rw[Around.under_plainId PyProof.Rows.F.plain_set_update_loop _];show dM _ A.in1 (pyNext (.ref it) >>= _) _ _ s;refine wB1 (wpAny_pyNext_list_item st h y λh' st' D=>?_);rw[am];show dM _ A.in1 (holding [Value.int (ns.getD i 0) t] (setAdd p (.int (ns.getD i 0) t)) >>= _) _ _ _;refine wB1 (wpAny_holding ?_);unfold setAdd;refine wpAny_holding (wB1 (wpAny_pyHash_int ?_));have u:je b p ((ns.take i).foldl step_dedup []) h':=n.old λo e=>by rw[D.2 p m];exact e
  have j:=no (ns.take i) [];refine IZ (s:={s with heap:=h',toks:=s.toks+1}) (k:=ns.getD i 0) u (by rw[aQ,bf]at j;lia) λc h2 f d=>?_;have ao:ns[i]?=Z (ns.getD i 0):=by rw[gG1 (by lia)];simp[List.getD,show i<ns.length by lia]
  have F:step_dedup ((ns.take i).foldl step_dedup []) (ns.getD i 0)=(ns.take (i+1)).foldl step_dedup []:=by
   rw[cH,ao,List.foldl_append];rfl
  rw[F]at d;have x:∀c o,c≠p->c≠it->s.heap.get? c=Z o->h2.get? c=Z o:=λc o h1 v e=>by rw[f.2 c h1];show h'.get? c=_;rw[D.2 c v];exact e
  have keepIt:∀o,h'.get? it=Z o->h2.get? it=Z o:=λo e=>by rw[f.2 it (Ne.symm m)];exact e
  refine wP1 ⟨plainId_quiet PyProof.Rows.F.plain_set_update_loop _,ih (i+1) {s with heap:=h2,toks:=s.toks+1} (by lia) g (st'.at keepIt) ?_ d λv tk E G=>?_⟩
  ·obtain⟨o,e,r⟩:=h;exact⟨o,x l o (Ne.symm K) (Ne.symm H) e,r⟩
  ·exact q v tk (λc o h1 z e=>E c o h1 z (x c o h1 z e)) G
theorem xA{s:dD}{l:dE}{its:Array dB}{ns:List Int}{Q:dB->dD->Prop}(i:A.handled=Y)(d:s.heap.IsList l its)(p:IntsAre its.toList ns)(hb:ns.length+1<scanBound)(q:∀h' tk,(∀c o,s.heap.get? c=Z o->h'.get? c=Z o)->je (byT w) s.heap.objs.size (ddI ns) h'->Q (.ref s.heap.objs.size) {s with heap:=h',toks:=tk}):dM (model P w) A (call (.type "set") [.ref l]) Q E s:=by
 have a:l<s.heap.objs.size:=by obtain⟨o,e,_⟩:=d;exact hL1 e
 refine xz d λt f R m=>?_;have n:(s.heap.push (stO #[] 0 (.fresh 0 0 (!byT w)))).objs.size=s.heap.objs.size+1:=by rw[hZ1]
 have j:(s.heap.push (stO #[] 0 (.fresh 0 0 (!byT w)))).get? s.heap.objs.size=Z (stO #[] 0 (.fresh 0 0 (!byT w))):=hS1 _ O;refine yz (its:=its) (ns:=ns) (b:=byT w) (f.trans i) p hb (nG1 a) (nN1 (bE _)) (nG1 (cI a)) _ 0 _ O (bi _) ?_ ?_ ?_ λh' tk k x=>m _ (q h' tk (λc o e=>k c o (nN1 (hL1 e)) (nN1 (cI (hL1 e))) (hP1 _ (hP1 _ e))) x)
 ·refine⟨{cls:=.type "list_iterator",data:=.fields #[.ref l,.int 0 0]},?_,O,O⟩;have this:((s.heap.push (stO #[] 0 (.fresh 0 0 (!byT w)))).push {cls:=.type "list_iterator",data:=.fields #[.ref l,.int 0 0]}).get? (s.heap.push (stO #[] 0 (.fresh 0 0 (!byT w)))).objs.size=Z {cls:=.type "list_iterator",data:=.fields #[.ref l,.int 0 0]}:=hS1 _ O;rw[n]at this;exact this
 ·obtain⟨o,e,r⟩:=d;exact⟨o,hP1 _ (hP1 _ e),r⟩
 ·refine⟨#[],0,_,!byT w,hP1 _ j,⟨λe g=>by simp at g,.refl _⟩,by decide,O,ye _,λh=>by rw[h];rfl⟩
end
theorem iN:Slot "set_iterator" "__next__" "set_iterator.__next__":=
 .of (owner:="set_iterator") (n:="__next__") (by rw[typeLookup_type,builtinLookup_eq_fast];kernel_rfl) (by decide+kernel) (by decide+kernel) (by decide+kernel) (by first|exact .inl (by decide+kernel)|exact .inr (by decide+kernel)) (by rw[isSubtype_type];kernel_rfl)
theorem oW:entryFor table "set_iterator.__next__"=Z Builtin.«set_iterator.__next__» :=entryFor_of_tree (by kernel_rfl)
theorem tf(x:dB):argsOk "set_iterator.__next__" ⟨[x],[]⟩:=by unfold argsOk;kernel_rfl
theorem sK:entryFor table "set.__iter__"=Z Builtin.«frozenset.__iter__» :=entryFor_alias (id':="frozenset.__iter__") (by kernel_rfl) O (by decide+kernel) (by kernel_rfl)
abbrev FD(h:dN)(it a:dE)(f:dB)(i n ep:Nat):Prop:=h.get? it=Z {cls:=.type "set_iterator",dict:=Y,data:=.fields #[f,.int i 0,.ref a,.int n 0,.int ep 0],slots:= #[]}
noncomputable def kW(t:SetTable)(i:Nat):Nat:=match i with
 |0=>0
 |i+1=>t.place.getD i 0+1
inductive tj (w:dH)(h:dN)(a:dE)(es:Array (Int×dB))(ep:Nat)(t:SetTable):dB->Nat->List dB->Prop
 |txt (b:byT w=true) (i:Nat) (sl:Nat):tj w h a es ep t (.int sl 0) i ((pickOrder (w.params.setOrder a ep) es).toList.map (·.2))
 |drw (b:byT w=false) (d:(!t.plain&&decide (es.size>1))=true) (i:Nat) (tp:dE) (ps:List Nat) (e:h.get? tp=some {cls:=.type "tuple",data:=.seq (ps.map λj=>Value.int (j:Nat) 0).toArray}) (pm:ps.Perm (af es.size)):tj w h a es ep t (.ref tp) i (ps.map λj=>(es[j]?.map (·.2)).getD .none)
 |plc (b:byT w=false) (d:(!t.plain&&decide (es.size>1))=false) (ld:t.led=true) (up:uN t.place) (i:Nat):tj w h a es ep t (.int (kW t i) 0) i (es.toList.map (·.2))
theorem ou{α:Type}(f:Nat->Nat):∀(n k:Nat) (l:List α) (out:Array α),l.length=n->(pickOrder.go f n k l out).toList.Perm (out.toList++l)
 |0,k,l,out,h=>by
  rw[pickOrder.go,cu.mp h,aM]
 |n+1,k,l,out,h=>by
  have b:f k%l.length<l.length:=Nat.mod_lt _ (by lia);rw[pickOrder.go,gG1 b];refine(ou f n (k+1) _ _ (by rw[cJ b];lia)).trans ?_;rw[cA,bI];refine List.Perm.append_left _ ?_;have c:l=l.take (f k%l.length)++l[f k%l.length]::l.drop (f k%l.length+1):=by rw[List.getElem_cons_drop,cK]
  rw[cM];refine List.Perm.trans ?_ (List.Perm.of_eq c.symm);exact(List.perm_middle (l₁:=l.take (f k%l.length)) (l₂:=l.drop (f k%l.length+1)) (a:=l[f k%l.length])).symm
theorem tj.perm{w:dH}{h:dN}{a:dE}{es:Array (Int×dB)}{ep:Nat}{t:SetTable}{f:dB}{i:Nat}{pl:List dB}(y:tj w h a es ep t f i pl):pl.Perm (es.toList.map (·.2)):=by
 cases y with
 |txt=>exact(ou _ _ _ _ _ O).map _
 |drw _ _ _ d ps e c=>
  refine(c.map _).trans ?_;have:(af es.size).map (λj=>(es[j]?.map (·.2)).getD .none)=es.toList.map (·.2):=by
   apply b5;intro j;rw[gP1,gP1,aT1 (xs:=es)];by_cases b:j<es.size
   ·rw[cN b,oP1,aG1 b];rfl
   ·rw[b6 (by simpa using b),cv (by lia)];rfl
  rw[this]
 |plc=>exact .refl _
theorem tj.len{w:dH}{h:dN}{a:dE}{es:Array (Int×dB)}{ep:Nat}{t:SetTable}{f:dB}{i:Nat}{pl:List dB}(y:tj w h a es ep t f i pl):pl.length=es.size:=by
 rw[y.perm.length_eq,lM1,aJ]
section
variable{P:dF}{w:dH}{A:dG}{E:dB->dD->Prop}{s:dD}{it a:dE}{f:dB}{i ep:Nat}{es:Array (Int×dB)}{t:SetTable}{pl:List dB}
theorem pE{Q:Bool->dD->Prop}(q:Q (byT w) s):dM (model P w) A setsByText Q E s:=by unfold setsByText;exact wB1 (wpAny_askSetting (wP1 q))
theorem yv{sl:Nat}{Q:Option (dB×Nat)->dD->Prop}(b:byT w=M)(ho:s.heap.get? a=Z (stO es ep t))(hf:t.fits es.size=M)(q:Q (((pickOrder (w.params.setOrder a ep) es)[i]?).map λe=>(e.2,sl)) s):dM (model P w) A (setNext a sl i ep) Q E s:=by
 unfold setNext;refine wB1 (wpAny_setState_of ho O hf (wB1 (pE ?_)));rw[b,ak O,aj (by simp)];refine wB1 ?_;unfold setWalk;refine wB1 (wpAny_setState_of ho O hf (wB1 (pE ?_)));rw[b,ak O];exact wB1 (wpAny_askSetting (wP1 (wP1 q)))
theorem CG(b:uN t.place)(hi:i<=t.place.size):SetTable.below t.place (kW t i)=i:=by
 cases i with
 |zero=>exact AC b
 |succ j=>
  have a:j<t.place.size:=hi;show SetTable.below t.place (t.place.getD j 0+1)=j+1;rw[show t.place.getD j 0=t.place[j]from by simp[Array.getD,a]];exact CF b a
theorem yw{Q:Option (dB×Nat)->dD->Prop}(b:byT w=J)(d:(!t.plain&&decide (es.size>1))=J)(j:t.led=M)(g:uN t.place)(ho:s.heap.get? a=Z (stO es ep t))(hf:t.fits es.size=M)(hi:i<=es.size)(q:Q ((es[i]?).map λe=>(e.2,kW t (i+1))) s):dM (model P w) A (setNext a (kW t i) i ep) Q E s:=by
 have k:t.place.size=es.size:=by
  unfold SetTable.fits at hf;rw[bA1,beq_iff_eq]at hf;exact hf.1
 unfold setNext;refine wB1 (wpAny_setState_of ho O hf (wB1 (pE ?_)));rw[b,aj (by decide)];rw[aj (λz=>by have f:(!t.plain&&decide (es.size>1))=M:=z;rw[d]at f;cases f)];refine wB1 ?_;show dM _ _ (if(!t.led && !es.isEmpty)=M then _ else _) _ _ _;rw[aj (by rw[j];simp)];refine wP1 ?_;dsimp only;rw[CG g (by omega)];by_cases c:i<es.size
 ·rw [aG1 c] at q ⊢;rw [aG1 (show i<t.place.size by omega)];have h:kW t (i+1)=t.place[i]+1:=by
   show t.place.getD i 0+1=_;rw[show t.place.getD i 0=t.place[i]from by simp[Array.getD,show i<t.place.size by omega]]
  rw[h]at q;exact wP1 q
 ·rw[cv (by omega)]at q ⊢;exact wP1 q
theorem A1{Q:Option dB->dD->Prop}(h:FD s.heap it a f i es.size ep)(ho:s.heap.get? a=Z (stO es ep t))(hf:t.fits es.size=M)(y:tj w s.heap a es ep t f i pl){x:dB}(hx:pl[i]? = Z x)(au:∀ g,f = .ref g->g≠it)(q:∀h' k,FD h' it a k (i+1) es.size ep->(∀c o,c≠it->s.heap.get? c=Z o->h'.get? c=Z o)->tj w h' a es ep t k (i+1) pl->(∀g,k = .ref g->f = .ref g)->Q (Z x) {s with heap:=h'}):dM (model P w) A (pyNext (.ref it)) Q E s:=by
 have G:s.TypeIs (.ref it) "set_iterator":=⟨_,h,O⟩;unfold pyNext;refine wB1 (wpAny_attempt (wpAny_callSpecial?_slot (name:=Str.ofString "__next__") G iN (wE1 iN G oW ?_ (tf _))));refine wB1 (wP1 (wB1 (wpAny_fieldsOf h O ?_)));dsimp only;refine wB1 (wpAny_setEntries_of ho O hf ?_);rw[aj (by simp)];have L:i<es.size:=by have:=(gE1.mp hx).1;rw[y.len]at this;exact this
 have two:∀ (k:dB),(∀ g,k = .ref g->f = .ref g)->(∀ h',(∀ c o,c≠it->s.heap.get? c=some o->h'.get? c=some o)->tj w h' a es ep t k (i+1) pl) ->
   dM (model P w) A.in1 (setField (.ref it) 0 k >>= fun _=>setField (.ref it) 1 (rawInt ((i:Int)+1)) >>= fun _=>ret x) (fun B s'=>∃ v,B=Fin.done (Flow.ret v)/\dM (model P w) A (pure (some v)) Q E s') (fun e s'=>dM (model P w) A (do
     let y<-isInstance e (.type "StopIteration")
     if y=M then pure Y else throw e) Q E s') s:=λk N K=>by
  refine wB1 (wS1 h (by simp) λh1 ao C=>wB1 (wS1 (s:={s with heap:=h1}) ao (by simp) λh2 u l=>wP1 ⟨_,O,wP1 ?_⟩));have m:∀c o,c≠it->s.heap.get? c=Z o->h2.get? c=Z o:=λc o hc e=>l.extBut c o hc (C.extBut c o hc e);refine q h2 k ?_ m (K h2 m) N;have e:((i+1:Nat):Int)=(i:Int)+1:=by lia
  unfold FD;rw[e];simpa[rawInt]using u
 cases y with
 |txt b _ sl=>
  refine wB1 (yv (i:=i) (sl:=sl) (ep:=ep) b ho hf ?_);rw[gP1,aT1]at hx;obtain⟨e,p,rfl⟩:=oM1.mp hx;rw[p];exact two (.int sl 0) (λg z=>by cases z) λh' _=>.txt b _ sl
 |plc b d H F _=>
  refine wB1 (yw (i:=i) b d H F ho hf (by lia) ?_);rw[gP1,aT1]at hx;obtain⟨e,p,rfl⟩:=oM1.mp hx;rw[p];exact two (.int (kW t (i+1)) 0) (λg z=>by cases z) λh' _=>.plc b d H F _
 |drw b d _ g ps e am=>
  rw[gP1]at hx;obtain⟨j,D,rfl⟩:=oM1.mp hx;have n:j<es.size:=by have:=am.mem_iff.mp (gM1 D);simpa using this
  refine wB1 (wpAny_seqItems e O ?_);have r:((ps.map λj=>Value.int (j:Nat) 0).toArray)[((i:Int)).toNat]?=Z (.int (j:Nat) 0):=by
   rw[Int.toNat_natCast,cm,gP1,D];rfl
  dsimp only;rw[r];dsimp only;refine wB1 ?_;unfold setNextDrawn;refine wB1 (wpAny_setState_of ho O hf ?_);dsimp only;rw[aj (by simp),Int.toNat_natCast,aG1 n];refine wP1 (wB1 (wS1 h (by simp) λh2 u l=>wP1 ⟨_,O,wP1 ?_⟩));have m:∀c o,c≠it->s.heap.get? c=Z o->h2.get? c=Z o:=λc o hc e=>l.extBut c o hc e;have I:=q h2 (.ref g) ?_ m (.drw b d _ g ps (m g _ (au g O) e) am) λ_ z=>z
  ·rw[aG1 n]at I;exact I
  ·have e:((i+1:Nat):Int)=(i:Int)+1:=by lia
   unfold FD;rw[e];simpa[rawInt]using u
theorem tY{Q:Option dB->dD->Prop}{G:Fin->dD->Prop}(d:A.handled=none)(q:∀ h',(∀ c o,s.heap.get? c=some o->h'.get? c=some o)->Q none {s with heap:=h'}):
  dM (model P w) A.in1 (newExc (.type "StopIteration") [] >>= fun e=>raiseNew e) G (fun e s'=>dM (model P w) A (do
     let y<-isInstance e (.type "StopIteration")
     if y=M then pure Y else throw e) Q E s') s:=by
 refine wB1 ?_;simp only[newExc,newTuple];refine wB1 (wO1 ?_ (by size_fits));refine wB1 (m:=firstArgMember _ _) (wpAny_of_eq (a:=Value.none) (by first|rfl|(simp only[firstArgMember];rfl)) ?_);refine wO1 ?_ (by size_fits);simp only[raiseNew];refine wB1 (wpAny_handled ?_);rw[show A.in1.handled=Y from d];refine wB1 (wP1 (wpAny_throw (?_:_)));refine wB1 (wpAny_isInstance (b:=M) (T:="StopIteration") ⟨_,hS1 _ O,O⟩ isSubtype_stop (?_:_));exact wP1 (q _ λb o e=>hP1 _ (hP1 _ e))
theorem Dl{Q:Option dB->dD->Prop}(m:A.handled=Y)(g:FD s.heap it a f es.size es.size ep)(ho:s.heap.get? a=Z (stO es ep t))(hf:t.fits es.size=M)(y:tj w s.heap a es ep t f es.size pl)(q:∀h',(∀c o,c≠it->s.heap.get? c=Z o->h'.get? c=Z o)->Q Y {s with heap:=h'}):dM (model P w) A (pyNext (.ref it)) Q E s:=by
 have u:s.TypeIs (.ref it) "set_iterator":=⟨_,g,O⟩;unfold pyNext;refine wB1 (wpAny_attempt (wpAny_callSpecial?_slot (name:=Str.ofString "__next__") u iN (wE1 iN u oW ?_ (tf _))));refine wB1 (wP1 (wB1 (wpAny_fieldsOf g O ?_)));dsimp only;refine wB1 (wpAny_setEntries_of ho O hf ?_);rw[aj (by simp)];have l:=y.len;cases y with
 |txt b _ sl=>
  refine wB1 (yv (i:=es.size) (sl:=sl) (ep:=ep) b ho hf ?_);rw[cv (by rw[lM1,aJ]at l;lia)];refine wB1 (wS1 g (by simp) λh1 p h=>?_);exact tY (s:={s with heap:=h1}) m λh' k=>q h' λc o hc e=>k c o (h.extBut c o hc e)
 |plc b d x v _=>
  refine wB1 (yw (i:=es.size) (ep:=ep) b d x v ho hf (nR1 _) ?_);rw[cv (nR1 _)];refine wB1 (wS1 g (by simp) λh1 p h=>?_);exact tY (s:={s with heap:=h1}) m λh' k=>q h' λc o hc e=>k c o (h.extBut c o hc e)
 |drw b d _ z ps e B=>
  refine wB1 (wpAny_seqItems e O ?_);have n:((ps.map λj=>Value.int (j:Nat) 0).toArray)[((es.size:Int)).toNat]?=Y:=by
   rw[Int.toNat_natCast,cm,b6 (by rw[lM1]at l ⊢;lia)]
  dsimp only;rw[n];dsimp only;refine wB1 (wS1 g (by simp) λh1 p h=>?_);refine wB1 (wS1 (s:={s with heap:=h1}) p (by simp) λh2 C r=>?_);exact tY (s:={s with heap:=h2}) m λh' k=>q h' λc o hc e=>k c o (r.extBut c o hc (h.extBut c o hc e))
theorem AA{b:Source}{n:Nat}{Q:Nat->dD->Prop}(hn:n≠0)(q:∀i c,i<n->Q i {s with drawn:=c}):dM (model P w) A (choose b n) Q E s:=fun Γ p a=>by
 unfold choose;rw[Sem.wp_choose];refine⟨hn,?_⟩;exact wP1 (A:=A) (E:=E) (q _ _ (Nat.mod_lt _ (Nat.pos_of_ne_zero hn))) Γ p a
theorem Ar{α:Type}:∀(n:Nat) (xs:List α) (s:dD) (Q:List α->dD->Prop),xs.length=n->(∀ys b,ys.Perm xs->Q ys {s with drawn:=b})->dM (model P w) A (drawOrder n xs) Q E s
 |0,xs,s,Q,h,q=>by
  have:=cu.mp h;subst this;exact wP1 (q [] s.drawn (.refl _))
 |n+1,[],s,Q,h,q=>by simp at h
 |n+1,x::xs,s,Q,h,q=>by
  rw[drawOrder];refine wB1 (AA (by simp) λi b hi=>?_);rw[gG1 hi];dsimp only;refine wB1 (Ar n _ _ _ (by rw[cJ hi];lia) λys a c=>wP1 (q _ a ?_));refine(c.cons _).trans ?_;have d:x::xs=(x::xs).take i++(x::xs)[i]::(x::xs).drop (i+1):=by rw[List.getElem_cons_drop,cK]
  rw[cM];refine List.Perm.trans ?_ (List.Perm.of_eq d.symm);exact List.perm_middle.symm
  all_goals simp
theorem A3{l:Bool}{Q:dB->dD->Prop}(ho:s.heap.get? a=some (stO es ep t))(hf:t.fits es.size=true)(H:es.size<scanBound)(D:TS l t)(G:byT w=false->l=true)(q:∀it h' h f pl,(∀c o,s.heap.get? c=some o->h'.get? c=some o)->s.heap.objs.size<=it->FD h' it a f 0 es.size ep->tj w h' a es ep t f 0 pl->(∀b,f = .ref b->b≠it/\s.heap.objs.size<=b)->Q (.ref it) {s with heap:=h',drawn:=h}):
  dM (model P w) A (pyIter (.ref a)) Q E s:=by
 have B:s.TypeIs (.ref a) "set":=⟨_,ho,rfl⟩;refine wpAny_pyIter_slot B PySem.F.slot_set_iter (wE1 PySem.F.slot_set_iter B sK ?_ (PySem.F.args_set_iter_1 _));unfold Builtin.«frozenset.__iter__»;refine wB1 (m:=Builtin.Frozenset.slot0 _ _) (wP1 ?_);unfold Builtin.Frozenset.sizeOf;refine wB1 (wB1 (wpAny_setEntries_of ho rfl hf (wP1 ?_)));unfold setDrawn;refine wB1 (wB1 (wpAny_setState_of ho rfl hf (wB1 (pE (wP1 ?_)))));show dM _ _ (if (!byT w&&(!t.plain&&decide (es.size>1)))=true then _ else _) _ _ _;have d:∀ (h1:dN) (h:Drawn) (f:dB) (pl:List dB),(∀ c o,s.heap.get? c=some o->h1.get? c=some o)->s.heap.objs.size<=h1.objs.size->(∀ b,f = .ref b->b<h1.objs.size/\s.heap.objs.size<=b)->(∀ h',(∀ c o,h1.get? c=some o->h'.get? c=some o)->tj w h' a es ep t f 0 pl) ->
   dM (model P w) A.in1 (setEpoch a >>= λe=>newFields "set_iterator" [f,rawInt 0,.ref a,rawInt es.size,rawInt e] >>= λr=>ret r) (λd s'=>∃r,d=Fin.done (Flow.ret r) /\ ∃T g,s'.TypeIs r T/\typeLookup (.type T) "__next__"=pure (Z g)/\Q r s') E {s with heap:=h1,drawn:=h}:=by
  intro h1 h f pl y v u F;refine wB1 (wpAny_setEpoch_of (y a _ ho) O hf (wB1 (wO1 (wP1 ⟨_,O,"set_iterator",_,⟨_,hS1 _ O,O⟩,iN.lookup,?_⟩) (by size_fits))));refine q h1.objs.size _ h f pl (λc o e=>hP1 _ (y c o e)) v ?_ (F _ λc o e=>hP1 _ e) λb e=>⟨nN1 (u b e).1,(u b e).2⟩;have:=hS1 h1 (o:={cls:=.type "set_iterator",data:=.fields #[f,.int 0 0,.ref a,.int es.size 0,.int ep 0]}) O;exact this
 by_cases n:byT w=M
 ·rw[aj (by rw[n];simp)];refine wB1 (wP1 ?_);exact d s.heap s.drawn _ _ (λ_ _ e=>e) (nR1 _) (λb z=>by cases z) λh' _=>.txt n 0 0
 ·have n:byT w=J:=by simpa using n
  by_cases p:(!t.plain&&decide (es.size>1))=M
  ·rw[ak (by rw[n,p];rfl)];refine wB1 (Ar es.size (af es.size) s _ (by simp) λys h C=>?_);refine wB1 (m:=newTuple _) (wO1 (s:={s with drawn:=h}) ?_ ?_)
   ·refine d (s.heap.push {cls:=.type "tuple",data:=.seq (ys.map λ(i:Nat)=>rawInt i).toArray}) h (.ref s.heap.objs.size) (ys.map λj=>(es[j]?.map (·.2)).getD .none) (λc o e=>hP1 _ e) (by rw[hZ1];exact aX _) (λb z=>by cases z;exact⟨by rw[hZ1];exact bE _,nR1 _⟩) λh' k=>?_;exact .drw n p 0 _ ys (k _ _ (hS1 _ O)) C
   ·have:=C.length_eq;have x:=fits_of_scanBound H;simp[sizeOk,this,x]
  ·have p:(!t.plain&&decide (es.size>1))=J:=by simpa using p
   rw[aj (by rw[p];simp)];refine wB1 (wP1 ?_);exact d s.heap s.drawn _ _ (λ_ _ e=>e) (nR1 _) (λb z=>by cases z) λh' _=>.plc n p (by rw[D.ld];exact G n) D.up 0
end
theorem tj.keep{w:dH}{h h':dN}{a:dE}{es:Array (Int×dB)}{ep:Nat}{t:SetTable}{f:dB}{i:Nat}{pl:List dB}(y:tj w h a es ep t f i pl)(k:∀c o,f = .ref c->h.get? c=Z o->h'.get? c=Z o):tj w h' a es ep t f i pl:=by
 cases y with
 |txt b _ sl=>exact .txt b _ sl
 |drw b d _ c ps e g=>exact .drw b d _ c ps (k c _ O e) g
 |plc b d j l _=>exact .plc b d j l _
section
variable{P:dF}{w:dH}{A:dG}{E:dB->dD->Prop}
theorem A2{it a S:dE}{ep:Nat}{es:Array (Int×dB)}{t:SetTable}{pl:List dB}{r:dB}{R:Result->dD->Prop}(Q:A.handled=none)(hf:t.fits es.size=true)(h1:it≠a)(h2:S≠a)(K:S≠it)(hn:es.size<=dL):
  ∀(k i:Nat) (s:dD) (f:dB) (acc:Array dB) (c:Nat),es.size-i=k->i<=es.size->FD s.heap it a f i es.size ep->s.heap.get? a=Z (stO es ep t)->tj w s.heap a es ep t f i pl->(∀g,f = .ref g->g≠it/\g≠S) ->
  s.heap.get? S=Z {cls:=.type "list",dict:=Y,data:=.seq acc c,slots:= #[]}->acc.toList=pl.take i ->
  (∀h' d ao,(∀b u,b≠it->b≠S->s.heap.get? b=Z u->h'.get? b=Z u)->h'.get? S=Z {cls:=.type "list",dict:=Y,data:=.seq d ao,slots:= #[]}->d.toList=pl->R (.ok (.ret r)) {s with heap:=h'}) ->
  codeAny (model P w) A (.builtin "list.extend.loop" ⟨[.ref S,.ref it,r],[]⟩) R s:=by
 intro k
 induction k with
 |zero=>
  intro i s f acc c T hi l C y E G D I;have e:i=es.size:=by lia
  subst e;have j:=y.len;refine wD1 PySem.F.entry_extend_loop (?_:_);rw[Around.under_plainId PySem.F.plain_extend_loop _];show dM _ A.in1 (pyNext (.ref it) >>= _) _ _ s;refine wB1 (Dl Q l C hf y λh' keep=>wP1 ?_);exact I h' acc c (λb u n _ e=>keep b u n e) (keep S _ K G) (by rw[D,<- j,b4])
 |succ k ih=>
  intro i s f acc c T hi l C y E G D I;have am:i<es.size:=by lia
  have j:=y.len;obtain⟨x,N⟩:∃x,pl[i]?=some x:=⟨_,gG1 (by lia)⟩;have z:acc.size=i:=by rw[<- aJ,D,aQ];lia
  refine wD1 PySem.F.entry_extend_loop (?_:_);rw[Around.under_plainId PySem.F.plain_extend_loop _];show dM _ A.in1 (pyNext (.ref it) >>= _) _ _ s;refine wB1 (A1 l C hf y N (λg e=>(E g e).1) λh' V B keep U au=>?_);have v:=keep S _ K G;show dM _ A.in1 (updateSeq S (·.push x) >>= _) _ _ _;refine wB1 (wpAny_updateSeq (s:={s with heap:=h'}) v O ?_ (by rw[z];lia) (by show(acc.push _).size<=dL+1;rw[Array.size_push,z];lia));have h:∀b u,b≠S->h'.get? b=Z u->(h'.update S (Obj.mapSeq (·.push x))).get? b=Z u:=λb u n e=>by rw[hU1 _ _ _ _ n];exact e
  refine wP1 ⟨plainId_quiet PySem.F.plain_extend_loop _,ih (i+1) {s with heap:=h'.update S (Obj.mapSeq (·.push x))} V (acc.push x) _ (by lia) am (h it _ (Ne.symm K) B) (h a _ (Ne.symm h2) (keep a _ (Ne.symm h1) C)) (U.keep λg o e q=>h g o (E g (au g e)).2 q) (λg e=>E g (au g e)) (hW1 _ v O) ?_ ?_⟩
  ·rw[cA,D,cH,N];rfl
  ·intro L d ao m H F;exact I L d ao (λb u n p e=>m b u n p (h b u p (keep b u n e))) H F
theorem yB:typeLookup (.type "set") "__len__"=pure (Z (.builtin "set.__len__")):=by rw[typeLookup_type,builtinLookup_eq_fast];kernel_rfl
theorem A4 {s:dD}{v:dE}{Q:Bool->dD->Prop}(c:s.TypeIs (.ref v) "set")(q:Q J s):dM (model P w) A (Builtin.List.listLengthHint (.ref v)) Q E s:=by
 unfold Builtin.List.listLengthHint;refine wB1 (wpAny_specialOf c yB (?_:_));generalize a:("set.__len__":String)=id0
 wp_delta
 rw[show splitId id0=Z ("set","__len__")from by subst a;decide+kernel];subst a;refine wB1 (wpAny_isInstance (b:=M) c (by rw[isSubtype_type];kernel_rfl) (?_:_));rw[aj (by decide)];dsimp only;rw[ak (by decide+kernel)];exact wB1 (wpAny_typeOf c (wP1 q))
theorem tR{s:dD}{a:dE}{ns:List Int}{Q:List dB->dD->Prop}(W:A.handled=Y)(hx:je (byT w) a ns s.heap)(q:∀h' p vs N,(∀b u,s.heap.get? b=Z u->h'.get? b=Z u)->s.heap.objs.size<=h'.objs.size->IntsAre vs N->N.Perm ns->Q vs {s with heap:=h',drawn:=p}):dM (model P w) A (collect (.ref a)) Q E s:=by
 obtain⟨es,ep,t,l,D,au,R,ao,wq,U⟩:=hx;have n:a<s.heap.objs.size:=hL1 D;unfold collect;refine wB1 (wpAny_runValue (wD1 PySem.F.entry_proto_collect (?_:_)));rw[Around.under_plainId PySem.F.plain_proto_collect _];show dM _ A.in1 (newList [] >>= λl=>again (.builtin "list.__iadd__" ⟨[l,.ref a],[]⟩)) _ _ s;refine wB1 (wO1 (?_:_));refine wP1 ⟨plainId_quiet PySem.F.plain_list_iadd _,wD1 PySem.F.entry_list_iadd (?_:_)⟩;rw[Around.under_plainId PySem.F.plain_list_iadd _];have r:(s.heap.push {cls:=.type "list",data:=.seq ([]:List dB).toArray}).get? s.heap.objs.size=Z {cls:=.type "list",data:=.seq ([]:List dB).toArray}:=hS1 _ O;have g:∀b u,s.heap.get? b=Z u->(s.heap.push {cls:=.type "list",data:=.seq ([]:List dB).toArray}).get? b=Z u:=λb u e=>hP1 _ e;have z:(s.heap.push {cls:=.type "list",data:=.seq ([]:List dB).toArray}).objs.size=s.heap.objs.size+1:=by rw[hZ1]
 have L:s.heap.objs.size≠a:=nG1 n;have h1:Builtin.List.listSameRef (.ref s.heap.objs.size) (.ref a)=J:=by simp[Builtin.List.listSameRef,L]
 show dM _ A.in1 (Builtin.List.listExtendWith (.ref s.heap.objs.size) (.ref a) (.ref s.heap.objs.size)) _ _ {s with heap:=s.heap.push {cls:=.type "list",data:=.seq ([]:List dB).toArray}};generalize s.heap.push {cls:=.type "list",data:=.seq ([]:List dB).toArray}=h₁ at *
 unfold Builtin.List.listExtendWith;refine wB1 (wpAny_typeOf (T:="set") ⟨_,g a _ D,O⟩ ?_);rw[aj (by rw[h1];decide)];refine wB1 (A3 (s:={s with heap:=h₁}) (g a _ D) ao R wq U λit d p f pl h c K y F=>?_);dsimp only at h c F;have i:=h _ _ r;have x:Shared.TypeIs {s with heap:=d,drawn:=p} (.ref a) "set":=⟨_,h _ _ (g a _ D),O⟩;refine wB1 (wpAny_holding (A4 x ?_));rw[ak (by decide+kernel)];refine wB1 (wpAny_rule (wB1 ?_));show dM _ A.in1 (updateSeq s.heap.objs.size (·.push .none) >>= λ_=>updateSeq s.heap.objs.size (·.pop)) _ _ _;refine wB1 (wpAny_updateSeq (s:={s with heap:=d,drawn:=p}) i O ?_);have j:=hW1 (Obj.mapSeq (·.push Value.none)) i O;refine wpAny_updateSeq (s:={s with heap:=d.update s.heap.objs.size (Obj.mapSeq (·.push Value.none)),drawn:=p}) j O ?_;have B:=hW1 (Obj.mapSeq (·.pop)) j O;have m:∀b u,b≠s.heap.objs.size->d.get? b=Z u->((d.update s.heap.objs.size (Obj.mapSeq (·.push Value.none))).update s.heap.objs.size (Obj.mapSeq (·.pop))).get? b=Z u:=λb u C e=>by
  rw[hU1 _ _ _ _ C,hU1 _ _ _ _ C];exact e
 rw[z]at c F;have S:=y.perm;refine wP1 ⟨plainId_quiet PySem.F.plain_extend_loop _,A2 (it:=it) (pl:=pl) W ao (nG1 (bh n c)) (nG1 n) (nN1 c) (fits_of_scanBound R) es.size 0
  {s with heap:=(d.update s.heap.objs.size (Obj.mapSeq (·.push Value.none))).update s.heap.objs.size (Obj.mapSeq (·.pop)),drawn:=p} f _ _ O (bi _) (m _ _ (nG1 c) K) (m a _ (nN1 n) (h _ _ (g a _ D))) (y.keep λG o e q=>m G o (nG1 (F G e).2) q) (λG e=>⟨(F G e).1,nG1 (F G e).2⟩) B O λh' I c' keep H X=>?_⟩
 show dM _ A (load s.heap.objs.size >>= _) _ _ {s with heap:=h',drawn:=p};refine wB1 (wpAny_load H ?_);have aq:∀v∈pl,∃k t,v=Value.int k t:=λv am=>by
  obtain⟨e,V,rfl⟩:=ci.mp (S.mem_iff.mp am);obtain⟨k,t,rfl⟩:=au.el e V;exact⟨k,t,O⟩
 have all:∀vs:List dB,(∀v∈vs,∃k t,v=Value.int k t)->IntsAre vs (vs.map λv=>IL (0,v)):=by
  intro vs
  induction vs with
  |nil=>intro _;exact .nil
  |cons v vs ih=>
   intro am;obtain⟨k,t,rfl⟩:=am v mS1;exact .cons k t (ih λu hu=>am u (mC1 _ hu))
 refine wP1 (q h' p I.toList (pl.map λv=>IL (0,v)) (λb u e=>?_) (aD (hL1 H)) (by rw[X];exact all pl aq) ?_)
 ·have C:=hL1 e;exact keep b u (nN1 (bh C c)) (nN1 C) (m b u (nN1 C) (h _ _ (g b u e)))
 ·refine(S.map _).trans ?_;rw[bv];exact au.pm
theorem rp {s:dD}{a:dE}{ns:List Int}{Q:dB->dD->Prop}(o:A.handled=none)(hx:je (byT w) a ns s.heap)(j:ns.length<64)
  (q:∀h' f L n out,(∀b u,s.heap.get? b=Z u->h'.get? b=Z u)->s.heap.objs.size<=L->h'.get? L=Z (seqObj "list" out n)->IntsAre out.toList (jP ns)->Q (.ref L) {s with heap:=h',drawn:=f}):
  dM (model P w) A (call (.builtin "sorted") [.ref a]) Q E s:=by
 refine Calls.call_function_entry kind_sorted plain_sorted entry_sorted (args_sorted1 _) (?_:_);unfold Builtin.«sorted»;refine wB1 (m:=checkCount "sorted" 1 1 _) (wP1 (wB1 (tR o hx λh' f vs t keep r l k=>?_)));have d:vs.length<64:=by rw[l.length,k.length_eq];exact j
 refine wB1 (wpAny_newList (hsz:=by rw[sizeLine_eq];lia) ?_);have c:(h'.push (seqObj "list" vs.toArray 0)).get? h'.objs.size=Z (seqObj "list" vs.toArray 0):=hS1 _ O;show dM _ _ _ _ _ {s with heap:=h'.push (seqObj "list" vs.toArray 0),drawn:=f};refine wB1 (wpAny_holding (wE1 slot_list_sort ⟨_,c,O⟩ entry_list_sort (list_sort_tree (s:={s with heap:=h'.push (seqObj "list" vs.toArray 0),drawn:=f}) c l d λout h a1 a2 a3=>⟨_,O,?_⟩) (args_list_sort _)));have p:h=jP ns:=pV (a2.trans (k.trans (ip ns).symm)) a3 (mz ns);subst p;obtain⟨n,i⟩:=sortedHeap_at (out:=out) c;refine wP1 ⟨_,O,q _ f h'.objs.size n out (λb u e=>?_) r i a1⟩;have g:=keep b u e;show(sortedHeap (h'.push (seqObj "list" vs.toArray 0)) h'.objs.size vs out).get? b=Z u;rw[sortedHeap_old (nN1 (hL1 g)) (by rw[hZ1];exact cI (hL1 g))];exact hP1 _ g
end
noncomputable def iZ:G1:=λd S=>match d6 S d with
 |some (M,xs)=>(m7 xs).bind λns=>if ns.length<64 then Z (.ref S.length,S++[.lst ((jP (ddI ns)).map D.int)])else Y
 |_=>Y
section
variable{X:Cx}
noncomputable def Gj(X:Cx)(vs:List V)(H:Hp)(Q:VK):Prop:=∃a xs ns,vs=[.ref a]/\lU X.K H a xs/\(∀us,ei xs us->IntsAre us ns)/\ns.length+1<scanBound /\ ∀p,H p=Y->Q (.ref p) (upd H p (.ext (je (byT X.w) p (ddI ns))))
noncomputable def DS(X:Cx)(vs:List V)(H:Hp)(Q:VK):Prop:=∃a ns,vs=[.ref a]/\H a=Z (.ext (je (byT X.w) a ns))/\ns.length<64 /\ ∀p,H p=Y->Q (.ref p) (upd H p (.lst ((jP ns).map V.int)))
theorem wX{ag:List (dE×Obj)}{σ:L2.St}{H:Hp}{s:dD}(I:Inv X ag σ H s)(d:Drawn):Inv X ag σ H {s with drawn:=d}:=⟨I.ok,I.os,I.bare,I.base,I.loc,I.cell,I.free,I.freeC,I.pin,I.hok,I.len⟩
theorem Fo(hc:X.calm=M):fj X (.type "set") (Gj X):=by
 intro ag s σ H xs m Q I r h;obtain⟨a,vs,ns,rfl,g,hi,f,q⟩:=h;obtain⟨u,rfl,r2⟩:=iK r;cases r2;obtain⟨b,j,p,n⟩:=I.list g;have i:=hi b j;refine xA (I.ok.hd hc) p.isList (by simpa using i) f λh' tk keep d=>?_;have c:=I.hok.fresh (nR1 s.heap.objs.size);refine⟨.ref s.heap.objs.size,_,I.laid (t':=tk) (o:=.ext (je (byT X.w) s.heap.objs.size (ddI ns))) keep (nR1 _) ⟨d,?_,λh1 h2 x k=>x.old k⟩,O,q _ c⟩;obtain⟨es,ep,t,l,e,_⟩:=d;exact⟨_,e⟩
theorem CA(hc:X.calm=M):fj X (.builtin "sorted") (DS X):=by
 intro ag s σ H xs k Q I r h;obtain⟨a,ns,rfl,e,g,q⟩:=h;obtain⟨u,rfl,r2⟩:=iK r;cases r2;obtain⟨i,_⟩:=(show eN X.prog X.w H s.heap a (.ext (je (byT X.w) a ns))from I.hok a _ e);refine rp (I.ok.hd hc) i g λh' f L n out keep d b j=>?_;have c:=I.hok.fresh d;refine⟨.ref L,_,wX (I.laid (t':=s.toks) (o:=.lst ((jP ns).map V.int)) keep d ⟨?_,out.toList,n,wY j,by rw[Array.toArray_toList];exact b⟩) f,O,q _ c⟩;rw[lM1,(ip ns).length_eq,sizeLine_eq];lia
theorem Hj(ns:List Int):(ddI ns).length<=ns.length:=by
 have:=no ns [];unfold ddI;simpa using this
theorem wu (hc:X.calm=true){o:Expr}{m:FE}{p p2 pos b:Pos}(hg:Gl X "sorted")(hm:X.mg "sorted"=none)(hg2:Gl X "set")(hm2:X.mg "set"=none)(ho:XE X o m)
  (he:dJ [.Call (.Name "set" p2) [o] [] b] X.env=[(J,eval (.Call (.Name "set" p2) [o] [] b) X.env)]:=by rfl) (e:dJ [o] X.env=[(J,eval o X.env)]:=by rfl):XE X (.Call (.Name "sorted" p) [.Call (.Name "set" p2) [o] [] b] [] pos) (mN (b1 iZ) (dS m dU)):=
 ⟨eU (rK (CA hc) hg hm (by decide+kernel) (j7 (ji (Fo hc) hg2 hm2 (by decide+kernel) (j7 ho.h mR e) (he:=e)) mR he) (he:=he)) <| by
  rintro σ H Q ⟨r,mu,S,d,F,he,x,hm,g⟩;obtain⟨⟨ds,E⟩,f,hm⟩:=oB1.mp hm;obtain⟨⟨A,C⟩,w,f⟩:=oB1.mp f;cases f;dsimp only[b1,iZ]at hm;split at hm
  ·rename_i xs z;obtain⟨ns,l,hm⟩:=oB1.mp hm;split at hm
   ·rename_i k;cases hm;refine⟨r,mu,S,A,_,he,x,w,λv H1 mu1 B n h=>?_⟩;obtain⟨a,vs,rfl,q,t⟩:=ev n h z;refine⟨a,vs,ns,O,q,λD s=>(wZ t s l).1,bh (Nat.succ_lt_succ k) (by decide),λp i=>?_⟩;refine⟨p,ddI ns,O,d4,bJ (Hj ns) k,λp2 c=>?_⟩;have y:Ext mu1 mu1 H1 (upd H1 p (.ext (je (byT X.w) p (ddI ns)))):=Ext.fresh i;have j:=h.fresh (u:=.ext (je (byT X.w) p (ddI ns))) i;exact g _ _ (mu1++[p2]) (B.trans (y.trans (Ext.new_ c))) (.ref (fZ j.len _)) (j.newL (kY _) c)
   ·cases hm
  ·cases hm⟩
end
section
variable{X:Cx}{ag:List (dE×Obj)}{σ:L2.St}{H:Hp}{s:dD}{a:dE}{kvs:List (Key×V)}{k:Key}{v:V}{u r:dB}{A:dG}{E:dB->dD->Prop}
end
section
variable{X:Cx}
end
open AutoSeq1 (wpAny_loadPart')
section
variable{prog:dF}{w:dH}{A:dG}{E:dB->dD->Prop}{s:dD}
theorem sV{Q:List dB->dD->Prop}{r:dE}{a b c:Int}{t u v:Tok}{n:Nat}(C:A.handled=none)(hr:IsRange s.heap r a b c t u v)(hsmall:Builtin.Range.small a b c=true)(hn:Builtin.Range.rangeSize a b c=n)(m:n<=2^24)(G:∀h' tk d,(∀b o',s.heap.get? b=some o'->h'.get? b=some o')->ItemsOf (fun i v=>∃t,v = .int (a+i*c) t) d n->Q d.toList {s with heap:=h',toks:=tk}):
  dM (model prog w) A (collect (.ref r)) Q E s:=by
 unfold collect;refine wB1 (wpAny_runValue (wD1 F.entry_proto_collect (?_:_)));rw [Around.under_plainId F.plain_proto_collect _];show dM _ A.in1 (newList [] >>= fun l=>again (.builtin "list.__iadd__" ⟨[l,.ref r],[]⟩)) _ _ s;refine wB1 (wO1 (?_:_));refine wP1 ⟨plainId_quiet F.plain_list_iadd _,wD1 F.entry_list_iadd (?_:_)⟩;rw [Around.under_plainId F.plain_list_iadd _];show dM _ A.in1 (Builtin.List.listExtendWith (.ref s.heap.objs.size) (.ref r) (.ref s.heap.objs.size)) _ _ _;have D:(s.heap.push {cls:=.type "list",data:=.seq ([]:List dB).toArray}).get? s.heap.objs.size=some {cls:=.type "list",data:=.seq #[] 0}:=hS1 _ rfl;have j:∀ h' tk d g,(∀ b o',s.heap.get? b=some o'->h'.get? b=some o')->h'.get? s.heap.objs.size=some {cls:=.type "list",dict:=none,data:=.seq d g,slots:= #[]}->ItemsOf (fun i v=>∃ t,v = .int (a+i*c) t) d n ->
   dM (model prog w) A (match Value.ref s.heap.objs.size with
   |Value.ref a=>do
    match (<- load a).data with
     |Data.seq xs _=>pure xs.toList
     |_=>unsupported "internal:collect"
   |_=>unsupported "internal:collect") Q E {s with heap:=h',toks:=tk}:=by
  intro h' tk d g y k p;show dM _ A (load s.heap.objs.size >>= _) _ _ _;refine wB1 (wpAny_load k (?_:_));refine wP1 (?_:_);exact G h' tk d y p
 refine wpAny_mono (wpAny_extend_range (A:=A) (R:=λB s'=>∃h' tk d g,B = .ok (.ret (.ref s.heap.objs.size))/\s'={s with heap:=h',toks:=tk}/\(∀b o',s.heap.get? b=Z o'->h'.get? b=Z o')/\h'.get? s.heap.objs.size=Z {cls:=.type "list",dict:=Y,data:=.seq d g,slots:= #[]}/\ItemsOf (λi v=>∃t,v = .int (a+i*c) t) d n)
  (s:={s with heap:=s.heap.push {cls:=.type "list",data:=.seq ([]:List dB).toArray}}) C (hP1 _ hr) hsmall hn m _ _ 0 D λh' tk d g y k p=>
   ⟨h',tk,d,g,O,O,λb o e=>y b o (nN1 (hL1 e)) (hP1 _ e),k,p⟩) (λx s' h=>?_) (λe s' h=>?_)
 ·cases x with
  |done f=>
   obtain⟨h',tk,d,g,e,rfl,q⟩:=h;cases e;exact j h' tk d g q.1 q.2.1 q.2.2
  |again g=>exact⟨h.1,codeAny_mono h.2 λr z hr=>by obtain⟨h',tk,d,g,rfl,rfl,q⟩:=hr;exact j h' tk d g q.1 q.2.1 q.2.2⟩
 ·obtain⟨_,_,_,_,e,_⟩:=h;cases e
end
theorem uo(r:dE)(a b c:Int)(t u v:Tok)(n:Nat)(hsmall:Builtin.Range.small a b c=true)(hn:Builtin.Range.rangeSize a b c=n)(f:n<=2^20):
  Meets (Builtin.«tuple.__new__» ⟨[.type "tuple",.ref r],[]⟩)
   (λA R s=>A.handled=Y/\IsRange s.heap r a b c t u v /\ ∀(h':dN) (tk:Nat) (acc:Array dB),(∀b o',s.heap.get? b=Z o'->h'.get? b=Z o')->ItemsOf (λi v=>∃t,v = .int (a+i*c) t) acc n ->
    R (.ok (.ret (.ref h'.objs.size))) {s with heap:=h'.push {cls:=.type "tuple",data:=.seq acc},toks:=tk}):=
 .of_wp λprog w A R s h=>by
  obtain⟨C,g,d,m,B⟩:=s;obtain⟨z,l,h⟩:=h;have p:=sub_tuple_self;have j:=init_tuple_lookup;have q:=madeHere_tuple;have x:Shared.TypeIs ⟨C,g,d,m,B⟩ (.ref r) "range":=⟨_,l,O⟩;have k:A.in1.handled=Y:=z
  wp_walk using wpAny_loadPart' l,wpAny_typeOf x,sV k l hsmall hn (aC f (by decide))
  intro h' tk acc y o;show dM _ _ (Builtin.Tuple.tupleExact acc.toList.toArray >>= λv=>ret v) _ _ _;unfold Builtin.Tuple.tupleExact;have D:n<=dL:=aC f (by decide);refine wB1 (wO1 (?_:_) (show acc.toList.toArray.size<=dL by simp only[Array.toArray_toList];rw[o.1];exact D));refine wP1 ⟨_,O,(?_:_)⟩;have e:acc.toList.toArray=acc:=by simp
  rw[e];exact h h' tk acc y o
section
variable{X:Cx}
theorem Fn(hc:X.calm=M):fj X (.type "tuple") (λxs H Q=>∃p i j,xs=[.ref p]/\H p=Z (.rng i j)/\(-(2^62)<=i/\i<2^62 /\ -(2^62)<=j/\j<2^62)/\(j-i).toNat<=2^20 /\ ∀l,H l=Y->Q (.ref l) (upd H l (.tup (jn i (j-i).toNat)))):=by
 intro ag s σ H xs K Q I r h;obtain⟨p,i,j,rfl,D,⟨h1,h2,B,w⟩,m,q⟩:=h;obtain⟨u,rfl,y⟩:=iK r;cases y;obtain⟨t,u,v,e⟩:=I.hok p _ D;have G:(((j-i).toNat:Nat):Int)=Builtin.Range.rangeSize i j 1:=by rw[rangeSize_one];split<;>lia
 refine callType_new F.called_tuple (by decide) (F.typeCall_tuple_1 _) (F.newCall_tuple_1 _) (λf=>F.args_object_init_2 f _) F.entry_tuple_new
  (uo p i j 1 t u v (j-i).toNat (small_one h1 h2 B w) G.symm m) ⟨I.ok.hd hc,e,λh' tk a z hi=>⟨⟨_,hS1 _ O,O⟩,(?_:_)⟩⟩
 obtain⟨g,d⟩:=hi;have c:ei (jn i (j-i).toNat) a.toList:=pH (by rw[iQ];simpa using g.symm) λk x u E am=>by
  rw[mK _ _ _ _ E];obtain⟨C,rfl⟩:=d k u (by simpa using am);exact⟨C,by rw[Int.mul_one]⟩
 have n:Inv X ag σ H {s with heap:=h',toks:=tk}:=I.kept (t':=tk) z;have A:Inv X ag σ (upd H h'.objs.size (.tup (jn i (j-i).toNat))) {s with heap:=h'.push {cls:=.type "tuple",data:=.seq a},toks:=tk}:=
  n.laid (t':=tk) (λb o e=>hP1 _ e) (nR1 _) (show eN X.prog X.w _ _ _ (.tup _)from⟨by rw[iQ];exact aC m (by decide),a.toList,c,by simpa using IsTup.new _ _⟩)
 exact⟨.ref h'.objs.size,_,A,O,q _ (n.hok.fresh (nR1 _))⟩
noncomputable def zB(m:FA):FE:=λr S=>(m r S).bind λp=>match p.1 with
 |[.int j]=>if om 0 j=M then Z (.tup (gB 0 j.toNat),p.2)else Y
 |_=>Y
theorem xW {a:Expr}{m:FA}{e p2 b c:Pos}(hc:X.calm=true)(hg:Gl X "range")(hm:X.mg "range"=none)(hg2:Gl X "tuple")(hm2:X.mg "tuple"=none)(ha:XA X [a] m)(hs:dJ [a] X.env=[(false,eval a X.env)]:=by rfl)
  (hs2:dJ [.Call (.Name "range" e) [a] [] b] X.env=[(J,eval (.Call (.Name "range" e) [a] [] b) X.env)]:=by rfl):XE X (.Call (.Name "tuple" p2) [.Call (.Name "range" e) [a] [] b] [] c) (zB m):=
 ⟨eU (ji (Fn hc) hg2 hm2 (by decide+kernel) (j7 (oy hg hm ha.h hs) mR hs2) (by decide) (by decide) hs2) <| by
  rintro σ H Q ⟨r,mu,S,d,x,o,hs,hm,f⟩;obtain⟨⟨ds,y⟩,n,hm⟩:=oB1.mp hm;dsimp only at hm;split at hm
  ·rename_i j;split at hm
   ·rename_i g;cases hm;refine⟨r,mu,S,_,_,o,hs,n,λvs H1 mu1 t q k=>?_⟩;obtain⟨v,rfl,w⟩:=j5 q;cases w;refine⟨j,O,λp h=>⟨p,0,j,O,d4,(jY g).1,(jY g).2,λl i=>?_⟩⟩;have s:=(t.trans (Ext.fresh (u:=.rng 0 j) h)).trans (Ext.fresh (u:=.tup (jn 0 (j-0).toNat)) i);exact f _ _ mu1 s (.tup (jm.of d4) (by rw[Int.sub_zero];exact mJ _ _)) ((k.fresh h).fresh i)
   ·cases hm
  ·cases hm⟩
end
section
variable{P:dF}{w:dH}{A:dG}{E:dB->dD->Prop}{s:dD}
end
section
variable{X:Cx}
end
section
variable{X:Cx}{a b:Expr}{rest:List Expr}{pos:Pos}{ta tb:TE}{f g:FE}
end
section
variable{X:Cx}
noncomputable def C8:G1:=λd S=>match d with
 | .ref n=>match S[n]? with
  |some (.dct kvs)=>Z (.int kvs.length,S)
  |_=>eS d S
 |_=>eS d S
end
section
variable{P:dF}{w:dH}{A:dG}{E:dB->dD->Prop}{b:Bool}
end
section
variable{X:Cx}
end
section
variable{prog:dF}{w:dH}{A:dG}{E:dB->dD->Prop}{s:dD}
theorem E2{a b:dE}{k l:Int}{t u:Tok}{i zs:List dB}{Q:Bool->dD->Prop}(ha:IsTup s.heap a (Value.int k t::i).toArray)(hb:IsTup s.heap b (Value.int l u::zs).toArray)(c:k≠l)(h:Q (decide (k<l)) s):
  dM (model prog w) A (keyLt' (tuples' M) (.ref a) (.ref b)) Q E s:=by
 rw[iB];obtain⟨o,d,m,_,f⟩:=ha;obtain⟨j,g,n,_,e⟩:=hb;refine wB1 (listItems_at d f (wB1 (listItems_at g e ?_)));rw[bV,bM,bG];refine wB1 (wB1 ?_);dsimp only;refine wB1 (wpAny_eqBool_int ?_);rw[beq_false_of_ne c];simp only[cp,if_true];exact wB1 (oneLt_int (wP1 (wP1 (wP1 h))))
theorem E5{vs:List dB}{Q:SortKind->dD->Prop}(j:vs≠[])(h:∀ v∈vs,∃ a k t ps,v = .ref a/\IsTup s.heap a (Value.int k t::ps).toArray)(q:Q (tuples' true) s):
  dM (model prog w) A (keyKind' vs.toArray) Q E s:=by
 rw[keyKind'_eq,cq,<- bind_pure_comp];refine wB1 (wB1 (kf (P:=λ_ r=>∃k t,r=Z (Value.int k t)) (λv d=>?_) λrs C f=>wP1 ?_))
 ·obtain⟨a,k,t,ps,rfl,⟨o,l,B,_,y⟩⟩:=h v d;refine⟨Z (.int k t),⟨k,t,O⟩,λQ q=>?_⟩;rw[sG];refine wB1 (wpAny_typeOf (T:="tuple") ⟨o,l,B⟩ ?_);rw[aj (by decide)];refine wB1 (listItems_at l y (wP1 ?_));simpa using q
 ·have D:rs.toArray.all (·.isSome)=true:=by
   rw[cr,bD];intro r g;obtain⟨v,_,k,t,e⟩:=f r g;rw[e];rfl
  rw[ak D];refine wB1 (wpAny_rule ?_);rw[oneTypeOnly'_eq];have F:rs.toArray.filterMap id=(rs.filterMap id).toArray:=by simp
  rw[F,cq,<- bind_pure_comp];refine wB1 (wB1 (wB1 (kf (P:=λ_ t=>t=Value.type "int") (λv d=>?_) λc b m=>wP1 ?_)))
  ·obtain⟨r,g,e⟩:=aL.mp d;obtain⟨G,_,k,t,u⟩:=f r g;rw[u]at e;cases e;exact⟨_,O,λQ q=>wpAny_typeOf (T:="int") (typeIs_int s k t) q⟩
  ·cases c with
   |nil=>
    exfalso;cases rs with
    |nil=>exact j (cu.mp C.symm)
    |cons r rs=>
     obtain⟨_,_,k,t,e⟩:=f r mS1;rw[e]at b;simp at b
   |cons t c=>
    have all:∀x∈t::c,x=Value.type "int":=λx i=>by obtain⟨_,_,z⟩:=m x i;exact z
    have n:=all t mS1;subst n;have p:((Value.type "int"::c).toArray.all λx=>x == Value.type "int")=M:=by
     rw[cr,bD];intro x i;rw[all x i];rfl
    show dM _ _ (pure (if((Value.type "int"::c).toArray.all λx=>x == Value.type "int")=M then Z (Value.type "int")else Y)) _ _ _;rw[ak p];exact wP1 (wP1 q)
end
section
variable{X:Cx}{ag:List (dE×Obj)}{σ:L2.St}{H:Hp}{s:dD}{mu:List dE}
end
section
variable{X:Cx}
end
section
variable{X:Cx}{f:dE}{fd:dP}{ps:List Str}{k n:Nat}{sp:Sp}{dvs:List V}{ds:List dB}{CX:xJ}{E:XK}{t:TA}{e:Expr}{es:List Expr}{p pos:Pos}{i:Nat}{v x:Str}
end
section
variable{prog:dF}{w:dH}{K:Type} [DecidableEq K] {knd:HeapKind prog w K}{A:dG}{E:dB->dD->Prop}{s:dD}
end
section
variable{X:Cx}
noncomputable def Ju:G1:=λd S=>match d with
 | .ref n=>match S[n]? with
  |some (.dcT kvs)=>Z (.int kvs.length,S)
  |_=>C8 d S
 |_=>C8 d S
noncomputable def jk:G2:=λd e S=>match e with
 | .ref n=>match S[n]? with
  |some (.dct [])=>match keyT d with
   |some _=>Z (.bl M,S)
   |none=>fG d e S
  |_=>fG d e S
 |_=>fG d e S
theorem zk(l:X.A.units+64<cLine):gp X (compareOp .NotIn) (r2 X.K (b2 jk)):=by
 intro ag s σ H x y u w Q I p o h;obtain⟨mu,S,d,e,r,j,m,c,i,a,hc⟩:=oo h;have back:fG d e S=Z (r,j)->dM (model X.prog X.w) X.A (compareOp .NotIn u w) (EP X ag σ Q) X.xe s:=λa=>mU l ag s σ H x y u w Q I p o ⟨mu,S,[d,e],r,j,.cons m (.cons c .nil),i,a,hc⟩;unfold jk at a;split at a
 ·rename_i n;split at a
  ·rename_i A;split at a
   ·rename_i k B;cases a;cases c with
    |ref q=>
     cases o;obtain⟨ws,C,v⟩:=i.dct A q;cases v;obtain⟨z,t,vs,f,dd⟩:=vZ I.hok C;cases f;obtain⟨b,rfl,rfl,rk,D,hi⟩:=iX I m p B;have g:s.heap.DictOfH (fP X.prog X.w) _ []:=nw dd;refine wpAny_notIn_heap (iu l) hi t g ?_;exact⟨.bl M,H,I.tok _,O,hc.now (.bl _) i⟩
   ·exact back a
  ·exact back a
 ·exact back a
end
theorem Iw.fits{es:Array (Int×dB)}{t:SetTable}(h:Iw es t):t.fits es.size=M:=by
 unfold SetTable.fits SetTable.fill;rw[h.du,h.sz];have:=h.fl;simp;exact this
theorem mem_ins{α:Type}(a:Array α)(p:Nat)(x y:α):y∈(SetTable.insertAt a p x).toList↔y=x\/y∈a.toList:=by
 rw[sy,aG,aF];have:=cK p a.toList;constructor
 ·rintro(h|h|h)
  ·exact .inr (cO h)
  ·exact .inl h
  ·exact .inr (cP h)
 ·rintro(h|h)
  ·exact .inr (.inl h)
  ·rw[<- this,aG]at h;rcases h with h|h
   ·exact .inl h
   ·exact .inr (.inr h)
theorem nr{α β:Type}{f g:α->Option β}:∀l:List α,(∀a∈l,f a=g a)->l.filterMap f=l.filterMap g
 |[],_=>rfl
 |a::l,h=>by rw[aE,aE,h a mS1,nr l λb c=>h b (mC1 _ c)]
theorem live_len:∀(l:List (Option Nat)) (s:Nat),((List.range' s l.length).filterMap λj=>(l.getD (j-s) Y).map (j,·)).length=l.countP (·.isSome)
 |[],s=>rfl
 |x::l,s=>by
  rw[lC1,List.range'_succ,aE,List.countP_cons];have ih:=live_len l (s+1);have e:(List.filterMap (λj=>Option.map (λx=>(j,x)) ((x::l).getD (j-s) Y)) (List.range' (s+1) l.length))=List.filterMap (λj=>(l.getD (j-(s+1)) Y).map (j,·)) (List.range' (s+1) l.length):=by
   refine nr _ λj a=>?_;rw[List.mem_range'_1]at a;rw[show j-s=(j-(s+1))+1 by lia];rfl
  rw[e,cQ];cases x with
  |none=>simpa using ih
  |some q=>simpa using ih
section
variable{prog:dF}{w:dH}{A:dG}{E:dB->dD->Prop}{s:dD}
end
theorem gD.grows{h h':dN}(hs:∀ a o,h.get? a=some o->h'.get? a=some o):∀ {k:TK} {v:dB},gD h k v->gD h' k v:=fun d=>d.rec (motive_1:=fun k v _=>gD h' k v) (motive_2:=fun k v _=>gO h' k v) .non .int
  (λ{a} _ _ _ _ e f c _ ih=>.tup (hs a _ e) f c ih) .nil (λ_ _ a b=>.cons a b)
section
variable{P:dF}{w:dH}{A:dG}{E:dB->dD->Prop}{s:dD}{p:dE}{xs:List (TK×dE×dB)}
end
section
variable{P:dF}{w:dH}{A:dG}{E:dB->dD->Prop}
end
section
variable{X:Cx}
end
section
variable{X:Cx}{pos:Pos}
theorem ce{op:CmpOp}{x y:Expr}{f:FN}{a b:FE}(ho:gp X (compareOp op) (r2 X.K f))(hx:XE X x a)(hy:XE X y b)(hm:behindInMarks op y=J:=by exact zn _):XE X (.Compare x [op] [y] pos) (m2 f a b):=A0 ho hx hy hm
theorem ct{op:CmpOp}{x y:Expr}{f:FN}{a b:FE}(ho:gp X (compareOp op) (r2 X.K f))(hx:XE X x a)(hy:XE X y b)(hm:behindInMarks op y=J:=by exact zn _):XT X (.Compare x [op] [y] pos) (mB (m2 f a b)):=qX ho hx hy hm
theorem kc{a:dR}{i:Nat}{l:List Nat}(x:Str)(r:∀i∈l,∃x,X.N[i]?=Z x/\a.names.lookup x=Z .free/\(X.env.kindOf x=Z .cell\/X.env.kindOf x=Z .free)/\(x,NameKind.cell)∉a.names)(h1:X.N[i]?=Z x:=by rfl)(h2:a.names.lookup x=Z .free:=by rfl)(b:X.env.kindOf x=Z .cell\/X.env.kindOf x=Z .free:=by first|exact Or.inl rfl|exact Or.inr rfl)(c:(x,NameKind.cell)∉a.names:=by decide+kernel):∀j∈i::l,∃x,X.N[j]?=Z x/\a.names.lookup x=Z .free/\(X.env.kindOf x=Z .cell\/X.env.kindOf x=Z .free)/\(x,NameKind.cell)∉a.names:=List.forall_mem_cons.mpr ⟨⟨x,h1,h2,b,c⟩,r⟩
end
structure eM (K:Fg1)(x:Str)(st:dQ)(f:dE):Prop where
 ns:wN1 K dI x=some (some (.ref f))
 fn:∃fd,xO K x x st f fd
theorem Hd{K:Fg1}{x:Str}{st:dQ}{f:dE}{h:dB}{i g:Option dE}{e:Array (Option dB)}{kV d j b ct:dB}(a:wN1 K dI x=Z (Z (.ref f)))(l:K.lookup f=Z ⟨h,i,.func (wF1 x x (hB st) (fq st) (ec st) .none kV d j g b ct),e⟩)(c:wC1 K b x=M)(k:wK1 K (.ref f)=M):eM K x st f:=⟨a,_,Ad l c k⟩
theorem xo{P:dF}{w:dH}{K:Fg1}{mg:Str->Option dB}{base h:dN}{x:Str}{st:dQ}{f:dE}{N ps:List Str}{k n:Nat}{b:FS}(X:K.In h)(G:h.Ns dI mg)(F:eM K x st f)(S:gh N ps (ec st))(hb:∀(kV e l:dB) (j:Option dE) (a ct:dB) (g:List dB),g.length=ps.length->bindArgs (wF1 x x (hB st) (fq st) (ec st) .none kV e l j a ct) ⟨g,[]⟩=pure (ps.zip g))(c:∀(f:dE) (a:dB) (A:dG) (d:List Env) (s:dD) (H:Hp) (E:XK),fN k (A.deeper (envOfC x (ec st) s.heap.objs.size f a)) ->
   xE (lY tz P w K mg base N x (ec st) f a A d s H E).nox (fq st) b)(hn:ps.length=n:=by rfl):fO P w K mg base (k+1) x n (iD N.length b):=by
 obtain⟨fd,i⟩:=F.fn;exact AY i (i.binds hb) (wM1 X G F.ns) S hn (c f)
section
variable{X:Cx}{ag:List (dE×Obj)}{σ:L2.St}{H:Hp}{s:dD}{mu:List dE}
end
section
variable{P:dF}{w:dH}{A:dG}{E:dB->dD->Prop}{s:dD}{a x:dE}{xs:List (TK×dE×dB)}{k:TK}
end
section
variable{X:Cx}
end
section
variable{X:Cx}{o e:Expr}{es:List Expr}{to:TE}{t:TA}{name:Str}{apos cpos:Pos}{id:String}{r:V->List V->Hp->VK->Prop}
end
section
variable{X:Cx}
end
section
variable{X:Cx}{x y z u:Expr}{pos:Pos}{f g k:FN}{a b c d:FE}{op op' op'':CmpOp}{ta tb tc td:TE}
end
structure Blt (L:List Str)(mg:Str->Option dB):Prop where
 h:∀x∈L,mg x=none
theorem bz{L:List Str}{mg:Str->Option dB}{x:Str}(B:Blt L mg)(h:x∈L:=by decide):mg x=Y:=B.h x h
theorem sk{N P:List Str}{sc:dR}(h1:sc.kind = .function:=by rfl)(h2:sc.isCoroutine=J:=by rfl)(c:sc.isGenerator=J:=by rfl)(a:N.Nodup:=by decide+kernel)(d:N.take P.length=P:=by rfl)(e:∀x∈P,sc.names.lookup x=Z .local\/sc.names.lookup x=Z .cell:=by decide+kernel)(b:∀y∈sc.names,y.2 ≠ .free:=by decide+kernel):gh N P sc:=⟨h1,h2,c,a,d,e,b⟩
noncomputable def HC(K:Fg1):List Str->Prop
 |[]=>True
 |x::l=>wN1 K dI x=Z Y/\HC K l
theorem HC.blt{K:Fg1}{mg:Str->Option dB}{h:dN}(X:K.In h)(G:h.Ns dI mg):∀{L:List Str},HC K L->Blt L mg
 |[],_=>⟨λ_ m=>nomatch m⟩
 |_::_,z=>⟨λ_ m=>match m with
  | .head _=>PySem.W.mg_none_of X G z.1
  | .tail _ m=>(HC.blt X G z.2).h _ m⟩
noncomputable def HN:List Str->Bool
 |[]=>M
 |x::l=> !l.contains x&&HN l
theorem gZ:∀{l:List Str},HN l=M->l.Nodup
 |[],_=>bq
 |x::l,h=>by
  obtain⟨a,b⟩:=(bA1 _ _).mp h;exact aN.mpr ⟨λm=>(by rw[cR.mpr m]at a;cases a),gZ b⟩
section
variable{X:Cx}{pos:Pos}{k:Nat}{x:Str}{i:Nat}{e y:Expr}{es:List Expr}{m b:FE}{a:FA}{p:Pos}
theorem xv (hN:X.N[i]?=Z x:=by rfl)(hv:Vis X.env.scope x:=by first|exact Or.inl rfl|exact Or.inr (Or.inl rfl)|exact Or.inr (Or.inr rfl))(hd:(x == ("__debug__":Str))=J:=by decide)(hcd:(x == ("__classdict__":Str))=J:=by decide):XE X (.Name x pos) (mV i):=JE i hN hv hd hcd
theorem gq(hN:HN X.N=M:=by rfl)(hi:X.N[i]?=Z x:=by rfl)(hx:uQ X.env.scope x:=by first|exact Or.inl rfl|exact Or.inr rfl)(hf:X.fn x=M\/X.env.scope.names.lookup x=Z .local:=by first|exact .inl rfl|exact .inr rfl|assumption):XG X (.Name x pos) (gN i):=qO i (gZ hN) hi hx hf
theorem sq(he:XE X e m)(hN:HN X.N=M:=by rfl)(hi:X.N[i]?=Z x:=by rfl)(hx:uQ X.env.scope x:=by first|exact Or.inl rfl|exact Or.inr rfl)(hs:swapsWith e (Z (.Name x p)) pos.line X.env=pure J:=by rfl)(hf:X.fn x=M\/X.env.scope.names.lookup x=Z .local:=by first|exact .inl rfl|exact .inr rfl|assumption):XS X (.Assign [.Name x p] e pos) (eh m (gN i)):=qY i (gZ hN) hi hx he hs hf
theorem jq(hx:XE X e m)(hy:XE X y b)(hr:fN k X.A:=by assumption)(hs:mm y:=by intro _ _;rfl):XE X (.Subscript e y pos) (m2 (b2 dW) m b):=qJ (qP hr.units) hx hy hs
theorem oq{au:Prop}(o:X.A.units+64<cLine->au)(hr:fN k X.A:=by assumption):au:=o hr.units
theorem wn {k' n:Nat}{f:FN}(h:fO X.prog X.w X.K X.mg X.base k x n f)(ha:XA X (e::es) a)(hr:fN k' X.A:=by assumption)(hk:k<=k':=by first|decide|omega)(hg:Gl X x:=by rfl)(hdb:(x == ("__debug__":Str))=J:=by decide)(he:dJ (e::es) X.env=(J,eval e X.env)::dJ es X.env:=by rfl)(hpl:(backTo pos (dJ es X.env)).any (·.1)=J:=by rfl):XE X (.Call (.Name x p) (e::es) [] pos) (mN (dX n f) a):=qH h hr hk hg ha hdb he hpl
theorem cn {id:String}{f:FN}(hc:fj X (.builtin id) (rN X.K f))(ha:XA X (e::es) a)(hm:X.mg x=Y:=by exact bz (by assumption))(hg:Gl X x:=by rfl)(hv:bootBuiltins x=Z (.builtin id):=by decide+kernel)(hn:x≠"__name__":=by decide)(hdb:(x == ("__debug__":Str))=J:=by decide)(he:dJ (e::es) X.env=(J,eval e X.env)::dJ es X.env:=by rfl)(hpl:(backTo pos (dJ es X.env)).any (·.1)=J:=by rfl):XE X (.Call (.Name x p) (e::es) [] pos) (mN f a):=qD hc hg hm hv ha hn hdb he hpl
theorem cz {T:String}{f:FN}(hc:fj X (.type T) (rN X.K f))(ha:XA X (e::es) a)(hm:X.mg x=Y:=by exact bz (by assumption))(hg:Gl X x:=by rfl)(hv:bootBuiltins x=Z (.type T):=by decide+kernel)(hn:x≠"__name__":=by decide)(hdb:(x == ("__debug__":Str))=J:=by decide)(he:dJ (e::es) X.env=(J,eval e X.env)::dJ es X.env:=by rfl)(hpl:(backTo pos (dJ es X.env)).any (·.1)=J:=by rfl):XE X (.Call (.Name x p) (e::es) [] pos) (mN f a):=qE hc hg hm hv ha hn hdb he hpl
theorem a1(h:XE X e m)(hs:dJ [e] X.env=(J,eval e X.env)::dJ [] X.env:=by rfl):XA X [e] (dS m dU):=qA h qN hs
theorem a2(h:XE X e m)(g:XE X y b)(hs:dJ [e,y] X.env=(J,eval e X.env)::dJ [y] X.env:=by rfl)(hs2:dJ [y] X.env=(J,eval y X.env)::dJ [] X.env:=by rfl):XA X [e,y] (dS m (dS b dU)):=qA h (a1 g hs2) hs
theorem a3{z:Expr}{c:FE}(h:XE X e m)(g:XE X y b)(l:XE X z c)(hs:dJ [e,y,z] X.env=(J,eval e X.env)::dJ [y,z] X.env:=by rfl)(hs2:dJ [y,z] X.env=(J,eval y X.env)::dJ [z] X.env:=by rfl)(a:dJ [z] X.env=(J,eval z X.env)::dJ [] X.env:=by rfl):XA X [e,y,z] (dS m (dS b (dS c dU))):=qA h (a2 g l hs2 a) hs
theorem ir (ha:XA X [e] a)(hm:X.mg "range"=Y:=by exact bz (by assumption))(hg:Gl X "range":=by rfl)(hs:dJ [e] X.env=[(J,eval e X.env)]:=by rfl):XI X y (.Call (.Name "range" p) [e] [] pos) (uy a):=tN hg hm ha hs
theorem ie {elts:List Expr}{b:Nat}{tpos:Pos}(ha:XA X [e] a)(hm:X.mg "enumerate"=Y:=by exact bz (by assumption))(hg:Gl X "enumerate":=by rfl)(hs:dJ [e] X.env=[(J,eval e X.env)]:=by rfl):XI X (.Tuple elts b tpos) (.Call (.Name "enumerate" p) [e] [] pos) (FL a):=xU hg hm ha hs
structure Lm (X:Cx)(name:Str)(id:String)(f:FN):Prop where
 s:Slot "list" name id
 t:typeOf (.builtin id)=pure (.type "method_descriptor")
 m:Dh X id (λx xs H Q=>rN X.K f (x::xs) H Q)
theorem ap:Lm X "append" "list.append" (b2 jr):=⟨PySem.F.slot_list_append,PySem.F.type_list_append,F0⟩
theorem lq{f:FN}{name:Str}{apos:Pos}{id:String}(s:Lm X name id f)(ho:XE X y m)(ha:XA X (e::es) a)(hbase:attributeBase y name X.env (eval y X.env)=eval y X.env:=by rfl)(hfew:((backTo pos (dJ (e::es) X.env)).all (λx=> !x.1)&&(backToKw pos (keywordEach [] X.env)).all (λx=>x.1.isSome)&&decide ((e::es).length+([]:List Keyword).length+(if([]:List Keyword).isEmpty then 0 else 1)<30))=M:=by rfl)(hline:(apos.endLine == pos.line)=M:=by rfl)(hs:dJ (e::es) X.env=(J,eval e X.env)::dJ es X.env:=by rfl)(hplain:(backTo pos (dJ es X.env)).any (·.1)=J:=by rfl):XS X (.Expr (.Call (.Attribute y name apos) (e::es) [] pos) p) (fi (oG f m a)):=jL (qe s.s s.t s.m ho ha hbase hfew hline hs hplain)
theorem fo{tg iter:Expr}{a:List dQ}{m:FI}{g:FG}{b:FS}(hi:XI X tg iter m)(hg:XG X tg g)(hb:xE X a b)(hp:PassesOwn (model X.prog X.w) X.A X.env X.xe:=by exact PassesOwn.never)(hc:X.calm=M:=by rfl)(hs:∀x,foldedSetIterable iter X.env x=pure x:=by intro _;rfl):XS X (.For tg iter a [] pos) (iU m g b):=qW hp hc hi hg hb hs
theorem tg2{d:Expr}{g h:FG}{a:Nat}(h1:XG X e g)(h2:XG X d h)(hc:X.calm=M:=by rfl)(hs:(assignEach [e,d] X.env).map (·.2)=assign e X.env::(assignEach [d] X.env).map (·.2):=by rfl)(hs2:(assignEach [d] X.env).map (·.2)=assign d X.env::(assignEach [] X.env).map (·.2):=by rfl)(hn:(assignEach [e,d] X.env).length=2:=by rfl)(hst:(assignEach [e,d] X.env).findIdx? (·.1)=Y:=by rfl):XG X (.Tuple [e,d] a pos) (gT 2 (gCs g (gCs h gNl))):=gQ hc (d8 h1 (d8 h2 gj hs2) hs) hn hst
noncomputable def HP(x:Str):List (Str×NameKind)->Bool
 |[]=>M
 |(y,.cell)::l=> !(y == x)&&HP x l
 |_::l=>HP x l
omit k i in
theorem zq:∀{l:List (Str×NameKind)},HP x l=M->(x,NameKind.cell)∉l
 |[],_,m=>nomatch m
 |(y,c)::l,h,m=>by
  rcases aF.mp m with e|a
  ·cases e;have h:=((bA1 _ _).mp h).1;rw[beq_self_eq_true]at h;cases h
  ·cases c with
   |cell=>exact zq ((bA1 _ _).mp h).2 a
   |_=>exact zq (l:=l) h a
theorem kz{a:dR}{l:List Nat}(r:∀i∈l,∃x,X.N[i]?=Z x/\a.names.lookup x=Z .free/\(X.env.kindOf x=Z .cell\/X.env.kindOf x=Z .free)/\(x,NameKind.cell)∉a.names)(h1:X.N[i]?=Z x:=by rfl)(h2:a.names.lookup x=Z .free:=by rfl)(b:X.env.kindOf x=Z .cell\/X.env.kindOf x=Z .free:=by first|exact Or.inl rfl|exact Or.inr rfl)(c:HP x a.names=M:=by rfl):∀j∈i::l,∃x,X.N[j]?=Z x/\a.names.lookup x=Z .free/\(X.env.kindOf x=Z .cell\/X.env.kindOf x=Z .free)/\(x,NameKind.cell)∉a.names:=kc x r h1 h2 b (zq c)
noncomputable def Jx(X:Cx)(sc:dR):List (Str×dE):=(i5 X.env.cells sc.names []).getD []
theorem fk{elt tg iter:Expr}{ifs:List Expr}{scope:dR}(T:List Str){keep:List Nat}{m:FI}{g:FG}{t:FT}{e:FE}(hi:XI X tg iter m)(hb:∀ {s H f},H0 (cxC X scope (Jx X scope) T keep s H f) X.K tg ifs elt g t e)(b:∀i∈keep,∃x,X.N[i]?=Z x/\scope.names.lookup x=Z .free/\(X.env.kindOf x=Z .cell\/X.env.kindOf x=Z .free)/\(x,NameKind.cell)∉scope.names:=by first|exact cS _|exact kz (cS _)|exact kz (kz (cS _))|exact kz (kz (kz (cS _)))|exact kz (kz (kz (kz (cS _)))))(hc:X.calm=M:=by rfl)(c:scope.kind = .function:=by rfl)(a:∀x∈scope.names,x.2 = .local->scope.names.lookup x.1=Z .local:=by decide+kernel)(d:i5 X.env.cells scope.names []=Z (Jx X scope):=by rfl)(hs:∀x,foldedSetIterable iter X.env x=pure x:=by intro _;rfl):XE X (.ListComp elt [⟨tg,iter,ifs,0⟩] scope pos) (e0 T.length keep m g t (eI e)):=qZ hc ⟨c,a,b⟩ d hi (λ_ _ _=>hb) hs
end
theorem xq{P:dF}{w:dH}{K:Fg1}{mg:Str->Option dB}{base h:dN}{x:Str}{st:dQ}{f:dE}{k n:Nat}{b:FS}(N:List Str)(X:K.In h)(G:h.Ns dI mg)(F:eM K x st f)(c:∀{f:dE} {a:dB} {A:dG} {d:List Env} {s:dD} {H:Hp} {E:XK},fN k (A.deeper (envOfC x (ec st) s.heap.objs.size f a)) ->
   xE (lY tz P w K mg base N x (ec st) f a A d s H E).nox (fq st) b)(S:gh N (N.take n) (ec st):=by exact sk)(hb:∀(kV i m:dB) (j:Option dE) (a ct:dB) (e:List dB),e.length=(N.take n).length->bindArgs (wF1 x x (hB st) (fq st) (ec st) .none kV i m j a ct) ⟨e,[]⟩=pure ((N.take n).zip e):=by
   intro _ _ _ _ _ _ e g;first|exact Jr g λ_=>rfl|exact Jq g λ_ _=>rfl|exact Jp g λ_ _ _=>rfl|exact Jo g λ_ _ _ _=>rfl)(hn:(N.take n).length=n:=by rfl):fO P w K mg base (k+1) x n (iD N.length b):=xo X G F S hb (λ_ _ _ _ _ _ _ l=>c l) hn
open AutoSeq1 (wpAny_loadPart')
section
variable{X:Cx}
end
mutual
noncomputable def pl:D->Bool
 | .non=>M
 | .bl _=>M
 | .int _=>M
 | .str _=>M
 | .tup xs=>md xs
 |_=>J
noncomputable def md:List D->Bool
 |[]=>M
 |x::xs=>pl x&&md xs
end
section
variable{X:Cx}{ag:List (dE×Obj)}{σ:L2.St}{H:Hp}{s:dD}{mu:List dE}{S:Sto}
mutual
theorem vb(I:Inv X ag σ H s):∀{d d':D} {v:V},pl d=M->pl d'=M->eJ X.K H mu d v->eJ X.K H mu d' v->d=d'
 | .non,d',_,_,h,.non,r=>by cases r;rfl
 | .bl b,d',_,_,h,.bl _,r=>by cases r;rfl
 | .int i,d',_,_,h,.int _,r=>by cases r;rfl
 | .str x,d',_,_,h,.str _,r=>by cases r;rfl
 | .tup xs,d',_,g,h,.tup q t,r=>by
  cases r with
  |tup a c=>
   have e:=I.tuple_inj q a;subst e;rw[pl]at g h;rw[rE I g h t c]
  |rol _ _=>cases h
  |ref _=>cases h
  |fn _=>cases h
 | .rol _,_,_,g,_,_,_=>by cases g
 | .ref _,_,_,g,_,_,_=>by cases g
 | .fn _,_,_,g,_,_,_=>by cases g
theorem rE(I:Inv X ag σ H s):∀{ds a:List D} {vs:List V},md ds=M->md a=M->d0 X.K H mu ds vs->d0 X.K H mu a vs->ds=a
 |[],_,_,_,_,.nil,r=>by cases r;rfl
 |d::ds,_,_,g,h,.cons r t,z=>by
  cases z with
  |cons c b=>
   rw[md,bA1]at g h;rw[vb I g.1 h.1 r c,rE I g.2 h.2 t b]
end
end
noncomputable def iY:D->Option Bool
 | .tup (.int _::_)=>Z M
 | .tup (.tup _::_)=>Z J
 |_=>Y
noncomputable def IJ(a b:D):Bool:=jJ [] 51 a b == Z M
noncomputable def w6(a:D):List D->List D
 |[]=>[a]
 |b::l=>if IJ a b=M then a::b::l else b::w6 a l
noncomputable def jQ:List D->List D
 |[]=>[]
 |a::l=>w6 a (jQ l)
noncomputable def oJ(a b:D):Bool:=jJ [] 51 a b == Z M&&jJ [] 51 b a == Z J
noncomputable def lA:List D->Bool
 |[]=>M
 |a::l=>l.all (oJ a)&&lA l
theorem jZ:∀{l:List D} {i j:Nat} {a b:D},lA l=M->l[i]?=Z a->l[j]?=Z b->i<j->oJ a b=M
 |[],i,j,a,b,_,h,_,_=>by simp at h
 |x::l,0,j+1,a,b,h,h1,h2,_=>by
  rw[lA,bA1,bD]at h;simp at h1 h2;subst h1;exact h.1 b (gM1 h2)
 |x::l,i+1,j+1,a,b,h,h1,h2,hij=>by
  rw[lA,bA1]at h;exact jZ h.2 (by simpa using h1) (by simpa using h2) (by lia)
 |x::l,i,0,a,b,_,_,_,hij=>by lia
abbrev Tr:=D×V×dB
noncomputable def w4(a:Tr):List Tr->List Tr
 |[]=>[a]
 |b::l=>if IJ a.1 b.1=M then a::b::l else b::w4 a l
noncomputable def rq:List Tr->List Tr
 |[]=>[]
 |a::l=>w4 a (rq l)
theorem oQ(a:Tr):∀l:List Tr,(w4 a l).Perm (a::l)
 |[]=>.refl _
 |b::l=>by
  rw[w4];split
  ·exact .refl _
  ·exact((oQ a l).cons b).trans (.swap _ _ _)
theorem my:∀l:List Tr,(rq l).Perm l
 |[]=>.refl _
 |a::l=>(oQ a _).trans ((my l).cons a)
theorem sA(a:Tr):∀l:List Tr,(w4 a l).map (·.1)=w6 a.1 (l.map (·.1))
 |[]=>rfl
 |b::l=>by
  rw[w4,mP1,w6];split
  ·rfl
  ·rw[mP1,sA a l]
theorem oe:∀l:List Tr,(rq l).map (·.1)=jQ (l.map (·.1))
 |[]=>rfl
 |a::l=>by rw[rq,mP1,jQ,sA,oe l]
section
variable{prog:dF}{w:dH}{A:dG}{E:dB->dD->Prop}{s:dD}
theorem B6{a b:dE}{k l:Int}{t u:Tok}{g zs:List dB}{c:Bool}{Q:Bool->dD->Prop}(ha:IsTup s.heap a (Value.int k t::g).toArray)(hb:IsTup s.heap b (Value.int l u::zs).toArray)(f:k≠l/\c=decide (k<l)\/k=l/\tw A s g zs c)(h:Q c s):
  dM (model prog w) A (keyLt' (tuples' M) (.ref a) (.ref b)) Q E s:=by
 rcases f with⟨f,rfl⟩|⟨rfl,L⟩
 ·exact E2 ha hb f h
 rw[iB];obtain⟨o,r,D,_,y⟩:=ha;obtain⟨C,B,F,_,v⟩:=hb;refine wB1 (listItems_at r y (wB1 (listItems_at B v ?_)));rw[bV,bM,bG];refine wB1 (wB1 ?_);dsimp only;refine wB1 (wpAny_eqBool_int ?_);simp only[beq_self_eq_true,b7,bF1,if_false];refine wP1 ?_;refine wpAny_mono (wpAny_forIn_list _ (λrest b s'=>s'=s/\b=(Y,()) /\ ∃(i:Nat) (vs ws:List dB),rest=(vs.zip ws).zipIdx (i+1)/\tw A s vs ws c/\vs.length+zs.length=ws.length+g.length)
  (λb s'=>s'=s/\(b=(Z c,())\/(b=(Y,())/\c=decide (g.length<zs.length)))) ?_ ?_ _ _ ⟨O,O,0,g,zs,O,L,by lia⟩) ?_ λ_ _ e=>e
 ·rintro x rest b s' ⟨rfl,rfl,i,vs,ws,d,m,j⟩;cases m with
  |nn=>simp at d
  |nc _ _=>simp at d
  |cn _ _=>simp at d
  | @eq p q ps n _ e t=>
   rw[bV,bM]at d;cases d;refine wB1 (e.of_in1 prog w E _ ?_);simp only[b7,bF1,if_false];exact wP1 ⟨O,O,i+1,ps,n,O,t,by simp at j;lia⟩
  | @lt p q ps n _ e t=>
   rw[bV,bM]at d;cases d;refine wB1 (e.of_in1 prog w E _ ?_);simp only[cp,if_true];rw[show(M&&(i+1 == 0))=J from rfl];exact wB1 (zd t (wP1 ⟨O,.inl O⟩))
 ·rintro b s' ⟨rfl,rfl,i,vs,ws,d,m,j⟩;refine⟨O,.inr ⟨O,?_⟩⟩;cases m with
  |nn=>simp at j;rw[ai (by lia)]
  |nc _ _=>simp at j;rw[ah (by lia)]
  |cn _ _=>simp at j;rw[ai (by lia)]
  |eq _ _=>simp at d
  |lt _ _=>simp at d
 ·rintro b s' ⟨rfl,z⟩;rcases z with rfl|⟨rfl,z⟩
  ·exact wP1 h
  ·refine wP1 ?_;rw[sT1,sT1,lC1,lC1,show decide (g.length+1<zs.length+1)=c by rw[z];congr 1;simp];exact h
end
section
variable{X:Cx}{ag:List (dE×Obj)}{σ:L2.St}{H:Hp}{s:dD}{mu:List dE}{S:Sto}
theorem E8(I:Inv X ag σ H s)(hs:Sim X.K H mu S){A:dG}(P:A.units+60<cLine){f:Bool}{d e:D}{v w:V}{u z:dB}{b:Bool}(G:eJ X.K H mu d v)(C:eJ X.K H mu e w)(y:d7 v u)(F:d7 w z)(hd:iY d=Z f)(he:iY e=Z f)(h:jJ S 51 d e=Z b){E:dB->dD->Prop}{Q:Bool->dD->Prop}(q:Q b s):dM (model X.prog X.w) A (keyLt' (tuples' f) u z) Q E s:=by
 have B:∀{xs ys:List D} {vs ws:List V} {us zs:List dB} {b:Bool},d0 X.K H mu xs vs->d0 X.K H mu ys ws->ei vs us->ei ws zs->nQ (gr S 50) (jJ S 50) xs ys=Z b->tw A s us zs b:=
  λa g j i h=>zG I hs (A:=A) (n:=50) (by lia) (λam r2 ao K h=>ut I hs 50 (A:=A.in1) (by show A.units+1+50<cLine;lia) am r2 ao K h) a g j i h
 unfold iY at hd he;split at hd
 ·rename_i k _;cases hd;split at he
  ·rename_i l _;cases G with
   |tup p a=>
   cases C with
   |tup r g=>
   obtain⟨o,j,t,_⟩:=I.tuple p;obtain⟨m,i,x,_⟩:=I.tuple r;cases y;cases F;cases a with
   |cons a1 a=>
   cases g with
   |cons a2 g=>
   cases a1;cases a2;cases j with
   |cons au j=>
   cases i with
   |cons L i=>
   obtain⟨tk,rfl⟩:=au;obtain⟨N,rfl⟩:=L;refine B6 t x ?_ q;have h:nQ (gr S 50) (jJ S 50) (.int k::_) (.int l::_)=Z b:=h;rw[nQ]at h;by_cases c:k=l
   ·subst c;exact .inr ⟨rfl,B a g j i (by
     have e:gr S 50 (.int k) (.int k)=Z M:=by show Z (decide (k=k))=_;simp
     rw[e]at h;exact h)⟩
   ·refine .inl ⟨c,?_⟩;have e:gr S 50 (.int k) (.int l)=Z J:=by show Z (decide (k=l))=_;simp[c]
    rw[e]at h;have h:Z (decide (k<l))=Z b:=h;exact(Option.some.inj h).symm
  ·cases he
  ·cases he
 ·cases hd;split at he
  ·cases he
  ·cases G with
   |tup p a=>
   cases C with
   |tup r g=>
   obtain⟨o,j,t,_⟩:=I.tuple p;obtain⟨m,i,x,_⟩:=I.tuple r;cases y;cases F;exact E1 t x (B a g j i h) q
  ·cases he
 ·cases hd
theorem DG(I:Inv X ag σ H s)(hs:Sim X.K H mu S){A:dG}(hu:A.units+60<cLine){f:Bool}{ds:List D}{vs:List V}{its:List dB}(r:d0 X.K H mu ds vs)(rv:ei vs its)(hp:md ds=true)(hk:∀d∈ds,iY d=some f)(hr:lA (jQ ds)=true):
  ∃(K:List V) (ws:List dB),d0 X.K H mu (jQ ds) K/\ei K ws/\its.Perm ws/\K.length=vs.length /\
   ∀c:dN,(∀b o,s.heap.get? b=Z o->c.get? b=Z o)->lj X.prog X.w A {s with heap:=c} (tuples' f) ws (pairsOf its) /\
    (its≠[] -> ∀(E:dB->dD->Prop) (Q:SortKind->dD->Prop),Q (tuples' f) {s with heap:=c}->dM (model X.prog X.w) A (keyKind' its.toArray) Q E {s with heap:=c}):=by
 have p:∀{l:List D},md l=M -> ∀d∈l,pl d=M:=by
  intro l
  induction l with
  |nil=>intro _ d h;cases h
  |cons x l ih=>
   intro h d ao;rw[md,bA1]at h;rcases aF.mp ao with rfl|z
   ·exact h.1
   ·exact ih h.2 d z
 have und:∀n,(∀d:D,pl d=M->d.und n=M) /\ ∀l:List D,md l=M->D.unds n l=M:=λn=>by
  refine⟨λd=>?_,λl=>?_⟩
  ·exact D.rec (motive_1:=λd=>pl d=M->d.und n=M) (motive_2:=λl=>md l=M->D.unds n l=M) (λ_=>rfl) (λ_ _=>rfl) (λ_ _=>rfl) (λ_ _=>rfl) (λxs ih h=>by rw[pl]at h;rw[D.und];exact ih h) (λ_ _ h=>by cases h) (λ_ h=>by cases h) (λ_ h=>by cases h) (λ_=>rfl) (λx xs h1 h2 h=>by rw[md,bA1]at h;rw[D.unds,h1 h.1,h2 h.2];rfl) d
  ·exact D.rec_1 (motive_1:=λd=>pl d=M->d.und n=M) (motive_2:=λl=>md l=M->D.unds n l=M) (λ_=>rfl) (λ_ _=>rfl) (λ_ _=>rfl) (λ_ _=>rfl) (λxs ih h=>by rw[pl]at h;rw[D.und];exact ih h) (λ_ _ h=>by cases h) (λ_ h=>by cases h) (λ_ h=>by cases h) (λ_=>rfl) (λx xs h1 h2 h=>by rw[md,bA1]at h;rw[D.unds,h1 h.1,h2 h.2];rfl) l
 have tri:∃aq:List Tr,aq.map (·.1)=ds/\aq.map (·.2.1)=vs/\aq.map (·.2.2)=its /\ ∀y∈aq,eJ X.K H mu y.1 y.2.1/\d7 y.2.1 y.2.2:=by
  clear hk hr hp
  induction ds generalizing vs its with
  |nil=>cases r;cases rv;exact⟨[],O,O,O,λy h=>by cases h⟩
  |cons d ds ih=>
   cases r with
   |cons B t=>
   cases rv with
   |cons L tt=>
   obtain⟨aq,G,am,w,ok⟩:=ih t tt;refine⟨(d,_,_)::aq,by rw[mP1,G],by rw[mP1,am],by rw[mP1,w],λy m=>?_⟩;rcases aF.mp m with rfl|z
   ·exact⟨B,L⟩
   ·exact ok y z
 obtain⟨aq,rfl,rfl,rfl,ok⟩:=tri;have N:=my aq;have em:=oe aq;rw[<- em]at hr ⊢;generalize hZ:rq aq=wq at *
 have g:∀y∈wq,y∈aq:=λy m=>N.mem_iff.mp m;refine⟨wq.map (·.2.1),wq.map (·.2.2),?_,?_,(N.map _).symm,by rw[lM1,lM1,N.length_eq],λc keep=>⟨⟨?_,?_,?_⟩,λR E Q q=>?_⟩⟩
 ·clear hr hZ em N
  induction wq with
  |nil=>exact .nil
  |cons y wq ih=>exact .cons (ok y (g y mS1)).1 (ih λz hz=>g z (mC1 _ hz))
 ·clear hr hZ em N
  induction wq with
  |nil=>exact .nil
  |cons y wq ih=>exact .cons (ok y (g y mS1)).2 (ih λz hz=>g z (mC1 _ hz))
 ·refine cw.mpr fun i j hi hj P e=>?_;rw [lM1] at hi hj;rw [List.getElem_map,List.getElem_map] at e;have C:=g _ (bU hi);have F:=g _ (bU hj);have hl:=jZ hr (i:=i) (j:=j) (a:=wq[i].1) (b:=wq[j].1) (by rw [gP1,gG1 hi];rfl) (by rw [gP1,gG1 hj];rfl) P;obtain ⟨B,L⟩:=ok _ C;obtain ⟨r2,q2⟩:=ok _ F;have h1:=hk wq[i].1 (ci.mpr ⟨_,C,rfl⟩);have h2:=hk wq[j].1 (ci.mpr ⟨_,F,rfl⟩);have isT:∀ {d:D} {v:V} {u:dB},iY d=some f->eJ X.K H mu d v->d7 v u -> ∃ a,v = .ref a/\u = .ref a:=fun {d v u} ao rd ru=>by
   cases rd with
   |tup _ _=>cases ru;exact⟨_,O,O⟩
   |_=>cases ao
  obtain⟨a1,G,am⟩:=isT h1 B L;obtain⟨a2,w,e4⟩:=isT h2 r2 q2;rw[am,e4]at e;cases e;rw[G]at B;rw[w]at r2;have e:=vb I (p hp _ (ci.mpr ⟨_,C,O⟩)) (p hp _ (ci.mpr ⟨_,F,O⟩)) B r2;unfold oJ at hl;rw[e,bA1,beq_iff_eq,beq_iff_eq]at hl;rw[hl.1]at hl;cases hl.2
 ·rw[pairsOf_toList];have:(aq.map (·.2.2) |>.zip (aq.map (·.2.2))).map (·.1)=aq.map (·.2.2):=List.map_fst_zip (nR1 _);rw[this];exact(N.map _).symm
 ·intro x y i j hx m P E Q q;rw[gP1]at hx m;obtain⟨yi,au,rfl⟩:=oM1.mp hx;obtain⟨yj,W,rfl⟩:=oM1.mp m;have C:=g _ (gM1 au);have F:=g _ (gM1 W);have T:Inv X ag σ H {s with heap:=c}:=I.kept (t':=s.toks) keep;have ki:(wq.map (·.1))[i]?=Z yi.1:=by rw[gP1,au];rfl
  have kj:(wq.map (·.1))[j]?=Z yj.1:=by rw[gP1,W];rfl
  have pi:=(und 0).1 _ (p hp _ (ci.mpr ⟨_,C,O⟩));have pj:=(und 0).1 _ (p hp _ (ci.mpr ⟨_,F,O⟩));refine E8 T hs hu (ok _ C).1 (ok _ F).1 (ok _ C).2 (ok _ F).2 (hk _ (ci.mpr ⟨_,C,O⟩)) (hk _ (ci.mpr ⟨_,F,O⟩)) ?_ q;rw[vB pi pj];by_cases z:i<j
  ·have:=jZ hr ki kj z;unfold oJ at this;simp only[bA1,beq_iff_eq]at this;rw[ah z];exact this.1
  ·have:=jZ hr kj ki (by lia);unfold oJ at this;simp only[bA1,beq_iff_eq]at this;rw[ai z];exact this.2
 ·have T:Inv X ag σ H {s with heap:=c}:=I.kept (t':=s.toks) keep;have ao:∀ y∈aq,∃ a xs,y.2.2 = .ref a/\IsTup c a xs/\(if f=true then ∃ k t ps,xs=(Value.int k t::ps).toArray else ∃ b ps qs,xs=(Value.ref b::ps).toArray/\IsTup c b qs):=fun y m=>by
   have h1:=hk y.1 (ci.mpr ⟨_,m,O⟩);obtain⟨B,L⟩:=ok y m;obtain⟨d,v,u⟩:=y;dsimp only at *
   unfold iY at h1;split at h1
   ·cases h1;cases B with
    |tup q t=>
    obtain⟨is,U,i1,_⟩:=T.tuple q;cases t with
    |cons a1 t=>
    cases a1;cases U with
    |cons w1 U=>
    obtain⟨tk,rfl⟩:=w1;cases L;exact⟨_,_,O,i1,by rw[ak O];exact⟨_,_,_,O⟩⟩
   ·cases h1;cases B with
    |tup q t=>
    obtain⟨is,U,i1,_⟩:=T.tuple q;cases t with
    |cons a1 t=>
    cases a1 with
    |tup q2 t2=>
    obtain⟨is2,v2,i2,_⟩:=T.tuple q2;cases U with
    |cons w1 U=>
    cases w1;cases L;exact⟨_,_,O,i1,by rw[aj aK];exact⟨_,_,_,O,i2⟩⟩
   ·cases h1
  cases f with
  |true=>
   refine E5 R (λv hv=>?_) q;obtain⟨y,m,rfl⟩:=ci.mp hv;obtain⟨a,xs,G,am,w⟩:=ao y m;rw[ak O]at w;obtain⟨k,t,ps,rfl⟩:=w;exact⟨a,k,t,ps,G,am⟩
  |false=>
   refine E3 R (λv hv=>?_) q;obtain⟨y,m,rfl⟩:=ci.mp hv;obtain⟨a,xs,G,am,w⟩:=ao y m;rw[aj aK]at w;obtain⟨b,ps,qs,rfl,e4⟩:=w;exact⟨a,_,ps,b,qs,G,am,O,e4⟩
end
section
variable{prog:dF}{w:dH}{A:dG}{E:dB->dD->Prop}{s:dD}
end
noncomputable def m9(l:List D):Option Bool:=match l with
 |[]=>Z M
 |d::l=>match iY d with
  |some f=>if(l.all λe=>iY e == Z f)=M then Z f else Y
  |none=>Y
theorem uA:∀{l:List D} {f:Bool},m9 l=Z f -> ∀d∈l,iY d=Z f
 |[],_,_,d,h=>by cases h
 |x :: l,f,h,d,hd=>by
  rw[m9]at h;cases hx:iY x with
  |none=>rw[hx]at h;cases h
  |some g=>
   rw[hx]at h;dsimp only at h;split at h
   ·rename_i a;cases h;rcases aF.mp hd with rfl|z
    ·exact hx
    ·have:=bD.mp a d z
     rwa [beq_iff_eq]at this
   ·cases h
mutual
theorem pl_tk:∀k:TK,pl (tkD k)=M
 | .non=>rfl
 | .int _=>rfl
 | .tup xs=>by rw[tkD,pl];exact yT xs
theorem yT:∀ks:List TK,md (hE ks)=M
 |[]=>rfl
 |k::ks=>by rw[hE,md,pl_tk k,yT ks];rfl
end
section
variable{X:Cx}
end
noncomputable def FM:Bool->Keyed->Array Keyed->Nat->Nat->Nat->StateT SortSt Sem (Option Nat):=sortPriv%PySem.Builtin.gallop
abbrev rk(ws:List dB)(p:Keyed):Nat:=rkV ws p.1
section
variable{prog:dF}{w:dH}{A:dG}{E:dB->dD->Prop}{s:dD}{κ:SortKind}{ws:List dB}{a₀:Array Keyed}
theorem lj.lt2(C:lj prog w A s κ ws a₀){st:SortSt}{p q:Keyed}{Q:Option Bool->SortSt->Prop}(hk:kindOf st=κ)(hp:p∈a₀)(b:q∈a₀)(a:rk ws p≠rk ws q)(h:Q (Z (decide (rk ws p<rk ws q))) st):wpS (model prog w) A E s (lt' p q) Q st:=by
 have at_:∀{p:Keyed},p∈a₀->ws[rk ws p]?=Z p.1:=λ{p} hp=>yF (C.keys.mem_iff.mp (ci.mpr ⟨_,cj.mpr hp,O⟩));rw[lt'_eq];refine wpS_bind (wpS_get ?_);rw[hk];exact wpS_bind (wpS_lift (wpAny_attempt (C.lt p.1 q.1 _ _ (at_ hp) (at_ b) a _ _ ⟨O,wpS_pure h⟩)))
noncomputable def bey(l:Bool)(key:Keyed)(arr:Array Keyed)(b i:Nat):StateT SortSt Sem (Option Bool):=elem' arr (b+i) >>= λx=>if l=M then lt' x key else lt' key x >>= λr=>pure (r.map λz=> !z)
theorem Hr(C:lj prog w A s κ ws a₀){st:SortSt}{l:Bool}{key p:Keyed}{arr:Array Keyed}{b i:Nat}{Q:Option Bool->SortSt->Prop}(hk:kindOf st=κ)(a:key∈a₀)(hp:arr[b+i]?=Z p)(hm:p∈a₀)(c:rk ws p≠rk ws key)(q:Q (Z (decide (rk ws p<rk ws key))) st):wpS (model prog w) A E s (bey l key arr b i) Q st:=by
 unfold bey;rw[elem'_eq,hp];refine wpS_bind (wpS_pure ?_);cases l with
 |true=>exact C.lt2 hk hm a c q
 |false=>
  refine wpS_bind (C.lt2 hk a hm (Ne.symm c) (wpS_pure ?_));have e:(!decide (rk ws key<rk ws p))=decide (rk ws p<rk ws key):=by rw[bS];simp;lia
  show Q (Z (!decide (rk ws key<rk ws p))) st;rw[e];exact q
theorem vO(C:lj prog w A s κ ws a₀){st:SortSt}{l:Bool}{key:Keyed}{arr:Array Keyed}{b n h:Nat}{R:Nat->Nat}{Q:Option Nat->SortSt->Prop}(hk:kindOf st=κ)(am:key∈a₀)(S:h<n)(B:∀i,i<n -> ∃p,arr[b+i]?=Z p/\p∈a₀/\rk ws p=R i/\R i≠rk ws key)(d:∀i j,i<j->j<n->R i<R j)(q:∀k,k<=n->(∀i,i<k->R i<rk ws key)->(∀i,k<=i->i<n->rk ws key<R i)->Q (Z k) st):wpS (model prog w) A E s (FM l key arr b n h) Q st:=by
 have N:∀i,i<n -> ∀{Q:Option Bool->SortSt->Prop},Q (Z (decide (R i<rk ws key))) st->wpS (model prog w) A E s (bey l key arr b i) Q st:=λi hi Q K=>by
  obtain⟨p,h1,h2,H,y⟩:=B i hi;rw[<- H]at K y;exact Hr C hk am h1 h2 y K
 have ne:∀i,i<n->R i≠rk ws key:=λi hi=>by obtain⟨p,_,_,_,h⟩:=B i hi;exact h
 have I:∀ lo hi,lo<=hi->hi<=n->(∀ i,i<lo->R i<rk ws key)->(∀ i,hi<=i->i<n->rk ws key<R i) -> ∀ {f:Nat->Option (Option Nat)×Nat×Nat->StateT SortSt Sem (ForInStep (Option (Option Nat)×Nat×Nat))} {P:Option (Option Nat)×Nat×Nat->SortSt->Prop},
   (∀x c,f x c=(if c.2.1>=c.2.2 then pure (ForInStep.done (Y,c.2.1,c.2.2))else bey l key arr b (c.2.1+(c.2.2-c.2.1)/2) >>= λr=>match r with
    |some m=>if m=M then pure (ForInStep.yield (Y,c.2.1+(c.2.2-c.2.1)/2+1,c.2.2))else pure (ForInStep.yield (Y,c.2.1,c.2.1+(c.2.2-c.2.1)/2))
    |_=>pure (ForInStep.done (Z Y,c.2.1,c.2.2))))->(∀k c,k<=n->(∀i,i<k->R i<rk ws key)->(∀i,k<=i->i<n->rk ws key<R i)->c.1=Y->c.2.2=k->P c st)->wpS (model prog w) A E s (forIn [0:n] (Y,lo,hi) f) P st:=λlo hi h1 h2 H y f P U K=>by
  refine wpS_forRange (λx c st'=>st'=st /\ ∃lo hi,c=(Y,lo,hi)/\lo<=hi/\hi<=n/\hi-lo<=n-x/\(∀i,i<lo->R i<rk ws key) /\ ∀i,hi<=i->i<n->rk ws key<R i) ?_ ?_ ⟨O,lo,hi,O,h1,h2,by lia,H,y⟩
  ·rintro x c st' _ T ⟨rfl,lo,hi,rfl,ao,g,o,a,D⟩;rw[U];dsimp only;by_cases z:lo>=hi
   ·rw[ak z];have e:lo=hi:=by lia
    subst e;exact wpS_pure (K lo _ g a D O O)
   ·rw[aj z];have hm:lo+(hi-lo)/2<hi:=by lia
    generalize V:lo+(hi-lo)/2=m at *
    refine wpS_bind (N m (by lia) ?_);by_cases u:R m<rk ws key
    ·simp only[u,decide_true,if_true];refine wpS_pure ⟨O,m+1,hi,O,by lia,g,by lia,λi W=>?_,D⟩;by_cases v:i=m
     ·rw[v];exact u
     ·exact bh (d i m (by lia) (by lia)) u
    ·simp only[u,decide_false,bF1,if_false];have F:rk ws key<R m:=by have:=ne m (by lia);lia
     refine wpS_pure ⟨O,lo,m,O,by lia,by lia,by lia,a,λi t G=>?_⟩;by_cases v:i=m
     ·rw[v];exact F
     ·exact bh F (d m i (by lia) G)
  ·rintro c st' ⟨rfl,lo,hi,rfl,ao,g,o,a,D⟩;have e:lo=hi:=by lia
   subst e;exact K lo _ g a D O O
 unfold FM;refine wpS_bind (N h S ?_);by_cases z:R h<rk ws key
 ·simp only[z,decide_true,if_true];refine wpS_bind (wpS_mono (wpS_forRange (λx c st'=>st'=st /\ ∃lo of,c=(Y,lo,of)/\x+1<=of/\lo<of/\h+lo<n/\R (h+lo)<rk ws key) (Q:=λc st'=>st'=st /\ ∃lo of,c=(Y,lo,of)/\lo<of/\h+lo<n/\R (h+lo)<rk ws key /\ ∀i,h+min of (n-h)<=i->i<n->rk ws key<R i) ?_ ?_ ⟨O,0,1,O,by lia,by lia,S,z⟩) ?_)
  ·rintro x c st' _ T ⟨rfl,lo,of,rfl,ao,g,o,a⟩;dsimp only;by_cases L:of>=n-h
   ·rw[ak L];exact wpS_pure ⟨O,lo,of,O,g,o,a,λi t G=>by lia⟩
   ·rw[aj L];refine wpS_bind (N (h+of) (by lia) ?_);by_cases u:R (h+of)<rk ws key
    ·simp only[u,decide_true,b7,bF1,if_false];exact wpS_pure ⟨O,of,2*of+1,O,by lia,by lia,by lia,u⟩
    ·simp only[u,decide_false,cp,if_true];have F:rk ws key<R (h+of):=by have:=ne (h+of) (by lia);lia
     refine wpS_pure ⟨O,lo,of,O,g,o,a,λi t G=>?_⟩;by_cases v:i=h+of
     ·rw[v];exact F
     ·exact bh F (d (h+of) i (by lia) G)
  ·rintro c st' ⟨rfl,lo,of,rfl,ao,g,o,a⟩;exact⟨O,lo,of,O,g,o,a,λi t G=>by lia⟩
  ·rintro c st' ⟨rfl,lo,of,rfl,g,o,a,D⟩;dsimp only;refine wpS_bind (I (h+lo+1) (h+min of (n-h)) (by lia) (by lia) (λi hi=>?_) D (λx c=>rfl) λk c h1 h2 H y t=>?_)
   ·by_cases v:i=h+lo
    ·rw[v];exact a
    ·exact bh (d i (h+lo) (by lia) o) a
   ·obtain⟨wq,X,au⟩:=c;dsimp only at y t;subst y;subst t;exact wpS_pure (q au h1 h2 H)
 ·simp only[z,decide_false,bF1,if_false];have aq:rk ws key<R h:=by have:=ne h S;lia
  refine wpS_bind (wpS_mono (wpS_forRange (λx c st'=>st'=st /\ ∃lo of,c=(Y,lo,of)/\x+1<=of/\lo<of/\lo<=h/\rk ws key<R (h-lo)) (Q:=λc st'=>st'=st /\ ∃lo of,c=(Y,lo,of)/\lo<of/\lo<=h/\rk ws key<R (h-lo) /\ ∀i,i<h+1-min of (h+1)->R i<rk ws key) ?_ ?_ ⟨O,0,1,O,by lia,by lia,by lia,aq⟩) ?_)
  ·rintro x c st' _ T ⟨rfl,lo,of,rfl,ao,g,o,a⟩;dsimp only;by_cases L:of>=h+1
   ·rw[ak L];exact wpS_pure ⟨O,lo,of,O,g,o,a,λi t=>by lia⟩
   ·rw[aj L];refine wpS_bind (N (h-of) (by lia) ?_);by_cases u:R (h-of)<rk ws key
    ·simp only[u,decide_true,if_true];refine wpS_pure ⟨O,lo,of,O,g,o,a,λi t=>?_⟩;by_cases v:i=h-of
     ·rw[v];exact u
     ·exact bh (d i (h-of) (by lia) (by lia)) u
    ·simp only[u,decide_false,bF1,if_false];have F:rk ws key<R (h-of):=by have:=ne (h-of) (by lia);lia
     exact wpS_pure ⟨O,of,2*of+1,O,by lia,by lia,by lia,F⟩
  ·rintro c st' ⟨rfl,lo,of,rfl,ao,g,o,a⟩;exact⟨O,lo,of,O,g,o,a,λi t=>by lia⟩
  ·rintro c st' ⟨rfl,lo,of,rfl,g,o,a,D⟩;dsimp only;refine wpS_bind (I (h+1-min of (h+1)) (h-lo) (by lia) (by lia) D (λi t G=>?_) (λx c=>rfl) λk c h1 h2 H y t=>?_)
   ·by_cases v:i=h-lo
    ·rw[v];exact a
    ·exact bh a (d (h-lo) i (by lia) G)
   ·obtain⟨wq,X,au⟩:=c;dsimp only at y t;subst y;subst t;exact wpS_pure (q au h1 h2 H)
end
noncomputable def Iu:Nat->StateT SortSt Sem Unit:=sortPriv%PySem.Builtin.setMinGallop
noncomputable def Jl:Array Keyed->Array Keyed->StateT SortSt Sem (Array Keyed):=sortPriv%PySem.Builtin.mergeLo
noncomputable def Jm:Array Keyed->Array Keyed->StateT SortSt Sem (Array Keyed):=sortPriv%PySem.Builtin.mergeHi
structure Sm (st st':SortSt):Prop where
 k:kindOf st'=kindOf st
 a:arrOf st'=arrOf st
 p:pendingOf st'=pendingOf st
 f:failedOf st'=failedOf st
theorem Sm.rfl{st:SortSt}:Sm st st:=⟨_root_.rfl,_root_.rfl,_root_.rfl,_root_.rfl⟩
theorem Sm.g{st st':SortSt}(h:Sm st st')(g:Nat):Sm st (SortSt.mk' (kindOf st') (arrOf st') (pendingOf st') g (failedOf st')):=⟨h.k,h.a,h.p,h.f⟩
noncomputable def Srt(ws:List dB)(xs:List Keyed):Prop:=xs.Pairwise λp q=>rk ws p<rk ws q
noncomputable def lV(ws:List dB)(xs ys:List Keyed):Prop:=∀x∈xs,∀y∈ys,rk ws x<rk ws y
section
variable{ws:List dB}{a b out xs ys zs:List Keyed}{i j k:Nat}
theorem Srt.app(h1:Srt ws xs)(h2:Srt ws ys)(h:lV ws xs ys):Srt ws (xs++ys):=cC.mpr ⟨h1,h2,h⟩
theorem lV.app(h1:lV ws xs zs)(h2:lV ws ys zs):lV ws (xs++ys) zs:=λx b y a=>(aG.mp b).elim (λh=>h1 x h y a) λh=>h2 x h y a
theorem lV.of(h:lV ws xs ys){a ys':List Keyed}(h1:∀x∈a,x∈xs)(h2:∀y∈ys',y∈ys):lV ws a ys':=λx b y c=>h x (h1 x b) y (h2 y c)
theorem Srt.split(h:Srt ws a)(i:Nat):lV ws (a.take i) (a.drop i):=by
 have:=h;unfold Srt at this;rw[<- cK i a]at this;exact(cC.mp this).2.2
structure J0 (ws:List dB)(a b out:List Keyed)(i j:Nat):Prop where
 la:i<=a.length
 lb:j<=b.length
 len:out.length=i+j
 pm:(out++(a.drop i++b.drop j)).Perm (a++b)
 so:Srt ws out
 ba:lV ws out (a.drop i)
 bb:lV ws out (b.drop j)
theorem J0.mvA(h:J0 ws a b out i j)(d:Srt ws a)(hk:i+k<=a.length)(hb:lV ws ((a.drop i).take k) (b.drop j)):J0 ws a b (out++(a.drop i).take k) (i+k) j:=by
 have e:a.drop i=(a.drop i).take k++a.drop (i+k):=by rw[<- bF,cK]
 have c:Srt ws (a.drop i):=d.sublist (cE _ _);refine⟨hk,h.lb,?_,?_,h.so.app (c.sublist (aT _ _)) (h.ba.of (λ_ h=>h) λ_ h=>cO h),?_,h.bb.app hb⟩
 ·rw[lA1,h.len,aQ,aV];lia
 ·have:=h.pm;rw[e,bI]at this;rw[bI];exact this
 ·refine lV.app (h.ba.of (λ_ h=>h) λy f=>?_) ?_
  ·rw[e];exact mA1 _ f
  ·have:=c.split k
   rwa [bF]at this
theorem J0.swap(h:J0 ws a b out i j):J0 ws b a out j i:=⟨h.lb,h.la,by rw[h.len,Nat.add_comm],(List.Perm.append_left _ cT).trans (h.pm.trans cT),h.so,h.bb,h.ba⟩
theorem J0.mvB(h:J0 ws a b out i j)(c:Srt ws b)(hk:j+k<=b.length)(hb:lV ws ((b.drop j).take k) (a.drop i)):J0 ws a b (out++(b.drop j).take k) i (j+k):=(h.swap.mvA c hk hb).swap
theorem u4{x:Keyed}(h:a[i]?=Z x):(a.drop i).take 1=[x]:=by
 have b:=(gE1.mp h).1;rw[bW b,cU,cV,(gE1.mp h).2]
noncomputable def Mgd(ws:List dB)(a b r:List Keyed):Prop:=r.Perm (a++b)/\Srt ws r
theorem J0.dn(h:J0 ws a b out i j)(d:Srt ws a)(c:j=b.length):Mgd ws a b (out++a.drop i++b.drop j):=by
 have e:b.drop j=[]:=by rw[c,List.drop_length]
 refine⟨by rw[bI];exact h.pm,?_⟩;rw[e,aM];exact h.so.app (d.sublist (cE _ _)) h.ba
theorem J0.ls(h:J0 ws a b out i j)(d:Srt ws a)(c:Srt ws b)(hb:lV ws (b.drop j) (a.drop i)):Mgd ws a b (out++b.drop j++a.drop i):=by
 refine⟨by rw[bI];exact(List.Perm.append_left _ cT).trans h.pm,?_⟩;exact(h.so.app (c.sublist (cE _ _)) h.bb).app (d.sublist (cE _ _)) (h.ba.app hb)
theorem Srt.drop_gt(h:Srt ws a){x:Keyed}(hx:a[i]?=Z x):∀y∈a.drop i,rk ws x<=rk ws y:=λy b=>by
 have c:=(gE1.mp hx).1;rw[bW c,(gE1.mp hx).2]at b;have d:Srt ws (a.drop i):=h.sublist (cE _ _);rw[bW c,(gE1.mp hx).2]at d;rcases aF.mp b with rfl|b
 ·exact nR1 _
 ·exact aD ((cf.mp d).1 y b)
end
section
variable{prog:dF}{w:dH}{A:dG}{E:dB->dD->Prop}{s:dD}{κ:SortKind}{ws:List dB}{a₀:Array Keyed}
theorem pP{st:SortSt}{g:Nat}{Q:Unit->SortSt->Prop}(h:Q () (SortSt.mk' (kindOf st) (arrOf st) (pendingOf st) g (failedOf st))):wpS (model prog w) A E s (Iu g) Q st:=wpS_modify h
theorem fe{st:SortSt}{arr:Array Keyed}{i:Nat}{p:Keyed}{Q:Keyed->SortSt->Prop}(h:arr[i]?=Z p)(q:Q p st):wpS (model prog w) A E s (elem' arr i) Q st:=by
 rw[elem'_eq,h];exact wpS_pure q
structure MC (ws:List dB)(a₀ a b:Array Keyed):Prop where
 ma:∀p∈a,p∈a₀
 mb:∀p∈b,p∈a₀
 sa:Srt ws a.toList
 sb:Srt ws b.toList
 ne:∀p∈a,∀q∈b,rk ws p≠rk ws q
 pa:0<a.size
 pb:0<b.size
 last:∀x,a[a.size-1]?=some x -> ∀q∈b,rk ws q<rk ws x
 head:∀x,b[0]?=some x -> ∀q∈a,rk ws x<rk ws q
theorem MC.galA(C:lj prog w A s κ ws a₀){a b:Array Keyed}(ao:MC ws a₀ a b){st:SortSt}{l:Bool}{ia ib:Nat}{y:Keyed}{Q:Option Nat->SortSt->Prop}(hk:kindOf st=κ)(hy:b[ib]? = Z y)(m:ia<a.size)(q:∀k,ia+k<=a.size->(∀x∈(a.toList.drop ia).take k,rk ws x<rk ws y)->(∀x∈a.toList.drop (ia+k),rk ws y<rk ws x)->Q (Z k) st):wpS (model prog w) A E s (FM l y a ia (a.size-ia) 0) Q st:=by
 have d:y∈b:=ck hy;refine vO (R:=λi=>(a[ia+i]?.map (rk ws)).getD 0) C hk (ao.mb y d) (by lia) (λi hi=>?_) (λi j n o=>?_) λk h1 h2 h=>q k (by lia) (λx g=>?_) λx g=>?_
 ·have c:ia+i<a.size:=by lia
  refine⟨a[ia+i],aG1 c,ao.ma _ (cW c),by rw[aG1 c];rfl,?_⟩;rw[aG1 c];exact ao.ne _ (cW c) _ d
 ·have c:ia+i<a.size:=by lia
  have e:ia+j<a.size:=by lia
  rw[aG1 c,aG1 e];have:=cw.mp ao.sa (ia+i) (ia+j) (by simpa using c) (by simpa using e) (by lia);simpa using this
 ·obtain⟨i,hi⟩:=br g;have f:i<k:=by have:=(gE1.mp hi).1;rw[aQ]at this;lia
  rw[aS f,cD,aT1]at hi;have:=h2 i f;rw[hi]at this;exact this
 ·obtain⟨i,hi⟩:=br g;rw[cD,aT1]at hi;have c:=(Array.getElem?_eq_some_iff.mp hi).1;have:=h (k+i) (by lia) (by lia);rw[<- bm,hi]at this;exact this
theorem MC.galB(C:lj prog w A s κ ws a₀){a b:Array Keyed}(ao:MC ws a₀ a b){st:SortSt}{l:Bool}{ia ib:Nat}{y:Keyed}{Q:Option Nat->SortSt->Prop}(hk:kindOf st=κ)(hy:a[ia]? = Z y)(m:ib<b.size)(q:∀k,ib+k<=b.size->(∀x∈(b.toList.drop ib).take k,rk ws x<rk ws y)->(∀x∈b.toList.drop (ib+k),rk ws y<rk ws x)->Q (Z k) st):wpS (model prog w) A E s (FM l y b ib (b.size-ib) 0) Q st:=by
 have d:y∈a:=ck hy;refine vO (R:=λi=>(b[ib+i]?.map (rk ws)).getD 0) C hk (ao.ma y d) (by lia) (λi hi=>?_) (λi j n o=>?_) λk h1 h2 h=>q k (by lia) (λx g=>?_) λx g=>?_
 ·have c:ib+i<b.size:=by lia
  refine⟨b[ib+i],aG1 c,ao.mb _ (cW c),by rw[aG1 c];rfl,?_⟩;rw[aG1 c];exact(ao.ne _ d _ (cW c)).symm
 ·have c:ib+i<b.size:=by lia
  have e:ib+j<b.size:=by lia
  rw[aG1 c,aG1 e];have:=cw.mp ao.sb (ib+i) (ib+j) (by simpa using c) (by simpa using e) (by lia);simpa using this
 ·obtain⟨i,hi⟩:=br g;have f:i<k:=by have:=(gE1.mp hi).1;rw[aQ]at this;lia
  rw[aS f,cD,aT1]at hi;have:=h2 i f;rw[hi]at this;exact this
 ·obtain⟨i,hi⟩:=br g;rw[cD,aT1]at hi;have c:=(Array.getElem?_eq_some_iff.mp hi).1;have:=h (k+i) (by lia) (by lia);rw[<- bm,hi]at this;exact this
end
theorem kC(a:Array Keyed)(i:Nat):(a.extract i a.size).toList=a.toList.drop i:=by
 rw[cB,cX,ca (by simp)]
theorem sH(a:Array Keyed)(i k:Nat):(a.extract i (i+k)).toList=(a.toList.drop i).take k:=by
 rw[cB,cX,bu]
section
variable{prog:dF}{w:dH}{A:dG}{E:dB->dD->Prop}{s:dD}{κ:SortKind}{ws:List dB}{a₀:Array Keyed}
theorem GN(C:lj prog w A s κ ws a₀){a b:Array Keyed}(ao:MC ws a₀ a b){st:SortSt}{Q:Array Keyed->SortSt->Prop}(hk:kindOf st=κ)(q:∀r st',Sm st st'->Mgd ws a.toList b.toList r.toList->Q r st'):wpS (model prog w) A E s (Jl a b) Q st:=by
 have dn:∀{out:Array Keyed} {ia ib:Nat},J0 ws a.toList b.toList out.toList ia ib->ib=b.size->Mgd ws a.toList b.toList (out++a.extract ia a.size++b.extract ib b.size).toList:=λ{out ia ib} h e=>by
  rw[cy,cy,kC,kC];exact h.dn ao.sa (by rw[e];simp)
 have wq:∀{ia:Nat},ia+1=a.size -> ∀y∈a.toList.drop ia,∀q∈b,rk ws q<rk ws y:=λ{ia} e y H q hq=>by
  have hl:ia<a.toList.length:=by rw[aJ];lia
  rw[bW hl,List.drop_of_length_le (by rw[aJ];lia)]at H;have:y=a.toList[ia]:=by simpa using H
  exact ao.last y (by rw[this,show a.size-1=ia by lia];simp) q hq
 have ls:∀{out:Array Keyed} {ia ib:Nat},J0 ws a.toList b.toList out.toList ia ib->ia+1=a.size->Mgd ws a.toList b.toList (out++b.extract ib b.size++a.extract ia a.size).toList:=λ{out ia ib} h e=>by
  rw[cy,cy,kC,kC];exact h.ls ao.sa ao.sb λx p y H=>wq e y H x (cj.mp (cP p))
 have S:∀{i:Nat},i<a.size -> ∃x,a[i]?=Z x/\x∈a/\a.toList[i]?=Z x:=λ{i} h=>⟨a[i],aG1 h,cW h,by rw[aT1,aG1 h]⟩;have R:∀{i:Nat},i<b.size -> ∃x,b[i]?=Z x/\x∈b/\b.toList[i]?=Z x:=λ{i} h=>⟨b[i],aG1 h,cW h,by rw[aT1,aG1 h]⟩;have G:∀{out:Array Keyed} {ia ib:Nat} {y:Keyed},J0 ws a.toList b.toList out.toList ia ib->b.toList[ib]?=Z y->(∀x∈a.toList.drop ia,rk ws y<rk ws x)->J0 ws a.toList b.toList (out.push y).toList ia (ib+1):=λ{out ia ib y} h H hb=>by
  have:=h.mvB (k:=1) ao.sb (by have:=(gE1.mp H).1;lia) (by rw[u4 H];intro x p z hz;rw[cY.mp p];exact hb z hz)
  rwa [u4 H,<- cA]at this
 have T:∀{out:Array Keyed} {ia ib:Nat} {y:Keyed},J0 ws a.toList b.toList out.toList ia ib->a.toList[ia]?=Z y->(∀x∈b.toList.drop ib,rk ws y<rk ws x)->J0 ws a.toList b.toList (out.push y).toList (ia+1) ib:=λ{out ia ib y} h H hb=>by
  have:=h.mvA (k:=1) ao.sa (by have:=(gE1.mp H).1;lia) (by rw[u4 H];intro x p z hz;rw[cY.mp p];exact hb z hz)
  rwa [u4 H,<- cA]at this
 obtain⟨b0,hb0,mb0,lb0⟩:=R ao.pb;unfold Jl;refine wpS_bind (wpS_lift (wpAny_rule ⟨O,?_⟩));refine wpS_bind (fe hb0 ?_);have j0:J0 ws a.toList b.toList (#[]:Array Keyed).toList 0 0:=⟨bi _,bi _,O,.refl _,.nil,λx p=>(by cases p),λx p=>(by cases p)⟩;have j1:J0 ws a.toList b.toList (#[b0]:Array Keyed).toList 0 (0+1):=G j0 lb0 λx p=>ao.head b0 hb0 x (cj.mp (cP p));clear j0;by_cases z:1=b.size
 ·rw[ak (by simpa using z)];exact wpS_pure (q _ _ .rfl (dn j1 z))
 rw[aj (by simpa using z)];by_cases z2:0+1=a.size
 ·rw[ak (by simpa using z2)];exact wpS_pure (q _ _ .rfl (ls j1 z2))
 rw[aj (by simpa using z2)];have hpa:=ao.pa;have hpb:=ao.pb;refine wpS_bind (wpS_get ?_);refine wpS_bind (wpS_mono (wpS_forRange (λx c st'=>Sm st st' /\ ∃out ia ib g,c=(Y,out,ia,ib,g)/\J0 ws a.toList b.toList out.toList ia ib/\ia+1<a.size/\ib<b.size/\x+1<=out.toList.length)
  (Q:=λc st'=>Sm st st' /\ ∃r,c.1=Z r/\Mgd ws a.toList b.toList r.toList) ?_ ?_ ⟨.rfl,_,_,_,_,O,j1,by lia,by lia,nR1 _⟩) ?_)
 ·rintro x c st' _ p ⟨hs,out,ia,ib,g,rfl,t,l,j,hn⟩;dsimp only;refine wpS_bind (wpS_mono (wpS_forRange (fun y c n=>Sm st n /\ ∃ d ia ib am L,c=(none,d,ia,ib,am,L)/\J0 ws a.toList b.toList d.toList ia ib/\ia+1<a.size/\ib<b.size/\out.toList.length+y<=d.toList.length)
   (Q:=λc n=>Sm st n/\((∃r,c.1=Z r/\Mgd ws a.toList b.toList r.toList) \/ ∃d ia ib am L,c=(Y,d,ia,ib,am,L)/\J0 ws a.toList b.toList d.toList ia ib/\ia+1<a.size/\ib<b.size/\out.toList.length+1<=d.toList.length)) ?_ ?_ ⟨hs,_,_,_,_,_,O,t,l,j,nR1 _⟩) ?_)
  ·rintro y c n _ H ⟨m,d,ia,ib,am,L,rfl,t,l,j,hn2⟩;dsimp only;obtain⟨u,hu,mu,lu⟩:=R j;obtain⟨v,U,mv,lv⟩:=S (show ia<a.size by lia);refine wpS_bind (fe hu (wpS_bind (fe U (wpS_bind (C.lt2 (m.k.trans hk) (ao.mb u mu) (ao.ma v mv) (ao.ne v mv u mu).symm ?_)))));by_cases z3:rk ws u<rk ws v
   ·simp only[z3,decide_true,if_true];refine wpS_bind (fe hu ?_);have F:=G t lu λx p=>nL1 z3 (ao.sa.drop_gt lv x p);have hl:(d.push u).toList.length=d.toList.length+1:=by simp
    by_cases D:ib+1=b.size
    ·rw[ak (by simpa using D)];exact wpS_pure ⟨m,.inl ⟨_,O,dn F D⟩⟩
    ·rw[aj (by simpa using D)];split
     ·exact wpS_pure ⟨m,.inr ⟨_,_,_,_,_,O,F,l,by lia,by lia⟩⟩
     ·exact wpS_pure ⟨m,_,_,_,_,_,O,F,l,by lia,by lia⟩
   ·simp only[z3,decide_false,bF1,if_false];have z5:rk ws v<rk ws u:=by have:=ao.ne v mv u mu;lia
    refine wpS_bind (fe U ?_);have F:=T t lv λx p=>nL1 z5 (ao.sb.drop_gt lu x p);have hl:(d.push v).toList.length=d.toList.length+1:=by simp
    by_cases D:ia+1+1=a.size
    ·rw[ak (by simpa using D)];exact wpS_pure ⟨m,.inl ⟨_,O,ls F D⟩⟩
    ·rw[aj (by simpa using D)];split
     ·exact wpS_pure ⟨m,.inr ⟨_,_,_,_,_,O,F,by lia,j,by lia⟩⟩
     ·exact wpS_pure ⟨m,_,_,_,_,_,O,F,by lia,j,by lia⟩
  ·rintro c n ⟨m,d,ia,ib,am,L,rfl,t,l,j,hn2⟩;exfalso;have:=t.len;lia
  ·rintro c n ⟨m,⟨r,V,hm⟩|⟨d,ia,ib,am,L,rfl,t,l,j,hn2⟩⟩
   ·obtain⟨c1,c2⟩:=c;dsimp only at V;subst V;exact wpS_pure ⟨m,r,O,hm⟩
   dsimp only;refine wpS_bind (wpS_lift (wpAny_rule ⟨O,?_⟩));refine wpS_bind (wpS_mono (wpS_forRange (λy c n=>Sm st n /\ ∃f ia ib g am L,c=(Y,f,ia,ib,g,am,L)/\J0 ws a.toList b.toList f.toList ia ib/\ia+1<a.size/\ib<b.size/\d.toList.length+y<=f.toList.length)
    (Q:=λc n=>Sm st n/\((∃r,c.1=Z r/\Mgd ws a.toList b.toList r.toList) \/ ∃f ia ib g am L,c=(Y,f,ia,ib,g,am,L)/\J0 ws a.toList b.toList f.toList ia ib/\ia+1<a.size/\ib<b.size/\d.toList.length<=f.toList.length)) ?_ ?_ ⟨m,_,_,_,_,_,_,O,t,l,j,nR1 _⟩) ?_)
   ·rintro y c I _ H ⟨K,f,ia,ib,g,am,L,rfl,t,l,j,hn3⟩;dsimp only;obtain⟨u,hu,mu,lu⟩:=R j;refine(λ(X:∀g':Nat,(?T:Nat->Prop) g')=>?go) ?mn
    case go=>
     by_cases hg:g>1
     ·rw[ak hg];generalize g-1=g';exact X g'
     ·rw[aj hg];exact X g
    intro g';refine wpS_bind (pP (wpS_bind (fe hu (wpS_bind (ao.galA (ia:=ia) C (K.k.trans hk) hu (by lia) λk h1 h2 h3=>?_)))));have B:=K.g g';generalize SortSt.mk' (kindOf I) (arrOf I) (pendingOf I) g' (failedOf I)=st4 at *
    dsimp only;refine(λ(P:∀(o:Array Keyed) (i:Nat),J0 ws a.toList b.toList o.toList i ib->i+1<a.size->(∀x∈a.toList.drop i,rk ws u<rk ws x)->d.toList.length+y<=o.toList.length->(?T2:Array Keyed->Nat->Prop) o i)=>?go2) ?mn2
    case go2=>
     by_cases au:k>0
     ·rw [if_pos au];have F:=t.mvA (k:=k) ao.sa (by rw [aJ];exact h1) fun x p z hz=>nL1 (h2 x p) (ao.sb.drop_gt lu z hz);rw [<- sH,<- cy] at F;have hlt:ia+k≠a.size:=fun e=>by
       obtain⟨v,U,mv,lv⟩:=S (show a.size-1<a.size by lia);have h4:=ao.last v U u mu;have h5:=h2 v (gM1 (i:=a.size-1-ia) (by rw[aS (by lia),cD,show ia+(a.size-1-ia)=a.size-1 by lia];exact lv));lia
      have hl2:d.toList.length+y<=(f++a.extract ia (ia+k)).toList.length:=by rw[cy,lA1];lia
      by_cases D:ia+k+1=a.size
      ·rw[ak (by simpa using D)];exact wpS_pure ⟨B,.inl ⟨_,O,ls F D⟩⟩
      ·rw[aj (by simpa using D),aj (by simpa using hlt)];have h6:ia+k+1<a.size:=by lia
       generalize f++a.extract ia (ia+k)=o at F hl2 ⊢;have h8:=h3;generalize ia+k=i at F h6 h8 ⊢;exact P o i F h6 h8 hl2
     ·rw[aj au];have e:k=0:=by lia
      subst e;exact P f ia t l h3 hn3
    intro o i F hi hgt hlo;refine wpS_bind (fe hu ?_);have j2:=G F lu hgt;have hl2:(o.push u).toList.length=o.toList.length+1:=by simp
    by_cases D:ib+1=b.size
    ·rw[ak (by simpa using D)];exact wpS_pure ⟨B,.inl ⟨_,O,dn j2 D⟩⟩
    rw[aj (by simpa using D)];obtain⟨v,U,mv,lv⟩:=S (show i<a.size by lia);refine wpS_bind (fe U (wpS_bind (ao.galB (ib:=ib+1) C (B.k.trans hk) U (by lia) λaq e1 e2 e3=>?_)));dsimp only;generalize o.push u=o1 at *
    generalize ib+1=j1' at *
    refine(λ(N:∀(W:Array Keyed) (jb:Nat),J0 ws a.toList b.toList W.toList i jb->jb<b.size->(∀x∈b.toList.drop jb,rk ws v<rk ws x)->o1.toList.length<=W.toList.length->(?T3:Array Keyed->Nat->Prop) W jb)=>?go3) ?mn3
    case go3=>
     by_cases au:aq>0
     ·rw[ak au];have j3:=j2.mvB (k:=aq) ao.sb (by rw[aJ];exact e1) λx p z hz=>nL1 (e2 x p) (ao.sa.drop_gt lv z hz);rw[<- sH,<- cy]at j3;have hl3:o1.toList.length<=(o1++b.extract j1' (j1'+aq)).toList.length:=by rw[cy,lA1];lia
      by_cases z5:j1'+aq=b.size
      ·rw[ak (by simpa using z5)];exact wpS_pure ⟨B,.inl ⟨_,O,dn j3 z5⟩⟩
      ·rw[aj (by simpa using z5)];have h7:j1'+aq<b.size:=by lia
       generalize o1++b.extract j1' (j1'+aq)=W at j3 hl3 ⊢;have h8:=e3;generalize j1'+aq=jb at j3 h7 h8 ⊢;exact N W jb j3 h7 h8 hl3
     ·rw[aj au];have e:aq=0:=by lia
      subst e;exact N o1 j1' j2 (by have:=j2.lb;rw[aJ]at this;lia) e3 (nR1 _)
    intro W jb j3 hjb hgt3 hl3;refine wpS_bind (fe U ?_);have j4:=T j3 lv hgt3;have hl4:(W.push v).toList.length=W.toList.length+1:=by simp
    by_cases z6:i+1+1=a.size
    ·rw[ak (by simpa using z6)];exact wpS_pure ⟨B,.inl ⟨_,O,ls j4 z6⟩⟩
    rw[aj (by simpa using z6)];split
    ·exact wpS_pure ⟨B,.inr ⟨_,_,_,_,_,_,O,j4,by lia,hjb,by lia⟩⟩
    ·exact wpS_pure ⟨B,_,_,_,_,_,_,O,j4,by lia,hjb,by lia⟩
   ·rintro c I ⟨K,f,ia,ib,g,am,L,rfl,t,l,j,hn3⟩;exfalso;have:=t.len;lia
   ·rintro c I ⟨K,⟨r,V,hm⟩|⟨f,ia,ib,g,am,L,rfl,t,l,j,hn3⟩⟩
    ·obtain⟨c1,c2⟩:=c;dsimp only at V;subst V;exact wpS_pure ⟨K,r,O,hm⟩
    dsimp only;refine wpS_bind (pP (wpS_pure ⟨K.g _,_,_,_,_,O,t,l,j,by lia⟩))
 ·rintro c st' ⟨hs,out,ia,ib,g,rfl,t,l,j,hn⟩;exfalso;have:=t.len;lia
 ·rintro c st' ⟨hs,r,V,hm⟩;obtain⟨c1,c2⟩:=c;dsimp only at V;subst V;exact wpS_pure (q r _ hs hm)
end
section
variable{ws:List dB}{a b out xs ys zs:List Keyed}{i j k t:Nat}
theorem lV.to(h1:lV ws xs ys)(h2:lV ws xs zs):lV ws xs (ys++zs):=λx a y b=>(aG.mp b).elim (λh=>h1 x a y h) λh=>h2 x a y h
structure K0 (ws:List dB)(a b out:List Keyed)(i j:Nat):Prop where
 la:i<=a.length
 lb:j<=b.length
 len:out.length+(i+j)=a.length+b.length
 pm:(a.take i++b.take j++out.reverse).Perm (a++b)
 so:Srt ws out.reverse
 ba:lV ws (a.take i) out
 bb:lV ws (b.take j) out
theorem K0.swap(h:K0 ws a b out i j):K0 ws b a out j i:=⟨h.lb,h.la,by have:=h.len;lia,((cT).append_right _).trans (h.pm.trans cT),h.so,h.bb,h.ba⟩
theorem K0.mvA(h:K0 ws a b out i j)(k:Srt ws a)(hk:t<=i)(hb:lV ws (b.take j) ((a.take i).drop t)):K0 ws a b (out++((a.take i).drop t).reverse) t j:=by
 have e:a.take i=a.take t++(a.take i).drop t:=by
  have:=(cK t (a.take i)).symm
  rwa [List.take_take,bC hk]at this
 have g:Srt ws (a.take i):=k.sublist (aT _ _);have l:=h.la;have len:=h.len;have sp:=g.split t;rw[List.take_take,bC hk]at sp;refine⟨by lia,h.lb,?_,?_,?_,?_,?_⟩
 ·rw[lA1,cc,aV,aQ];lia
 ·rw[List.reverse_append,List.reverse_reverse];refine List.Perm.trans ?_ h.pm;generalize (a.take i).drop t=c at e;rw[e,bI,bI,bI];refine List.Perm.append_left _ ?_;rw[<- bI,<- bI];exact List.perm_append_comm.append_right _
 ·rw[List.reverse_append,List.reverse_reverse];exact Srt.app (g.sublist (cE _ _)) h.so λx d y f=>h.ba x (cP d) y (cZ.mp f)
 ·exact(h.ba.of (λx d=>by rw[e];exact aH _ d) λ_ h=>h).to λx d y f=>sp x d y (cZ.mp f)
 ·exact h.bb.to λx d y f=>hb x d y (cZ.mp f)
theorem K0.mvB(h:K0 ws a b out i j)(c:Srt ws b)(hk:t<=j)(hb:lV ws (a.take i) ((b.take j).drop t)):K0 ws a b (out++((b.take j).drop t).reverse) i t:=(h.swap.mvA c hk hb).swap
theorem Db{x:Keyed}(h:a[i]?=Z x):(a.take (i+1)).drop i=[x]:=by
 have b:=(gE1.mp h).1;rw[cH,h,List.drop_append_of_le_length (by rw[aQ];lia),List.drop_of_length_le (by rw[aQ];lia)];rfl
theorem K0.dn(h:K0 ws a b out i j)(c:Srt ws b)(hi:i=0):Mgd ws a b (a.take i++b.take j++out.reverse):=by
 refine⟨h.pm,?_⟩;rw[hi,cV,c4];exact Srt.app (c.sublist (aT _ _)) h.so λx d y e=>h.bb x d y (cZ.mp e)
theorem K0.fs(h:K0 ws a b out i j)(f:Srt ws a)(e:Srt ws b)(hb:lV ws (b.take j) (a.take i)):Mgd ws a b (b.take j++a.take i++out.reverse):=by
 refine⟨(List.perm_append_comm.append_right _).trans h.pm,?_⟩;exact(Srt.app (e.sublist (aT _ _)) (f.sublist (aT _ _)) hb).app h.so (lV.app (λx c y d=>h.bb x c y (cZ.mp d)) λx c y d=>h.ba x c y (cZ.mp d))
theorem Srt.take_lt(h:Srt ws a){x:Keyed}(hx:a[i]?=Z x):∀y∈a.take (i+1),rk ws y<=rk ws x:=λy b=>by
 rw[cH,hx]at b;rcases aG.mp b with b|b
 ·have c:=(gE1.mp hx).1;exact aD (h.split i y b x (by rw[bW c,(gE1.mp hx).2];exact mS1))
 ·have:y=x:=by simpa using b
  rw[this];exact nR1 _
end
theorem vS(a:Array Keyed)(i:Nat):(a.extract 0 i).toList=a.toList.take i:=by
 rw[cB,cX,bZ,Nat.sub_zero]
theorem C9{a:Array Keyed}{i t:Nat}(h:t<=i):(a.extract t i).reverse.toList=((a.toList.take i).drop t).reverse:=by
 rw[c5,cB,cX,List.drop_take]
section
variable{prog:dF}{w:dH}{A:dG}{E:dB->dD->Prop}{s:dD}{κ:SortKind}{ws:List dB}{a₀:Array Keyed}
theorem G8(C:lj prog w A s κ ws a₀){a:Array Keyed}{st:SortSt}{l:Bool}{n:Nat}{y:Keyed}{Q:Option Nat->SortSt->Prop}(hk:kindOf st=κ)(r:∀ p∈a,p∈a₀)(h:Srt ws a.toList)(hy:y∈a₀)(e:∀ p∈a,rk ws p≠rk ws y)(hn:0<n)(m:n<=a.size)(q:∀k,k<=n->(∀x∈a.toList.take k,rk ws x<rk ws y)->(∀x∈(a.toList.take n).drop k,rk ws y<rk ws x)->Q (Z k) st):wpS (model prog w) A E s (FM l y a 0 n (n-1)) Q st:=by
 refine vO (R:=λi=>(a[0+i]?.map (rk ws)).getD 0) C hk hy (by lia) (λi hi=>?_) (λi j o t=>?_) λk h1 h2 g=>q k h1 (λx f=>?_) λx f=>?_
 ·have b:0+i<a.size:=by lia
  refine⟨a[0+i],aG1 b,r _ (cW b),by rw[aG1 b];rfl,?_⟩;rw[aG1 b];exact e _ (cW b)
 ·have b:0+i<a.size:=by lia
  have c:0+j<a.size:=by lia
  rw[aG1 b,aG1 c];have:=cw.mp h (0+i) (0+j) (by simpa using b) (by simpa using c) (by lia);simpa using this
 ·obtain⟨i,hi⟩:=br f;have d:i<k:=by have:=(gE1.mp hi).1;rw[aQ]at this;lia
  rw[aS d,aT1]at hi;have:=h2 i d;rw[bP,hi]at this;exact this
 ·obtain⟨i,hi⟩:=br f;have b:=(gE1.mp hi).1;rw[aV,aQ,aJ]at b;rw[cD,aS (by lia),aT1]at hi;have:=g (k+i) (by lia) (by lia);rw[bP,hi]at this;exact this
theorem GO(C:lj prog w A s κ ws a₀){a b:Array Keyed}(ao:MC ws a₀ a b){st:SortSt}{Q:Array Keyed->SortSt->Prop}(hk:kindOf st=κ)(q:∀r st',Sm st st'->Mgd ws a.toList b.toList r.toList->Q r st'):wpS (model prog w) A E s (Jm a b) Q st:=by
 have dn:∀{out:Array Keyed} {na nb:Nat},K0 ws a.toList b.toList out.toList na nb->na=0->Mgd ws a.toList b.toList (a.extract 0 na++b.extract 0 nb++out.reverse).toList:=λ{out na nb} h e=>by
  rw[cy,cy,vS,vS,c5];exact h.dn ao.sb e
 have firstX:∀{nb:Nat},nb=1 -> ∀y∈b.toList.take nb,∀q∈a,rk ws y<rk ws q:=λ{nb} e y K q hq=>by
  subst e;have hl:0<b.toList.length:=by rw[aJ];exact ao.pb
  have:b.toList.take 1=[b.toList[0]]:=by
   conv=>lhs;rw[cH,cV,gG1 hl]
   rfl
  rw[this]at K;rw[cY.mp K];exact ao.head _ (by simp) q hq
 have fs:∀{out:Array Keyed} {na nb:Nat},K0 ws a.toList b.toList out.toList na nb->nb=1->Mgd ws a.toList b.toList (b.extract 0 nb++a.extract 0 na++out.reverse).toList:=λ{out na nb} h e=>by
  rw[cy,cy,vS,vS,c5];exact h.fs ao.sa ao.sb λx B y K=>firstX e x B y (cj.mp (cO K))
 have W:∀{i:Nat},i<a.size -> ∃x,a[i]?=Z x/\x∈a/\a.toList[i]?=Z x:=λ{i} h=>⟨a[i],aG1 h,cW h,by rw[aT1,aG1 h]⟩;have V:∀{i:Nat},i<b.size -> ∃x,b[i]?=Z x/\x∈b/\b.toList[i]?=Z x:=λ{i} h=>⟨b[i],aG1 h,cW h,by rw[aT1,aG1 h]⟩;have X:∀{out:Array Keyed} {na nb:Nat} {y:Keyed},K0 ws a.toList b.toList out.toList na nb->0<nb->b.toList[nb-1]?=Z y->(∀x∈a.toList.take na,rk ws x<rk ws y)->K0 ws a.toList b.toList (out.push y).toList na (nb-1):=λ{out na nb y} h h0 K hb=>by
  have e:=Db K;rw[show nb-1+1=nb by lia]at e;have:=h.mvB (t:=nb-1) ao.sb (by lia) (by rw[e];intro x B z hz;rw[cY.mp hz];exact hb x B);rw[e,List.reverse_singleton,<- cA]at this;exact this
 have I:∀{out:Array Keyed} {na nb:Nat} {y:Keyed},K0 ws a.toList b.toList out.toList na nb->0<na->a.toList[na-1]?=Z y->(∀x∈b.toList.take nb,rk ws x<rk ws y)->K0 ws a.toList b.toList (out.push y).toList (na-1) nb:=λ{out na nb y} h h0 K hb=>by
  have e:=Db K;rw[show na-1+1=na by lia]at e;have:=h.mvA (t:=na-1) ao.sa (by lia) (by rw[e];intro x B z hz;rw[cY.mp hz];exact hb x B);rw[e,List.reverse_singleton,<- cA]at this;exact this
 have aq:∀{out:Array Keyed} {na nb:Nat},K0 ws a.toList b.toList out.toList na nb->out.toList.length+(na+nb)=a.size+b.size:=λ{out na nb} h=>by have:=h.len;rwa [aJ (xs:=a),aJ (xs:=b)]at this
 have hpa:=ao.pa;have hpb:=ao.pb;obtain⟨a1,ha1,ma1,la1⟩:=W (show a.size-1<a.size by lia);have upA:∀{n:Nat} {v:Keyed},0<n->a.toList[n-1]?=Z v -> ∀x∈a.toList.take n,rk ws x<=rk ws v:=λ{n v} h wq x B=>ao.sa.take_lt wq x (by rw[show n-1+1=n by lia];exact B);have upB:∀{n:Nat} {v:Keyed},0<n->b.toList[n-1]?=Z v -> ∀x∈b.toList.take n,rk ws x<=rk ws v:=λ{n v} h wq x B=>ao.sb.take_lt wq x (by rw[show n-1+1=n by lia];exact B);unfold Jm;refine wpS_bind (wpS_lift (wpAny_rule ⟨O,?_⟩));refine wpS_bind (fe ha1 ?_);have j0:K0 ws a.toList b.toList (#[]:Array Keyed).toList a.size b.size:=⟨by simp,by simp,by simp,by rw[<- aJ,<- aJ,b4,b4];simp,.nil,λx B y K=>(by cases K),λx B y K=>(by cases K)⟩;have j1:K0 ws a.toList b.toList (#[a1]:Array Keyed).toList (a.size-1) b.size:=I j0 ao.pa la1 λx B=>ao.last a1 ha1 x (cj.mp (cO B));clear j0;by_cases z:a.size-1=0
 ·rw[ak (by simpa using z)];exact wpS_pure (q _ _ .rfl (dn j1 z))
 rw[aj (by simpa using z)];by_cases z2:b.size=1
 ·rw[ak (by simpa using z2)];exact wpS_pure (q _ _ .rfl (fs j1 z2))
 rw[aj (by simpa using z2)];refine wpS_bind (wpS_get ?_);refine wpS_bind (wpS_mono (wpS_forRange (λx c st'=>Sm st st' /\ ∃na nb out g,c=(Y,na,nb,out,g)/\K0 ws a.toList b.toList out.toList na nb/\0<na/\1<nb/\x+1<=out.toList.length)
  (Q:=λc st'=>Sm st st' /\ ∃r,c.1=Z r/\Mgd ws a.toList b.toList r.toList) ?_ ?_ ⟨.rfl,_,_,_,_,O,j1,by lia,by lia,nR1 _⟩) ?_)
 ·rintro x c st' _ B ⟨hs,na,nb,out,g,rfl,D,j,l,hn⟩;dsimp only;refine wpS_bind (wpS_mono (wpS_forRange (fun y c F=>Sm st F /\ ∃ na nb d N P,c=(none,na,nb,d,N,P)/\K0 ws a.toList b.toList d.toList na nb/\0<na/\1<nb/\out.toList.length+y<=d.toList.length)
   (Q:=λc F=>Sm st F/\((∃r,c.1=Z r/\Mgd ws a.toList b.toList r.toList) \/ ∃na nb d N P,c=(Y,na,nb,d,N,P)/\K0 ws a.toList b.toList d.toList na nb/\0<na/\1<nb/\out.toList.length+1<=d.toList.length)) ?_ ?_ ⟨hs,_,_,_,_,_,O,D,j,l,nR1 _⟩) ?_)
  ·rintro y c F _ K ⟨m,na,nb,d,N,P,rfl,D,j,l,hn2⟩;dsimp only;have lna:=D.la;have lnb:=D.lb;rw[aJ]at lna lnb;obtain⟨u,hu,mu,lu⟩:=V (show nb-1<b.size by lia);obtain⟨v,wq,mv,lv⟩:=W (show na-1<a.size by lia);refine wpS_bind (fe hu (wpS_bind (fe wq (wpS_bind (C.lt2 (m.k.trans hk) (ao.mb u mu) (ao.ma v mv) (ao.ne v mv u mu).symm ?_)))));by_cases z3:rk ws u<rk ws v
   ·simp only[z3,decide_true,if_true];refine wpS_bind (fe wq ?_);have G:=I D j lv λx B=>bJ (upB (by lia) lu x B) z3;have hl:(d.push v).toList.length=d.toList.length+1:=by simp
    by_cases am:na-1=0
    ·rw[ak (by simpa using am)];exact wpS_pure ⟨m,.inl ⟨_,O,dn G am⟩⟩
    ·rw[aj (by simpa using am)];split
     ·exact wpS_pure ⟨m,.inr ⟨_,_,_,_,_,O,G,by lia,l,by lia⟩⟩
     ·exact wpS_pure ⟨m,_,_,_,_,_,O,G,by lia,l,by lia⟩
   ·simp only[z3,decide_false,bF1,if_false];have z5:rk ws v<rk ws u:=by have:=ao.ne v mv u mu;lia
    refine wpS_bind (fe hu ?_);have G:=X D (by lia) lu λx B=>bJ (upA j lv x B) z5;have hl:(d.push u).toList.length=d.toList.length+1:=by simp
    by_cases am:nb-1=1
    ·rw[ak (by simpa using am)];exact wpS_pure ⟨m,.inl ⟨_,O,fs G am⟩⟩
    ·rw[aj (by simpa using am)];split
     ·exact wpS_pure ⟨m,.inr ⟨_,_,_,_,_,O,G,j,by lia,by lia⟩⟩
     ·exact wpS_pure ⟨m,_,_,_,_,_,O,G,j,by lia,by lia⟩
  ·rintro c F ⟨m,na,nb,d,N,P,rfl,D,j,l,hn2⟩;exfalso;have:=aq D;lia
  ·rintro c F ⟨m,⟨r,hr,hm⟩|⟨na,nb,d,N,P,rfl,D,j,l,hn2⟩⟩
   ·obtain⟨c1,c2⟩:=c;dsimp only at hr;subst hr;exact wpS_pure ⟨m,r,O,hm⟩
   dsimp only;refine wpS_bind (wpS_lift (wpAny_rule ⟨O,?_⟩));refine wpS_bind (wpS_mono (wpS_forRange (λy c F=>Sm st F /\ ∃na nb f g N P,c=(Y,na,nb,f,g,N,P)/\K0 ws a.toList b.toList f.toList na nb/\0<na/\1<nb/\d.toList.length+y<=f.toList.length)
    (Q:=λc F=>Sm st F/\((∃r,c.1=Z r/\Mgd ws a.toList b.toList r.toList) \/ ∃na nb f g N P,c=(Y,na,nb,f,g,N,P)/\K0 ws a.toList b.toList f.toList na nb/\0<na/\1<nb/\d.toList.length<=f.toList.length)) ?_ ?_ ⟨m,_,_,_,_,_,_,O,D,j,l,nR1 _⟩) ?_)
   ·rintro y c L _ K ⟨au,na,nb,f,g,N,P,rfl,D,j,l,hn3⟩;dsimp only;have lna:=D.la;have lnb:=D.lb;rw[aJ]at lna lnb;obtain⟨u,hu,mu,lu⟩:=V (show nb-1<b.size by lia);refine(λ(main:∀g':Nat,(?T:Nat->Prop) g')=>?go) ?mn
    case go=>
     by_cases hg:g>1
     ·rw[ak hg];generalize g-1=g';exact main g'
     ·rw[aj hg];exact main g
    intro g';refine wpS_bind (pP (wpS_bind (fe hu (wpS_bind (G8 (n:=na) C (au.k.trans hk) ao.ma ao.sa (ao.mb u mu) (λp hp=>ao.ne p hp u mu) j lna λk h1 h2 h3=>?_)))));have H:=au.g g';generalize SortSt.mk' (kindOf L) (arrOf L) (pendingOf L) g' (failedOf L)=st4 at *
    dsimp only;generalize hac:na-k=acc;refine(λ(T:∀(o:Array Keyed) (i:Nat),K0 ws a.toList b.toList o.toList i nb->0<i->(∀x∈a.toList.take i,rk ws x<rk ws u)->d.toList.length+y<=o.toList.length->(?T2:Array Keyed->Nat->Prop) o i)=>?go2) ?mn2
    case go2=>
     by_cases S:acc>0
     ·rw[ak S];have G:=D.mvA (t:=k) ao.sa h1 λx B z hz=>bJ (upB (by lia) lu x B) (h3 z hz);rw[<- C9 h1,<- cy]at G;have hl2:d.toList.length+y<=(f++(a.extract k na).reverse).toList.length:=by rw[cy,lA1];lia
      by_cases am:k=0
      ·rw[ak (by simpa using am)];exact wpS_pure ⟨H,.inl ⟨_,O,dn G am⟩⟩
      ·rw[aj (by simpa using am)];generalize f++(a.extract k na).reverse=o at G hl2 ⊢;have U:=h2;have h9:0<k:=by lia
       generalize k=i at G U h9 ⊢;exact T o i G h9 U hl2
     ·rw[aj S];have e:k=na:=by lia
      have U:=h2;rw[e]at U;exact T f na D j U hn3
    intro o i G hi hgt hlo;refine wpS_bind (fe hu ?_);have j2:=X G (by lia) lu hgt;have hl2:(o.push u).toList.length=o.toList.length+1:=by simp
    by_cases am:nb-1=1
    ·rw[ak (by simpa using am)];exact wpS_pure ⟨H,.inl ⟨_,O,fs j2 am⟩⟩
    rw[aj (by simpa using am)];have li:=G.la;rw[aJ]at li;obtain⟨v,wq,mv,lv⟩:=W (show i-1<a.size by lia);refine wpS_bind (fe wq (wpS_bind (G8 (n:=nb-1) C (H.k.trans hk) ao.mb ao.sb (ao.ma v mv) (λp hp=>(ao.ne v mv p hp).symm) (by lia) (by lia) λk2 e1 e2 e3=>?_)));dsimp only;generalize o.push u=o1 at *
    have hnb:0<nb-1:=by lia
    generalize nb-1=j1' at *
    generalize hac2:j1'-k2=acc2;refine(λ(R:∀(o3:Array Keyed) (jb:Nat),K0 ws a.toList b.toList o3.toList i jb->1<jb->(∀x∈b.toList.take jb,rk ws x<rk ws v)->o1.toList.length<=o3.toList.length->(?T3:Array Keyed->Nat->Prop) o3 jb)=>?go3) ?mn3
    case go3=>
     by_cases S:acc2>0
     ·rw[ak S];have j3:=j2.mvB (t:=k2) ao.sb e1 λx B z hz=>bJ (upA hi lv x B) (e3 z hz);rw[<- C9 e1,<- cy]at j3;have hl3:o1.toList.length<=(o1++(b.extract k2 j1').reverse).toList.length:=by rw[cy,lA1];lia
      by_cases z5:k2=1
      ·rw[ak (by simpa using z5)];exact wpS_pure ⟨H,.inl ⟨_,O,fs j3 z5⟩⟩
      ·have h0:k2≠0:=fun e=>by
        subst e;obtain⟨b0,hb0,mb0,lb0⟩:=V ao.pb;have:=e3 b0 (gM1 (i:=0) (by rw[cD,aS (by lia)];exact lb0));have:=ao.head b0 hb0 v mv;lia
       rw[aj (by simpa using z5),aj (by simpa using h0)];generalize o1++(b.extract k2 j1').reverse=o3 at j3 hl3 ⊢;have U:=e2;have h9:1<k2:=by lia
       generalize k2=jb at j3 U h9 ⊢;exact R o3 jb j3 h9 U hl3
     ·rw[aj S];have e:k2=j1':=by lia
      have U:=e2;rw[e]at U;exact R o1 j1' j2 (by lia) U (nR1 _)
    intro o3 jb j3 hjb hgt3 hl3;refine wpS_bind (fe wq ?_);have j4:=I j3 hi lv hgt3;have hl4:(o3.push v).toList.length=o3.toList.length+1:=by simp
    by_cases z6:i-1=0
    ·rw[ak (by simpa using z6)];exact wpS_pure ⟨H,.inl ⟨_,O,dn j4 z6⟩⟩
    rw[aj (by simpa using z6)];split
    ·exact wpS_pure ⟨H,.inr ⟨_,_,_,_,_,_,O,j4,by lia,hjb,by lia⟩⟩
    ·exact wpS_pure ⟨H,_,_,_,_,_,_,O,j4,by lia,hjb,by lia⟩
   ·rintro c L ⟨au,na,nb,f,g,N,P,rfl,D,j,l,hn3⟩;exfalso;have:=aq D;lia
   ·rintro c L ⟨au,⟨r,hr,hm⟩|⟨na,nb,f,g,N,P,rfl,D,j,l,hn3⟩⟩
    ·obtain⟨c1,c2⟩:=c;dsimp only at hr;subst hr;exact wpS_pure ⟨au,r,O,hm⟩
    dsimp only;refine wpS_bind (pP (wpS_pure ⟨au.g _,_,_,_,_,O,D,j,l,by lia⟩))
 ·rintro c st' ⟨hs,na,nb,out,g,rfl,D,j,l,hn⟩;exfalso;have:=aq D;lia
 ·rintro c st' ⟨hs,r,hr,hm⟩;obtain⟨c1,c2⟩:=c;dsimp only at hr;subst hr;exact wpS_pure (q r _ hs hm)
end
theorem re(c:Nat):∀ (m:List Keyed) (k:Nat) (arr:Array Keyed) (pre old b:List Keyed),arr.toList=pre++(old++b)->pre.length=c+k->old.length=m.length ->
  ((m.zipIdx k).foldl (λa (x:Keyed×Nat)=>a.setIfInBounds (c+x.2) x.1) arr).toList=pre++(m++b)
 |[],k,arr,pre,old,b,h1,h2,h3=>by
  have:old=[]:=cu.mp h3;subst this;exact h1
 |x::m,k,arr,pre,[],b,h1,h2,h3=>by simp at h3
 |x::m,k,arr,pre,o::old,b,h1,h2,h3=>by
  rw[bM,cb];have:=re c m (k+1) (arr.setIfInBounds (c+k) x) (pre++[x]) old b (by
   rw[Array.toList_setIfInBounds,h1,<- h2,c6 _ _ (nR1 _),cQ];simp) (by rw[lA1,h2];rfl) (by simpa using h3)
  rw[this];simp
noncomputable def fH:Nat->List (List Keyed)->List (Nat×Nat×Nat)->Prop
 |_,[],[]=>True
 |s,r::rs,(t,n,_)::p=>t=s/\n=r.length/\fH (s+r.length) rs p
 |_,_,_=>False
theorem vj:∀ {s:Nat} {rs:List (List Keyed)} {p:List (Nat×Nat×Nat)},fH s rs p -> ∀ {i:Nat} {r1 r2:List Keyed},rs[i]? = some r1->rs[i+1]? = some r2 ->
  ∃d c,p[i]?=Z (s+(rs.take i).flatten.length,r1.length,d)/\p[i+1]?=Z (s+(rs.take i).flatten.length+r1.length,r2.length,c) /\
   fH s (rs.take i++(r1++r2)::rs.drop (i+2)) ((p.set i (s+(rs.take i).flatten.length,r1.length+r2.length,d)).eraseIdx (i+1))
 |s,[],p,h,i,r1,r2,h1,_=>by simp at h1
 |s,r::rs,[],h,i,r1,r2,_,_=>by cases h
 |s,r::rs,(t,n,d)::p,⟨e1,e2,h⟩,0,r1,r2,h1,h2=>by
  have j:r=r1:=by simpa using h1
  subst j
  match rs,p,h,h2 with
  |r2'::rs,(t2,n2,c)::p,⟨f,e,h⟩,h2=>
   have k:r2'=r2:=by simpa using h2
   subst k;subst e1;subst e2;subst f;subst e;refine⟨d,c,by simp,by simp,?_⟩;simp only[cV,List.flatten_nil,bf,Nat.add_zero,c4,List.drop_succ_cons,bZ,c7,List.eraseIdx_cons_succ,List.eraseIdx_cons_zero];exact⟨O,by rw[lA1],by rw[lA1,<- bm];exact h⟩
 |s,r::rs,(t,n,d)::p,⟨e1,e2,h⟩,i+1,r1,r2,h1,h2=>by
  obtain⟨a,b,f,e,l⟩:=vj h (i:=i) (by simpa using h1) (by simpa using h2);have g:s+((r::rs).take (i+1)).flatten.length=s+r.length+(rs.take i).flatten.length:=by rw[cU,c8,lA1,bm]
  refine⟨a,b,by rw[g,gC1];exact f,by rw[g,gC1];exact e,?_⟩;rw[g,cU,bj,c9,List.eraseIdx_cons_succ,List.drop_succ_cons];exact⟨e1,e2,l⟩
structure SR (ws:List dB)(κ:SortKind)(a₀:Array Keyed)(rs:List (List Keyed))(rest:List Keyed)(st:SortSt):Prop where
 k:kindOf st=κ
 f:failedOf st=none
 pm:(arrOf st).Perm a₀
 ar:(arrOf st).toList=rs.flatten++rest
 so:∀r∈rs,Srt ws r/\r≠[]
 pe:fH 0 rs (pendingOf st).toList
section
variable{prog:dF}{w:dH}{A:dG}{E:dB->dD->Prop}{s:dD}{κ:SortKind}{ws:List dB}{a₀:Array Keyed}
theorem lj.unlike(C:lj prog w A s κ ws a₀){xs:Array Keyed}(p:xs.Perm a₀):xs.toList.Pairwise λu v=>rk ws u≠rk ws v:=by
 refine cw.mpr λi j hi a b e=>?_;rw[aJ]at hi a;have:=C.inj p (i:=i) (j:=j) (by rw[<- p.size_eq];exact hi) (by rw[<- p.size_eq];exact a) (by unfold kR;rw[aG1 hi,aG1 a];simpa using e);lia
theorem DK{σ:Type}{ao:Model}{st a:σ}{Q:Unit->σ->Prop}(h:Q () a):wpS ao A E s (set a:StateT σ Sem PUnit) Q st:=wpS_modify (f:=λ_=>a) h
theorem Ak(xs:Array (Nat×Nat×Nat))(i:Nat):(xs.eraseIdxIfInBounds i).toList=xs.toList.eraseIdx i:=by
 unfold Array.eraseIdxIfInBounds;split
 ·rw[Array.toList_eraseIdx]
 ·rename_i h;rw[List.eraseIdx_of_length_le (by rw[aJ];lia)]
theorem ox:∀{A B:List (List Keyed)} {r b:List Keyed} {s:Nat} {p:List (Nat×Nat×Nat)},fH s (A++r::B) p->r.length=b.length->fH s (A++b::B) p
 |[],B,r,b,s,[],h,_=>by cases h
 |[],B,r,b,s,(t,n,pw)::p,h,e=>by
  obtain⟨h1,h2,c⟩:=(show t=s/\n=r.length/\fH (s+r.length) B p from h);exact⟨h1,by rw[<- e];exact h2,by rw[<- e];exact c⟩
 |a::A,B,r,b,s,[],h,_=>by cases h
 |a::A,B,r,b,s,(t,n,pw)::p,h,e=>by
  obtain⟨h1,h2,c⟩:=(show t=s/\n=a.length/\fH (s+a.length) (A++r::B) p from h);exact⟨h1,h2,ox c e⟩
theorem DF{rs:List (List Keyed)}{i:Nat}{c r2:List Keyed}(h1:rs[i]?=Z c)(h2:rs[i+1]?=Z r2):rs=rs.take i++c::r2::rs.drop (i+2):=by
 have b:=(gE1.mp h1);have a:=(gE1.mp h2);have:=(cK i rs).symm;rw[bW b.1,bW a.1,b.2,a.2]at this;exact this
theorem G7(C:lj prog w A s κ ws a₀){st:SortSt}{l:Bool}{key:Keyed}{X:Array Keyed}{pre r b:List Keyed}{h:Nat}{Q:Option Nat->SortSt->Prop}(hk:kindOf st=κ)(o:X.toList=pre++(r++b))(hm:∀ x∈X,x∈a₀)(a:key∈a₀)(t:Srt ws r)(g:∀ x∈r,rk ws x≠rk ws key)(n:h<r.length)(q:∀k,k<=r.length->(∀x∈r.take k,rk ws x<rk ws key)->(∀x∈r.drop k,rk ws key<rk ws x)->Q (Z k) st):wpS (model prog w) A E s (FM l key X pre.length r.length h) Q st:=by
 have at_:∀i,i<r.length->X[pre.length+i]?=r[i]?:=λi hi=>by
  rw[<- aT1,o,gR1 (bt _ _),bu,gL1 hi]
 refine vO (R:=λi=>(r[i]?.map (rk ws)).getD 0) C hk a n (λi hi=>?_) (λi j f m=>?_) λk h1 h2 p=>q k h1 (λx d=>?_) λx d=>?_
 ·have e:=at_ i hi;rw[gG1 hi]at e;refine⟨r[i],e,hm _ (ck e),by rw[gG1 hi];rfl,?_⟩;rw[gG1 hi];exact g _ (bU hi)
 ·rw[gG1 (show i<r.length by lia),gG1 m];exact cw.mp t i j (by lia) m f
 ·obtain⟨i,hi⟩:=br d;have c:i<k:=by have:=(gE1.mp hi).1;rw[aQ]at this;lia
  rw[aS c]at hi;have:=h2 i c;rw[hi]at this;exact this
 ·obtain⟨i,hi⟩:=br d;rw[cD]at hi;have:=p (k+i) (by lia) (gE1.mp hi).1;rw[hi]at this;exact this
theorem SR.merge(C:lj prog w A s κ ws a₀){rs:List (List Keyed)}{rest:List Keyed}{st:SortSt}{i:Nat}{a r2:List Keyed}{Q:Bool->SortSt->Prop}(h:SR ws κ a₀ rs rest st)(h1:rs[i]? = Z a)(h2:rs[i+1]? = Z r2)(q:∀r st',SR ws κ a₀ (rs.take i++r::rs.drop (i+2)) rest st'->Q M st'):wpS (model prog w) A E s (mergeAt' i) Q st:=by
 obtain⟨U,pw2,p1,p2,p3⟩:=vj h.pe h1 h2;rw[aT1,bP]at p1 p2;rw[bP]at p3;have hsp:=DF h1 h2;obtain⟨am,n1⟩:=h.so a (gM1 h1);obtain⟨K,n2⟩:=h.so r2 (gM1 h2);have others:∀r∈rs.take i,Srt ws r/\r≠[]:=λr g=>h.so r (cO g);have others2:∀r∈rs.drop (i+2),Srt ws r/\r≠[]:=λr g=>h.so r (cP g);have l1:0<a.length:=da.mpr n1;have l2:0<r2.length:=da.mpr n2;have n:(arrOf st).toList=(rs.take i).flatten++(a++(r2++((rs.drop (i+2)).flatten++rest))):=by
  rw[h.ar]
  conv=>lhs;rw[hsp]
  simp
 generalize S:(rs.take i).flatten=pre at *
 generalize H:(rs.drop (i+2)).flatten++rest=post at *
 have f:∀x∈arrOf st,x∈a₀:=λx c=>h.pm.mem_iff.mp c;have un:=C.unlike h.pm;have N:∀x∈a,x∈arrOf st:=λx c=>by rw[<- cj,n];simp[c]
 have au:∀x∈r2,x∈arrOf st:=λx c=>by rw[<- cj,n];simp[c]
 have j:∀x∈a,∀y∈r2,rk ws x≠rk ws y:=λx c y B=>by
  rw[n]at un;exact(cC.mp (cC.mp un).2.1).2.2 x c y (aH _ B)
 have hs:∀{st':SortSt} {r:List Keyed},kindOf st'=kindOf st->failedOf st'=failedOf st->(pendingOf st').toList=((pendingOf st).toList.set i (pre.length,a.length+r2.length,U)).eraseIdx (i+1)->(arrOf st').toList=pre++(r++post)->r.Perm (a++r2)->Srt ws r->Q M st':=λ{st' r} o l g3 g4 V g6=>by
  refine q r st' ⟨o.trans h.k,l.trans h.f,?_,?_,?_,?_⟩
  ·refine Array.Perm.trans ?_ h.pm;rw[cg,g4,n,<- bI a];exact List.Perm.append_left _ (V.append_right _)
  ·rw[g4,db,c8,S,bI,bI,H]
  ·intro x c;rcases aG.mp c with c|c
   ·exact others x c
   ·rcases aF.mp c with rfl|c
    ·exact⟨g6,λe=>by rw[e]at V;have:=V.length_eq;rw[lA1,bf]at this;lia⟩
    ·exact others2 x c
  ·rw[g3];exact ox p3 (by rw[lA1,V.length_eq,lA1])
 obtain⟨u,W⟩:∃u,r2[0]?=some u:=⟨_,gG1 l2⟩;have mu:=gM1 W;obtain⟨v,L⟩:∃v,a[a.length-1]?=some v:=⟨_,gG1 (by lia)⟩;have mv:=gM1 L;have hXu:(arrOf st)[pre.length+a.length]?=Z u:=by
  rw[<- aT1,n,gR1 (bt _ _),bu,gR1 (nR1 _),cQ,gL1 l2];exact W
 have hXv:(arrOf st)[pre.length+a.length-1]?=Z v:=by
  rw[<- aT1,n,gR1 (by lia),show pre.length+a.length-1-pre.length=a.length-1 by lia,gL1 (by lia)];exact L
 have R:(arrOf st).toList=(pre++a)++(r2++post):=by rw[n,bI]
 unfold mergeAt';refine wpS_bind (wpS_get ?_);dsimp only;rw[show(pendingOf st)[i]?=_ from p1,show(pendingOf st)[i+1]?=_ from p2];dsimp only;refine wpS_bind (DK ?_);refine wpS_bind (fe hXu ?_);refine wpS_bind (G7 (pre:=pre) (r:=a) C h.k n f (f u (au u mu)) am (λx c=>j x c u mu) l1 λk e1 T e3=>?_);dsimp only;have t:(((pendingOf st).setIfInBounds i (pre.length,a.length+r2.length,U)).eraseIdxIfInBounds (i+1)).toList=((pendingOf st).toList.set i (pre.length,a.length+r2.length,U)).eraseIdx (i+1):=by rw[Ak,Array.toList_setIfInBounds]
 generalize ((pendingOf st).setIfInBounds i (pre.length,a.length+r2.length,U)).eraseIdxIfInBounds (i+1)=P at *
 have F:∀x∈r2,rk ws u<=rk ws x:=λx c=>K.drop_gt (i:=0) W x (by rw[bZ];exact c);by_cases z:a.length-k=0
 ·rw[ak (by simpa using z)];have ek:k=a.length:=by lia
  subst ek;rw[b4]at T;exact wpS_pure (hs (r:=a++r2) O O t (by rw[bI];exact n) (.refl _) (am.app K λx c y B=>nL1 (T x c) (F y B)))
 rw[aj (by simpa using z),show pre.length+k+(a.length-k)-1=pre.length+a.length-1 by lia];refine wpS_bind (fe hXv ?_);rw[show pre.length+a.length=(pre++a).length by rw[lA1]];refine wpS_bind (G7 (pre:=pre++a) (r:=r2) C h.k R f (f v (N v mv)) K (λx c=>(j v mv x c).symm) (show r2.length-1<r2.length by lia) λk2 f1 f2 f3=>?_);dsimp only;have huv:rk ws u<rk ws v:=e3 v (gM1 (i:=a.length-1-k) (by rw[cD,show k+(a.length-1-k)=a.length-1 by lia];exact L));have hk2:k2≠0:=λe=>by
  subst e;have:=f3 u (by rw[bZ];exact mu);lia
 rw[aj (by simpa using hk2)];have ex:((arrOf st).extract (pre.length+k) (pre++a).length).toList=a.drop k:=by
  rw[cB,cX,n,<- bF,List.drop_left,List.drop_append_of_le_length e1,lA1,show pre.length+a.length-(pre.length+k)=(a.drop k).length by rw[aV];lia,de]
 have I:((arrOf st).extract (pre++a).length ((pre++a).length+k2)).toList=r2.take k2:=by
  rw[cB,cX,R,List.drop_left,bu,List.take_append_of_le_length f1]
 generalize c:(arrOf st).extract (pre.length+k) (pre++a).length=x at *
 generalize B:(arrOf st).extract (pre++a).length ((pre++a).length+k2)=y at *
 have lx:x.size=a.length-k:=by rw[<- aJ,ex,aV]
 have ly:y.size=k2:=by rw[<- aJ,I,aQ];lia
 have ao:MC ws a₀ x y:=by
  refine⟨λp d=>?_,λp d=>?_,?_,?_,λp d r g=>?_,by lia,by lia,λp d r g=>?_,λp d r g=>?_⟩
  ·rw[<- cj,ex]at d;exact f p (N p (cP d))
  ·rw[<- cj,I]at d;exact f p (au p (cO d))
  ·rw[ex];exact am.sublist (cE _ _)
  ·rw[I];exact K.sublist (aT _ _)
  ·rw[<- cj,ex]at d;rw[<- cj,I]at g;exact j p (cP d) r (cO g)
  ·rw[<- cj,I]at g;rw[<- aT1,ex,cD,lx,show k+(a.length-k-1)=a.length-1 by lia,L]at d;cases d;exact f2 r g
  ·rw[<- cj,ex]at g;rw[<- aT1,I,aS (by lia),W]at d;cases d;exact e3 r g
 refine(λ(D:∀(m:Array Keyed) (b:SortSt),Sm (SortSt.mk' (kindOf st) (arrOf st) P (gallopOf st) (failedOf st)) b->Mgd ws x.toList y.toList m.toList->(?T:Array Keyed->SortSt->Prop) m b)=>?go) ?mn
 case go=>
  by_cases z2:a.length-k<=k2
  ·rw[ak z2];refine wpS_bind (GN C ao h.k λm b o l=>?_);exact D m b o l
  ·rw[aj z2];refine wpS_bind (GO C ao h.k λm b o l=>?_);exact D m b o l
 intro m b o l;refine wpS_bind (wpS_modify (wpS_bind (wpS_get ?_)));dsimp only;have hf:failedOf b=Y:=o.f.trans h.f;rw[show(failedOf b).isNone=M by rw[hf];rfl];rw[ex,I]at l;have ml:m.toList.length=(a.drop k++r2.take k2).length:=l.1.length_eq;have wr:=re (pre.length+k) m.toList 0 (arrOf b) (pre++a.take k) (a.drop k++r2.take k2) (r2.drop k2++post) (by
  rw[o.a];show(arrOf st).toList=_;rw[n]
  conv=>lhs;rw[<- cK k a,<- cK k2 r2]
  simp only[bI]) (by rw[lA1,aQ,Nat.add_zero];lia) ml.symm
 have bx:∀y∈m.toList,y∈a.drop k\/y∈r2.take k2:=λy B=>aG.mp (l.1.mem_iff.mp B);have aq:=am.split k;have X:=K.split k2;have wq:∀y∈a,rk ws y<=rk ws v:=λy B=>am.take_lt L y (by rw[show a.length-1+1=a.length by lia,b4];exact B);refine wpS_pure (hs (r:=a.take k++(m.toList++r2.drop k2)) o.k o.f (by rw[show pendingOf (SortSt.mk' (kindOf b) _ (pendingOf b) (gallopOf b) (failedOf b))=pendingOf b from rfl,o.p];exact t) ?_ ?_ ?_)
 ·refine wr.trans ?_;simp only[bI]
 ·conv=>rhs;rw[<- cK k a,<- cK k2 r2]
  rw[bI];refine List.Perm.append_left _ ?_;rw[<- bI];exact l.1.append_right _
 ·refine Srt.app (am.sublist (aT _ _)) (Srt.app l.2 (K.sublist (cE _ _)) λp d r g=>?_) (lV.to (λp d r g=>?_) λp d r g=>?_)
  ·rcases bx p d with G|G
   ·exact bJ (wq p (cP G)) (f3 r g)
   ·exact X p G r g
  ·rcases bx r g with G|G
   ·exact aq p d r G
   ·exact nL1 (T p d) (F r (cO G))
  ·exact nL1 (T p d) (F r (cP g))
end
noncomputable def kO(ws:List dB)(lo:Nat)(xs:Array Keyed)(i:Nat):Nat:=kR ws xs (lo+i)
noncomputable def wo(ws:List dB)(lo:Nat)(xs:Array Keyed)(k:Nat):Prop:=∀i j,i<j->j<k->kO ws lo xs i<kO ws lo xs j
noncomputable def HF(ws:List dB)(lo:Nat)(xs:Array Keyed)(k:Nat):Prop:=∀i j,i<j->j<k->kO ws lo xs j<kO ws lo xs i
structure SoL (κ:SortKind)(a₀:Array Keyed)(lo:Nat)(st0 st:SortSt):Prop where
 perm:(arrOf st).Perm a₀
 kind:kindOf st=κ
 failed:failedOf st=failedOf st0
 pend:pendingOf st=pendingOf st0
 pre:∀i,i<lo->(arrOf st)[i]?=(arrOf st0)[i]?
theorem SoL.arr{κ:SortKind}{a₀:Array Keyed}{lo:Nat}{st0 st:SortSt}(b:SoL κ a₀ lo st0 st){xs:Array Keyed}(p:xs.Perm (arrOf st))(hp:∀i,i<lo->xs[i]?=(arrOf st)[i]?):SoL κ a₀ lo st0 (setArr st xs):=⟨p.trans b.perm,b.kind,b.failed,b.pend,λi hi=>(hp i hi).trans (b.pre i hi)⟩
section
variable{prog:dF}{w:dH}{A:dG}{E:dB->dD->Prop}{s:dD}{κ:SortKind}{ws:List dB}{a₀:Array Keyed}{lo:Nat}{st0:SortSt}
theorem lj.cmpL(C:lj prog w A s κ ws a₀){st:SortSt}{i j:Nat}{Q:Option Bool->SortSt->Prop}(b:SoL κ a₀ lo st0 st)(hi:i<a₀.size)(d:j<a₀.size)(a:i≠j)(h:Q (Z (decide (kR ws (arrOf st) i<kR ws (arrOf st) j))) st):wpS (model prog w) A E s (ltAt' i j) Q st:=by
 obtain⟨x,q,e,k⟩:=C.at_ b.perm hi;obtain⟨y,r,g,f⟩:=C.at_ b.perm d;have c:kR ws (arrOf st) i≠kR ws (arrOf st) j:=λz=>a (C.inj b.perm hi d z);rw[ltAt'_eq];refine wpS_bind (wpS_get ?_);show wpS _ _ _ _ (do let x<-elem' (arrOf st) i;let y<-elem' (arrOf st) j;lt' x y) Q st;rw[elem'_eq,elem'_eq,e,g];refine wpS_bind (wpS_pure (wpS_bind (wpS_pure ?_)));rw[lt'_eq];refine wpS_bind (wpS_get ?_);rw[b.kind];exact wpS_bind (wpS_lift (wpAny_attempt (C.lt x y _ _ k f c _ _ ⟨O,wpS_pure h⟩)))
theorem wo.one{xs:Array Keyed}:wo ws lo xs 1:=λi j h1 h2=>by lia
theorem wo.snoc{xs:Array Keyed}{n:Nat}(u:wo ws lo xs n)(h:kO ws lo xs (n-1)<kO ws lo xs n):wo ws lo xs (n+1):=λi j h1 h2=>by
 by_cases z:j<n
 ·exact u i j h1 z
 ·have a:j=n:=by lia
  subst a;by_cases b:i=j-1
  ·rw[b];exact h
  ·exact bh (u i (j-1) (by lia) (by lia)) h
theorem HF.snoc{xs:Array Keyed}{n:Nat}(u:HF ws lo xs n)(h:kO ws lo xs n<kO ws lo xs (n-1)):HF ws lo xs (n+1):=λi j h1 h2=>by
 by_cases z:j<n
 ·exact u i j h1 z
 ·have a:j=n:=by lia
  subst a;by_cases b:i=j-1
  ·rw[b];exact h
  ·exact bh h (u i (j-1) (by lia) (by lia))
theorem zO(C:lj prog w A s κ ws a₀){xs:Array Keyed}(p:xs.Perm a₀){i j:Nat}(hi:lo+i<a₀.size)(a:lo+j<a₀.size)(b:i≠j):kO ws lo xs i≠kO ws lo xs j:=λe=>by
 have:=C.inj p hi a e;lia
theorem Gh(C:lj prog w A s κ ws a₀){st:SortSt}{l:Nat}{Q:Option Nat->SortSt->Prop}(hn:lo+l<=a₀.size)(h1:1<=l)(b:SoL κ a₀ lo st0 st)(h:∀m st',SoL κ a₀ lo st0 st'->1<=m->m<=l->wo ws lo (arrOf st') m->Q (Z m) st'):wpS (model prog w) A E s (countRun' lo l) Q st:=by
 have p:∀ {st:SortSt} {a:Nat} {f:Nat->Option (Option Nat)×Nat->StateT SortSt Sem (ForInStep (Option (Option Nat)×Nat))} {Q:Option (Option Nat)×Nat->SortSt->Prop},SoL κ a₀ lo st0 st->1<=a->a<=l->wo ws lo (arrOf st) a ->
   (∀x c,f x c=(ltAt' (lo+c.2) (lo+c.2-1) >>= λr=>match r with
    |some z=>if z=M then pure (ForInStep.done (Y,c.2))else pure (ForInStep.yield (Y,c.2+1))
    |_=>pure (ForInStep.done (Z Y,c.2)))) ->
   (∀n,a<=n->n<=l->wo ws lo (arrOf st) n->(n=l\/kO ws lo (arrOf st) n<kO ws lo (arrOf st) (n-1))->Q (Y,n) st)->wpS (model prog w) A E s (forIn [a:l] (Y,a) f) Q st:=λ{st a f Q} b R o u K H=>by
  refine wpS_forRange (λx c st'=>st'=st/\c=(Y,x)/\wo ws lo (arrOf st) x) ?_ ?_ ⟨O,O,u⟩
  ·rintro x c st' y v ⟨rfl,rfl,t⟩;rw[K];dsimp only;refine wpS_bind (C.cmpL b (by lia) (by lia) (by lia) ?_);have e:kR ws (arrOf st') (lo+x-1)=kO ws lo (arrOf st') (x-1):=by unfold kO;congr 1;lia
   rw[e];by_cases z:kO ws lo (arrOf st') x<kO ws lo (arrOf st') (x-1)
   ·rw[show decide (kR ws (arrOf st') (lo+x)<kO ws lo (arrOf st') (x-1))=M from ah z];exact wpS_pure (H x y (by lia) t (.inr z))
   ·rw[show decide (kR ws (arrOf st') (lo+x)<kO ws lo (arrOf st') (x-1))=J from ai z];have:=zO C b.perm (lo:=lo) (i:=x) (j:=x-1) (by lia) (by lia) (by lia);exact wpS_pure ⟨O,O,t.snoc (by lia)⟩
  ·rintro c st' ⟨rfl,rfl,t⟩;rw[Nat.max_eq_right o]at t ⊢;exact H l o (nR1 _) t (.inl O)
 rw[countRun'_eq];refine wpS_bind (p b (nR1 1) h1 .one (λx c=>rfl) λn h2 D u or=>?_);dsimp only;by_cases z:n=l
 ·rw[ak (by simpa using z)];exact wpS_pure (h n st b h2 D u)
 rw[aj (by simpa using z)];have P:=or.resolve_left z;by_cases G:n>1
 ·rw[ak G];have ao:=u 0 (n-1) (by lia) (by lia);refine wpS_bind (C.cmpL b (by lia) (by lia) (by lia) ?_);have e:kR ws (arrOf st) (lo+n-1)=kO ws lo (arrOf st) (n-1):=by unfold kO;congr 1;lia
  rw[e,show decide (kR ws (arrOf st) lo<kO ws lo (arrOf st) (n-1))=M from ah ao];exact wpS_pure (h n st b h2 D u)
 rw[aj G];have e:n=1:=by lia
 subst e;refine wpS_bind (wpS_lift (wpAny_rule ⟨O,?_⟩));refine wpS_bind (wpS_mono (wpS_forRange (λx c st'=>st'=st/\c=(Y,x,0)/\HF ws lo (arrOf st) x) (Q:=λc st'=>st'=st /\ ∃m,c=(Y,m,0)/\2<=m/\m<=l/\HF ws lo (arrOf st) m) ?_ ?_ ⟨O,O,λi j y v=>?_⟩) ?_)
 ·rintro x c st' y v ⟨rfl,rfl,q⟩;dsimp only;have e:kR ws (arrOf st') (lo+x-1)=kO ws lo (arrOf st') (x-1):=by unfold kO;congr 1;lia
  have ne:=zO C b.perm (lo:=lo) (i:=x) (j:=x-1) (by lia) (by lia) (by lia);refine wpS_bind (C.cmpL b (by lia) (by lia) (by lia) ?_);rw[e];by_cases z:kO ws lo (arrOf st') x<kO ws lo (arrOf st') (x-1)
  ·rw[show decide (kR ws (arrOf st') (lo+x)<kO ws lo (arrOf st') (x-1))=M from ah z];exact wpS_pure ⟨O,O,q.snoc z⟩
  ·rw[show decide (kR ws (arrOf st') (lo+x)<kO ws lo (arrOf st') (x-1))=J from ai z];refine wpS_bind (C.cmpL b (by lia) (by lia) (by lia) ?_);rw[e,show decide (kO ws lo (arrOf st') (x-1)<kR ws (arrOf st') (lo+x))=M from ah (by show kO ws lo (arrOf st') (x-1)<kO ws lo (arrOf st') x;lia)];exact wpS_pure ⟨O,x,O,by lia,by lia,q⟩
 ·rintro c st' ⟨rfl,rfl,q⟩;rw[Nat.max_eq_right (by lia)]at q ⊢;exact⟨O,l,O,by lia,nR1 _,q⟩
 ·have am:i=0:=by lia
  have N:j=1:=by lia
  subst am;subst N;exact P
 ·rintro c st' ⟨rfl,m,rfl,m1,m2,d⟩;dsimp only;rw[aj (by lia)];have B:lo+m<=(arrOf st').size:=by rw[b.perm.size_eq];lia
  have F:∀k,(mirror (arrOf st') lo (lo+m) ((lo+m-lo)/2))[k]?=if lo<=k/\k<lo+m then(arrOf st')[lo+(lo+m)-1-k]? else(arrOf st')[k]?:=λk=>getElem?_mirror_all B k
  have I:SoL κ a₀ lo st0 (setArr st' (mirror (arrOf st') lo (lo+m) ((lo+m-lo)/2))):=b.arr (mirror_perm _ _ _ _) λk au=>by rw[F,aj (by lia)]
  have g:∀k,k<m->kO ws lo (mirror (arrOf st') lo (lo+m) ((lo+m-lo)/2)) k=kO ws lo (arrOf st') (m-1-k):=λk au=>kq (by
   rw[F,ak (by lia)]
   congr 1;lia)
  refine wpS_bind (wpS_reverse (wpS_bind (p I (by lia) m2 (λi j D L=>?_) (λx c=>rfl) λn y v u _=>wpS_pure (h n _ I (by lia) v u))));show kO ws lo (mirror (arrOf st') lo (lo+m) ((lo+m-lo)/2)) i<kO ws lo (mirror (arrOf st') lo (lo+m) ((lo+m-lo)/2)) j;rw[g i (by lia),g j L];exact d _ _ (by lia) (by lia)
theorem GW(C:lj prog w A s κ ws a₀){st:SortSt}{n ok:Nat}{Q:Bool->SortSt->Prop}(hn:lo+n<=a₀.size)(G:ok<=n)(b:SoL κ a₀ lo st0 st)(u:wo ws lo (arrOf st) ok)(h:∀st',SoL κ a₀ lo st0 st'->wo ws lo (arrOf st') n->Q M st'):wpS (model prog w) A E s (binarySort' lo n ok) Q st:=by
 rw[binarySort'_eq];refine wpS_bind (wpS_mono (wpS_forRange (λk c st'=>c=(Y,())/\SoL κ a₀ lo st0 st'/\wo ws lo (arrOf st') (min k n)) (Q:=λc st'=>c=(Y,())/\SoL κ a₀ lo st0 st'/\wo ws lo (arrOf st') n) ?_ ?_ ⟨O,b,λi j h1 h2=>?_⟩) ?_)
 ·rintro k c st' am I ⟨rfl,f,d⟩;rw[bC (by lia)]at d;have q:lo+k<(arrOf st').size:=by rw[f.perm.size_eq];lia
  refine wpS_bind (wpS_mono (wpS_forRange (λx c a=>a=st' /\ ∃l r,c=(Y,l,r)/\l<=r/\r<=k/\r-l<=k-x/\(∀i,i<l->kO ws lo (arrOf st') i<kO ws lo (arrOf st') k) /\ ∀i,r<=i->i<k->kO ws lo (arrOf st') k<kO ws lo (arrOf st') i)
   (Q:=λc a=>a=st' /\ ∃l r,c=(Y,l,r)/\l<=k/\(∀i,i<l->kO ws lo (arrOf st') i<kO ws lo (arrOf st') k) /\ ∀i,l<=i->i<k->kO ws lo (arrOf st') k<kO ws lo (arrOf st') i) ?_ ?_ ⟨O,0,k,O,by lia,by lia,by lia,λi h1=>by lia,λi h1 h2=>by lia⟩) ?_)
  ·rintro x c a _ L ⟨rfl,l,r,rfl,h1,h2,t,p,o⟩;dsimp only;by_cases z:l>=r
   ·rw[ak z];have e:l=r:=by lia
    subst e;exact wpS_pure ⟨O,l,l,O,h2,p,o⟩
   ·rw[aj z];have K:(l+r)/2<k:=by lia
    refine wpS_bind (C.cmpL f (by lia) (by lia) (by lia) ?_);by_cases m:kO ws lo (arrOf a) k<kO ws lo (arrOf a) ((l+r)/2)
    ·rw[show decide (kR ws (arrOf a) (lo+k)<kR ws (arrOf a) (lo+(l+r)/2))=M from ah m];refine wpS_pure ⟨O,l,(l+r)/2,O,by lia,by lia,by lia,p,λi F H=>?_⟩;by_cases v:(l+r)/2=i
     ·rw[<- v];exact m
     ·exact bh m (d _ i (by lia) H)
    ·rw [show decide (kR ws (arrOf a) (lo+k)<kR ws (arrOf a) (lo+(l+r)/2))=false from decide_eq_false m];refine wpS_pure ⟨rfl,(l+r)/2+1,r,rfl,by lia,by lia,by lia,fun i F=>?_,o⟩;have y:kO ws lo (arrOf a) ((l+r)/2)<kO ws lo (arrOf a) k:=by
      have:=zO C f.perm (lo:=lo) (i:=k) (j:=(l+r)/2) (by lia) (by lia) (by lia);lia
     by_cases v:i=(l+r)/2
     ·rw[v];exact y
     ·exact bh (d i _ (by lia) (by lia)) y
  ·rintro c a ⟨rfl,l,r,rfl,h1,h2,t,p,o⟩;have e:l=r:=by lia
   subst e;exact⟨O,l,l,O,h2,p,o⟩
  ·rintro c a ⟨rfl,l,r,rfl,h1,h2,t⟩;show wpS _ _ _ _ (do moveDown' (lo+k) (lo+l);pure (ForInStep.yield (none,()))) _ _;rw [moveDown'_eq];have B:∀ i,(bubble (arrOf a) (lo+k) (lo+k-(lo+l)))[i]? = if i=lo+l then (arrOf a)[lo+k]? else if lo+l<i/\i<=lo+k then (arrOf a)[i-1]? else (arrOf a)[i]?:=fun i=>by
    have e:=getElem?_bubble q (lo+k-(lo+l)) (by lia) i;rw[show lo+k-(lo+k-(lo+l))=lo+l by lia]at e;exact e
   refine wpS_bind (wpS_modify (wpS_pure ⟨O,f.arr (bubble_perm _ _ _) λi hi=>by rw[B,aj (by lia),aj (by lia)],?_⟩));rw[bC (by lia)];have g:∀i,kO ws lo (bubble (arrOf a) (lo+k) (lo+k-(lo+l))) i=if i=l then kO ws lo (arrOf a) k else if l<i/\i<=k then kO ws lo (arrOf a) (i-1)else kO ws lo (arrOf a) i:=λi=>by
    have e:=B (lo+i);by_cases D:i=l
    ·rw[ak (by lia)]at e;rw[ak D];exact kq e
    ·rw[aj (by lia)]at e;rw[aj D];by_cases m:l<i/\i<=k
     ·rw[ak (by lia)]at e;rw[ak m];refine kq (e.trans ?_)
      congr 1;lia
     ·rw[aj (by lia)]at e;rw[aj m];exact kq e
   intro i j p o;show kO ws lo (bubble (arrOf a) (lo+k) (lo+k-(lo+l))) i<kO ws lo (bubble (arrOf a) (lo+k) (lo+k-(lo+l))) j;rw[g,g]
   repeat' split
   all_goals first
    |(exfalso;lia)
    |exact h2 _ (by lia)
    |exact t _ (by lia) (by lia)
    |exact d _ _ (by lia) (by lia)
 ·rintro c st' ⟨hc,f,d⟩;refine⟨hc,f,?_⟩
  rwa [show min (max (max ok 1) n) n=n by lia]at d
 ·by_cases z:ok=0
  ·lia
  ·exact u i j h1 (by lia)
 ·rintro c st' ⟨rfl,f,d⟩;exact wpS_pure (h st' f d)
end
theorem mP:∀{s:Nat} {rs:List (List Keyed)} {p:List (Nat×Nat×Nat)},fH s rs p->p.length=rs.length
 |_,[],[],_=>rfl
 |_,[],_::_,h=>by cases h
 |_,_::_,[],h=>by cases h
 |s,r::rs,(t,n,pw)::p,⟨_,_,h⟩=>by rw[lC1,lC1,mP h]
theorem ow:∀{s:Nat} {rs:List (List Keyed)} {p:List (Nat×Nat×Nat)} {r:List Keyed} {pw:Nat},fH s rs p->fH s (rs++[r]) (p++[(s+rs.flatten.length,r.length,pw)])
 |_,[],[],_,_,_=>⟨by simp,O,trivial⟩
 |_,[],_::_,_,_,h=>by cases h
 |_,_::_,[],_,_,h=>by cases h
 |s,r::rs,(t,n,pw)::p,r',pw',⟨e1,e2,h⟩=>by
  refine⟨e1,e2,?_⟩;have:=ow (r:=r') (pw:=pw') h
  rwa [bm,<- lA1,<- c8]at this
theorem rJ{g:Nat×Nat×Nat->Nat×Nat×Nat}(hg:∀x,(g x).1=x.1/\(g x).2.1=x.2.1):∀{s:Nat} {rs:List (List Keyed)} {p:List (Nat×Nat×Nat)} {k:Nat},fH s rs p->fH s rs (p.modify k g)
 |_,[],[],k,_=>by cases k<;>exact trivial
 |_,[],_::_,_,h=>by cases h
 |_,_::_,[],_,h=>by cases h
 |s,r::rs,(t,n,pw)::p,0,⟨e1,e2,h⟩=>by
  obtain⟨b,a⟩:=hg (t,n,pw);show fH s (r::rs) (g (t,n,pw)::p);exact⟨b.trans e1,a.trans e2,h⟩
 |s,r::rs,(t,n,pw)::p,k+1,⟨e1,e2,h⟩=>⟨e1,e2,rJ hg h⟩
section
variable{prog:dF}{w:dH}{A:dG}{E:dB->dD->Prop}{s:dD}{κ:SortKind}{ws:List dB}{a₀:Array Keyed}{rs:List (List Keyed)}{rest:List Keyed}{st st':SortSt}
theorem SR.size(h:SR ws κ a₀ rs rest st):rs.flatten.length+rest.length=a₀.size:=by
 have:=congrArg List.length h.ar;rw[aJ,h.pm.size_eq,lA1]at this;exact this.symm
theorem SR.many(h:SR ws κ a₀ rs rest st):rs.length<=rs.flatten.length:=by
 have:∀{l:List (List Keyed)},(∀r∈l,r≠[])->l.length<=l.flatten.length:=by
  intro l
  induction l with
  |nil=>intro _;exact nR1 _
  |cons r l ih=>
   intro a;have h1:=ih λx b=>a x (mC1 _ b);have h2:0<r.length:=da.mpr (a r mS1);rw[lC1,c8,lA1];lia
 exact this λr a=>(h.so r a).2
theorem SoL.sr(h:SR ws κ a₀ rs rest st)(b:SoL κ a₀ rs.flatten.length st st'):SR ws κ a₀ rs ((arrOf st').toList.drop rs.flatten.length) st':=by
 refine⟨b.kind,b.failed.trans h.f,b.perm,?_,h.so,by rw[b.pend];exact h.pe⟩;have:(arrOf st').toList.take rs.flatten.length=rs.flatten:=by
  have e:(arrOf st).toList.take rs.flatten.length=rs.flatten:=by rw[h.ar,de]
  rw[<- e];refine b5 λi=>?_;by_cases hi:i<rs.flatten.length
  ·rw[e,aS hi,<- e,aS hi,aT1,aT1];exact b.pre i hi
  ·rw[e,b6 (by rw[aQ];lia),b6 (by lia)]
 conv=>lhs;rw[<- cK rs.flatten.length (arrOf st').toList,this]
theorem uV{lo n:Nat}(hp:(arrOf st').Perm a₀)(hn:lo+n<=a₀.size)(u:wo ws lo (arrOf st') n):Srt ws (((arrOf st').toList.drop lo).take n):=by
 refine cw.mpr λi j hi b a=>?_;rw[aQ,aV]at hi b;have:=u i j a (by lia);have c:=hp.size_eq;rw[aJ]at hi b;unfold kO kR at this;rw[aG1 (show lo+i<(arrOf st').size by lia),aG1 (show lo+j<(arrOf st').size by lia)]at this;simpa using this
theorem Ht(C:lj prog w A s κ ws a₀){Q:Unit->SortSt->Prop}(h0:SR ws κ a₀ [] a₀.toList st)(h2:2<=a₀.size)(q:∀st',(arrOf st').Perm a₀->failedOf st'=Y->Srt ws (arrOf st').toList->Q () st'):wpS (model prog w) A E s sortRuns' Q st:=by
 rw[sortRuns'_eq];refine wpS_bind (wpS_get ?_);dsimp only;generalize minRun' (arrOf st).size (arrOf st).size 0=mr;rw[h0.pm.size_eq];refine wpS_bind (wpS_mono (wpS_forRange (λx c st'=>∃rs rest,SR ws κ a₀ rs rest st'/\c=(Y,rs.flatten.length)/\x<=rs.flatten.length)
  (Q:=λc st'=>∃rs lo,SR ws κ a₀ rs [] st'/\c=(Y,lo)) ?_ ?_ ⟨[],a₀.toList,h0,O,nR1 _⟩) ?_)
 ·rintro x c st' _ V ⟨rs,rest,h,rfl,au⟩;have D:=h.size;dsimp only;by_cases z:rs.flatten.length>=a₀.size
  ·rw[ak z];have e:rest=[]:=cu.mp (by lia);subst e;exact wpS_pure ⟨rs,_,h,O⟩
  rw[aj z];refine wpS_bind (Gh (lo:=rs.flatten.length) (st0:=st') C (by lia) (by lia) ⟨h.pm,h.k,O,O,λ_ _=>rfl⟩ λm st2 b m1 m2 u=>?_);dsimp only;have B:=b.sr h;have W:=B.size;refine(λ(t:∀(n:Nat) (j:SortSt) (a:List Keyed),SR ws κ a₀ rs a j->Srt ws (a.take n)->1<=n->n<=a.length->(?T:Nat->SortSt->Prop) n j)=>?go) ?mn
  case go=>
   by_cases aq:m<mr
   ·rw[ak aq];refine wpS_bind (wpS_lift (wpAny_rule ⟨O,?_⟩));refine wpS_bind (GW (lo:=rs.flatten.length) (st0:=st') C (n:=min (a₀.size-rs.flatten.length) mr) (by lia) (by lia) b u λj b3 u3=>?_);simp only[b7,bF1,if_false];have I:=b3.sr h;have T:=I.size;have l:=uV b3.perm (by lia) u3;have g1:1<=min (a₀.size-rs.flatten.length) mr:=by lia
    have F:min (a₀.size-rs.flatten.length) mr<=((arrOf j).toList.drop rs.flatten.length).length:=by lia
    generalize min (a₀.size-rs.flatten.length) mr=n at l g1 F ⊢;exact t n j _ I l g1 F
   ·rw[aj aq];have l:=uV b.perm (by lia) u;have F:m<=((arrOf st2).toList.drop rs.flatten.length).length:=by lia
    generalize hst:st2=j at B l F ⊢;generalize hmn:m=n at l m1 F ⊢;exact t n j _ B l m1 F
  intro n j a K hs n1 am;refine wpS_bind (wpS_get ?_);have wq:=K.size;refine(λ(p:∀(f:List (List Keyed)) (d:SortSt),SR ws κ a₀ f a d->(?T2:SortSt->Prop) d)=>?go2) ?mn2
  case go2=>
   cases hb:(pendingOf j).back? with
   |none=>
    dsimp only;exact p rs j K
   |some q1=>
    obtain⟨R,y,pw1⟩:=q1;dsimp only;generalize power' a₀.size (2*R+y) (2*R+y+y+n) a₀.size=pv;refine wpS_bind (wpS_mono (wpS_forRange (λx c d=>c=(Y,()) /\ ∃f,SR ws κ a₀ f a d) (Q:=λc d=>c=(Y,()) /\ ∃f,SR ws κ a₀ f a d) ?_ (λ_ _ h=>h) ⟨O,rs,K⟩) ?_)
    ·rintro x c d _ V ⟨rfl,f,k⟩;have v:=mP k.pe;rw[aJ]at v;refine wpS_bind (wpS_get ?_);by_cases X:(pendingOf d).size>1
     ·rw[ak X,aG1 (show(pendingOf d).size-2<(pendingOf d).size by lia)];generalize (pendingOf d)[(pendingOf d).size-2]'(by lia)=pq;obtain⟨pa,pb,pc⟩:=pq;dsimp only;by_cases U:pc<=pv
      ·rw[ak U];exact wpS_pure ⟨O,f,k⟩
      ·rw[aj U];refine wpS_bind (k.merge C (i:=(pendingOf d).size-2) (gG1 (by lia)) (gG1 (by lia)) λr o G=>?_);simp only[b7,bF1,if_false];exact wpS_pure ⟨O,_,G⟩
     ·rw[aj X];exact wpS_pure ⟨O,f,k⟩
    ·rintro c d ⟨rfl,f,k⟩;dsimp only;refine wpS_bind (wpS_modify ?_);refine p f _ ⟨k.k,k.f,k.pm,k.ar,k.so,?_⟩;show fH 0 f ((pendingOf d).modify ((pendingOf d).size-1) _).toList;rw[Array.toList_modify];exact rJ (g:=λx=>(x.1,x.2.1,pv)) (λx=>⟨O,O⟩) k.pe
  intro f d k;have S:=k.size;have H:rs.flatten.length=f.flatten.length:=by lia
  refine wpS_bind (wpS_modify (wpS_pure ⟨f++[a.take n],a.drop n,⟨k.k,k.f,k.pm,?_,?_,?_⟩,?_,?_⟩))
  ·refine k.ar.trans ?_;rw[db,bI];simp
  ·intro r N;rcases aG.mp N with L|L
   ·exact k.so r L
   ·rw[cY.mp L];exact⟨hs,λe=>by have:=congrArg List.length e;rw[aQ,bf]at this;lia⟩
  ·show fH 0 _ ((pendingOf d).push (rs.flatten.length,n,0)).toList;rw[cA,H];have:=ow (r:=a.take n) (pw:=0) k.pe
   rwa [bP,aQ,bC am]at this
  ·rw[db,lA1,H,List.flatten_singleton,aQ,bC am]
  ·rw[db,lA1,List.flatten_singleton,aQ,bC am];lia
 ·rintro c st' ⟨rs,rest,h,rfl,au⟩;have D:=h.size;have e:rest=[]:=cu.mp (by lia);subst e;exact⟨rs,_,h,O⟩
 ·rintro c st' ⟨rs,lo,h,rfl⟩;dsimp only;have D:=h.size;rw[bf,Nat.add_zero]at D;have ao:=h.many;refine wpS_bind (wpS_mono (wpS_forRange (λx c st2=>c=(Y,()) /\ ∃rs,SR ws κ a₀ rs [] st2/\rs.length+x<=a₀.size) (Q:=λc st2=>c=(Y,()) /\ ∃rs,SR ws κ a₀ rs [] st2/\rs.length<=1) ?_ ?_ ⟨O,rs,h,by lia⟩) ?_)
  ·rintro x c st2 _ V ⟨rfl,rs,h,P⟩;have v:=mP h.pe;rw[aJ]at v;refine wpS_bind (wpS_get ?_);by_cases z:(pendingOf st2).size<=1
   ·rw[ak z];exact wpS_pure ⟨O,rs,h,by lia⟩
   rw[aj z];have mg:∀i,i+1<rs.length -> ∀{Q:Bool->SortSt->Prop},(∀r o,SR ws κ a₀ r [] o->r.length+1=rs.length->Q M o)->wpS (model prog w) A E s (mergeAt' i) Q st2:=λi hi Q hq=>
    h.merge C (i:=i) (gG1 (by lia)) (gG1 hi) λr o G=>hq _ o G (by rw[lA1,lC1,aQ,aV];lia)
   refine wpS_bind (mg _ ?_ λr o G hl5=>?_)
   ·split<;>lia
   ·simp only[b7,bF1,if_false];exact wpS_pure ⟨O,r,G,by lia⟩
  ·rintro c st2 ⟨rfl,rs,h,P⟩;exact⟨O,rs,h,by lia⟩
  ·rintro c st2 ⟨rfl,rs,h,P⟩;refine wpS_pure (q st2 h.pm h.f ?_);rw[h.ar,aM]
   match rs,P,h.so with
   |[],_,_=>exact .nil
   |[r],_,so=>simpa using(so r (by simp)).1
end
theorem DE{ws:List dB}{xs a₀:Array Keyed}(p:xs.Perm a₀)(h:Srt ws xs.toList):Up ws xs a₀.size:=λi j a b=>by
 have c:=p.size_eq;have:=cw.mp h i j (by rw[aJ];lia) (by rw[aJ];lia) a;unfold kR;rw[aG1 (show i<xs.size by lia),aG1 (show j<xs.size by lia)];simpa using this
section
variable{prog:dF}{w:dH}{A:dG}{E:dB->dD->Prop}{s:dD}
theorem yu {a:dE}{vs ws:List dB}{n:Nat}{κ:SortKind}{P:Fin->dD->Prop}(ho:s.heap.get? a=some (seqObj "list" vs.toArray n))(v:vs.length<=dL)(hp:vs.Perm ws)
  (m:∀h',(∀b o,b≠a->s.heap.get? b=Z o->h'.get? b=Z o)->2<=vs.length->lj prog w A {s with heap:=h'} κ ws (pairsOf vs) /\ ∀Q:SortKind->dD->Prop,Q κ {s with heap:=h'}->dM (model prog w) A (keyKind' vs.toArray) Q E {s with heap:=h'})
  (h:P (.done (.ret .none)) {s with heap:=sortedHeap s.heap a vs ws.toArray}):dM (model prog w) A (Builtin.«list.sort» ⟨[.ref a],[]⟩) P E s:=by
 rw[list_sort_plain];have u:a<s.heap.objs.size:=hL1 ho;refine wB1 (listItems_at ho O ?_);refine wB1 (listUpdate_at ho O ?_);obtain⟨i,g⟩:∃i,(s.heap.update a (Obj.mapSeq λ_=> #[])).get? a=some (seqObj "list" #[] i):=⟨_,get?_update_seq ho (λ_=> #[])⟩;refine wB1 (seqEpoch_at g O (wB1 (wpAny_newTuple (wB1 (wpAny_newList (wpAny_holding ?_))))));have keep:∀b o,b≠a->s.heap.get? b=Z o->(((s.heap.update a (Obj.mapSeq λ_=> #[])).push (seqObj "tuple" vs.toArray 0)).push (seqObj "list" #[] 0)).get? b=Z o:=λb o l e=>
  hP1 _ (hP1 _ (by rw[hU1 _ _ _ _ l];exact e))
 have c:(((s.heap.update a (Obj.mapSeq λ_=> #[])).push (seqObj "tuple" vs.toArray 0)).push (seqObj "list" #[] 0)).get? a=Z (seqObj "list" #[] i):=hP1 _ (hP1 _ g);show dM (model prog w) A _ P E {s with heap:=((s.heap.update a (Obj.mapSeq λ_=> #[])).push (seqObj "tuple" vs.toArray 0)).push (seqObj "list" #[] 0)};dsimp only;have p:vs.toArray.size=vs.length:=by simp
 have f:=hp.length_eq;have d:∀xs:Array Keyed,xs.map (·.2)=ws.toArray->P (.done (.ret .none)) {s with heap:=sortedHeap s.heap a vs (xs.map (·.2))}:=λxs e=>by rw[e];exact h
 by_cases h2:vs.toArray.size<2
 ·rw [if_pos h2,if_pos h2];refine wB1 (wP1 ?_);rw [StateT.run_pure];refine wB1 (wP1 (wB1 (seqEpoch_at c rfl ?_)));have e:((vs.toArray.zip vs.toArray).map (·.2):Array dB)=ws.toArray:=by
   have:vs=ws:=by
    match vs,ws,hp,h2 with
    |[],ws,hp,_=>exact(List.nil_perm.mp hp).symm
    |[x],ws,hp,_=>exact(List.singleton_perm.mp hp).symm ▸ rfl
    |_::_::_,_,_,h2=>simp at h2;lia
   subst this;apply Array.ext';simp;exact List.map_snd_zip (nR1 _)
  refine wB1 (listUpdate_at c O ?_ (hsz2:=by
   show(Array.map (·.2) (vs.toArray.zip vs.toArray)).size<=_;rw[e,sT1,<- f];lia))
  simp only[bne_self_eq_false,bF1,if_false];exact wP1 (d _ e)
 ·rw [if_neg h2,if_neg h2];obtain ⟨C,K⟩:=m _ keep (by lia);refine wB1 (K _ ?_);refine wB1 (wpAny_mono (Ht C (st:=SortSt.mk' κ (vs.toArray.zip vs.toArray) #[] 7 none)
   (Q:=λ_ st'=>(arrOf st').Perm (pairsOf vs)/\failedOf st'=Y/\Srt ws (arrOf st').toList) ⟨O,O,Array.Perm.refl _,O,(λr k=>by cases k),trivial⟩ (by rw[pairsOf_size];lia) λst' a1 a2 a3=>⟨a1,a2,a3⟩) ?_ λ_ _ e=>e)
  rintro⟨⟨⟩,st'⟩ s' ⟨rfl,j,t,q⟩;have e:=DH C j (DE j q);refine wB1 (seqEpoch_at c O ?_);refine wB1 (listUpdate_at c O ?_ (hsz2:=by
   show(Array.map (·.2) (arrOf st')).size<=_;rw[e,sT1,<- f];lia))
  rw[t];simp only[bne_self_eq_false,bF1,if_false];exact wP1 (d _ e)
theorem t0 {v:dB}{vs ws:List dB}{κ:SortKind}{Q:dB->dD->Prop}(k:vs.length<=dL)(g:vs.Perm ws)
  (d:∀(E:dB->dD->Prop) (Q:List dB->dD->Prop),(∀h',(∀b u,s.heap.get? b=Z u->h'.get? b=Z u)->s.heap.objs.size<=h'.objs.size->Q vs {s with heap:=h'})->dM (model prog w) A.in1 (collect v) Q E s)
  (o:∀a:dN,(∀b u,s.heap.get? b=Z u->a.get? b=Z u)->lj prog w A.in1.in1 {s with heap:=a} κ ws (pairsOf vs) /\
   (vs≠[] -> ∀(E:dB->dD->Prop) (Q:SortKind->dD->Prop),Q κ {s with heap:=a}->dM (model prog w) A.in1.in1 (keyKind' vs.toArray) Q E {s with heap:=a}))
  (f:∀(a:dN) (L:dE) (n:Nat),(∀b u,s.heap.get? b=Z u->a.get? b=Z u)->s.heap.objs.size<=L->a.get? L=Z (seqObj "list" ws.toArray n)->Q (.ref L) {s with heap:=a}):
  dM (model prog w) A (call (.builtin "sorted") [v]) Q E s:=by
 refine Calls.call_function_entry kind_sorted plain_sorted entry_sorted (args_sorted1 _) ?_;unfold Builtin.«sorted»;refine wB1 (m:=checkCount "sorted" 1 1 _) (wP1 ?_);refine wB1 (d _ _ λh' keep i=>?_);refine wB1 (wpAny_newList (hsz:=k) ?_);have c:(h'.push (seqObj "list" vs.toArray 0)).get? h'.objs.size=Z (seqObj "list" vs.toArray 0):=hS1 _ O;show dM _ _ _ _ _ {s with heap:=h'.push (seqObj "list" vs.toArray 0)};refine wB1 (wpAny_holding (wE1 slot_list_sort ⟨_,c,O⟩ entry_list_sort (yu (s:={s with heap:=h'.push (seqObj "list" vs.toArray 0)}) (κ:=κ) (ws:=ws) c k g (λa l h2=>?_) ⟨_,O,?_⟩) (args_list_sort _)))
 ·have:=o a λb u e=>l b u (nN1 (hL1 (keep b u e))) (hP1 _ (keep b u e));exact⟨this.1,this.2 (λz=>by rw[z]at h2;simp at h2) _⟩
 ·obtain⟨n,h⟩:=sortedHeap_at (out:=ws.toArray) c;refine wP1 ⟨_,O,f _ h'.objs.size n (λb u e=>?_) i h⟩;have j:b<h'.objs.size:=hL1 (keep b u e);show(sortedHeap (h'.push (seqObj "list" vs.toArray 0)) h'.objs.size vs ws.toArray).get? b=Z u;rw[sortedHeap_old (nN1 j) (by rw[hZ1];exact cI j)];exact hP1 _ (keep b u e)
end
noncomputable def nj:G1:=λd S=>match d6 S d with
 |some (M,xs)=>(m9 xs).bind λ_=>if(md xs&&(lA (jQ xs)&&decide (xs.length<=100000)))=M then Z (.ref S.length,S++[.lst (jQ xs)])else Y
 |_=>Y
section
variable{X:Cx}
theorem CB(V:X.A.units+64<cLine):fj X (.builtin "sorted") (rN X.K (b1 nj)):=by
 intro ag s σ H xs T Q I r h;obtain⟨x,mu,S,d,P,U,rfl,z,m,g,hc⟩:=DQ h;unfold nj at g;split at g
 ·rename_i ds F;obtain⟨f,B,g⟩:=oB1.mp g;split at g
  ·rename_i c;cases g;rw[bA1,bA1,al]at c;obtain⟨a,vs,rfl,q,t⟩:=ev z m F;obtain⟨u,rfl,r2⟩:=iK r;cases r2;obtain⟨j,v,G,R⟩:=I.list q;have l:j.length=ds.length:=by rw[<- v.length,<- t.length]
   have i:j.length<=dL:=by rw[l,sizeLine_eq];lia
   obtain⟨w,zs,C,am,D,N,K⟩:=DG I m (A:=X.A.in1.in1) (by show X.A.units+1+1+60<cLine;lia) (f:=f) t v c.1 (uA B) c.2.1;refine t0 i D (λE Q q=>?_) K (λau L n keep y p=>?_)
   ·refine collect_list G.isList (q _ (λb u e=>?_) ?_) i
    ·have ao:b<s.heap.objs.size:=hL1 e;rw[hU1 _ _ _ _ (nN1 ao)];exact hP1 _ e
    ·rw[Heap.size_update,hZ1];exact aX _
   ·have k:H L=Y:=I.hok.fresh y;refine⟨.ref L,_,I.laid (t':=s.toks) (o:=.lst w) keep y ⟨?_,zs,n,am,p⟩,O,hc _ _ (mu++[L]) (Ext.new_ k) (.ref (fZ m.len _)) (m.newL C k)⟩;rw[N,v.length];exact i
  ·cases g
 ·cases g
end
theorem oX:entryFor table "dict.update.loop"=Z Builtin.«dict.update.loop» :=entryFor_of_tree (by kernel_rfl)
theorem jh:plainId "dict.update.loop"=M:=by decide+kernel
theorem wN:typeLookup (.type "list") (Str.ofString "keys")=pure Y:=by rw[typeLookup_type,builtinLookup_eq_fast];kernel_rfl
section
variable{P:dF}{w:dH}{A:dG}{E:dB->dD->Prop}{s:dD}
theorem xD {a:dE}{xs:Array dB}{k:Nat}{sl:Array (Option dB)}{Q:Option dB->dD->Prop}(hx:s.heap.get? a=some {cls:=.type "list",dict:=none,data:=.seq xs k,slots:=sl})(j:A.handled=none)
  (h:∀h' tk,(∀b o,s.heap.get? b=Z o->h'.get? b=Z o)->Q Y {s with heap:=h',toks:=tk}):dM (model P w) A (getAttr? (.ref a) (Str.ofString "keys")) Q E s:=by
 obtain⟨m,g,d,tk,l⟩:=s;have i:∀c,(⟨m,g,d,c,l⟩:dD).TypeIs (.ref a) "list":=λ_=>⟨_,hx,O⟩;have v:=sub_AttributeError;have u:=PySem.F.slot_list_getattribute.lookup;have t:=PySem.F.slot_list_getattribute.bind (.ref a);have q:=am_list_getattr_none;unfold getAttr? getAttrBy? getAttrBy
 repeat(any_goals (first|assumption|exact i _|((with_reducible show dM _ _ (call (Value.builtin "list.__getattribute__") _ _) _ _ _);refine call_meets PySem.F.slot_list_getattribute (i _) am_entry_list_getattribute (PySem.F.args_list_getattribute_2 _ _) (meets_getattribute_miss_list a xs k sl _ _ wN (by decide) (by decide)) ⟨hx,j,λh' c e f=>?_⟩)|wp_step))
 obtain⟨r,p,n⟩:=f.there;show dM _ _ (getattributeRaised _ _ _ _ _ _ _) _ _ _;unfold getattributeRaised
 repeat(any_goals (first|assumption|wp_step))
 exact h _ _ f.keeps
variable{K:Type} [DecidableEq K] {knd:HeapKind P w K}
abbrev tG(K:Type):=K×dE×dB
noncomputable def gx(ps:List (tG K)):List (tG K):=ps.foldl (λa q=>storedH a q.1 q.2.1 q.2.2) []
theorem ro(xs:List (tG K))(k:K)(a:dE)(v:dB):(storedH xs k a v).length<=xs.length+1:=by
 unfold storedH;split
 ·rw[lM1];exact aX _
 ·rw[lA1];exact nR1 _
theorem oS:∀(ps acc:List (tG K)),(ps.foldl (λa q=>storedH a q.1 q.2.1 q.2.2) acc).length<=acc.length+ps.length
 |[],acc=>nR1 _
 |p::ps,acc=>by
  rw[cb,lC1];have h1:=oS ps (storedH acc p.1 p.2.1 p.2.2);have h2:=ro acc p.1 p.2.1 p.2.2;lia
theorem uD{ps:List (tG K)}{i:Nat}{q:tG K}(h:ps[i]?=Z q):gx (ps.take (i+1))=storedH (gx (ps.take i)) q.1 q.2.1 q.2.2:=by
 unfold gx;rw[cH,h,List.foldl_append];rfl
theorem sE{F:tG K->Prop}(c:∀(k:K) (a:dE) (v e:dB),F (k,a,v)->F (k,a,e)):∀(ps acc:List (tG K)),(∀x∈ps,F x)->(∀x∈acc,F x) -> ∀x∈ps.foldl (λa q=>storedH a q.1 q.2.1 q.2.2) acc,F x
 |[],acc,_,h=>h
 |p::ps,acc,hp,h=>by
  rw[cb];refine sE c ps _ (λx b=>hp x (mC1 _ b)) λx b=>?_;unfold storedH at b;split at b
  ·obtain⟨y,d,rfl⟩:=ci.mp b;unfold putAt;split
   ·exact c _ _ y.2.2 _ (h y d)
   ·exact h y d
  ·rcases aG.mp b with z|z
   ·exact h x z
   ·simp at z;subst z;exact hp p mS1
theorem Ae{h:dN}{ps:List (tG K)}(hp:∀x∈ps,knd.is h x.1 x.2.1):∀x∈gx ps,knd.is h x.1 x.2.1:=
 sE (F:=λx=>knd.is h x.1 x.2.1) (λ_ _ _ _ z=>z) ps [] hp λx a=>by cases a
theorem xl{d l it:dE}{h0:dN}{its:Array dB}{ps:List (tG K)}{R:Result->dD->Prop}(hh:A.handled=none)(hu:knd.room A.in1)(y:its.size=ps.length)(hps:ps.length<=dL)(S:h0.IsList l its)(nd:h0.get? d=none)(ni:h0.get? it=none)(g:d≠it)(f:∀(h:dN) (k:K) (a:dE),(∀c o,h0.get? c=some o->h.get? c=some o)->knd.is h0 k a->knd.is h k a)(V:∀(i:Nat) (q:tG K),ps[i]?=some q -> ∃C:dE,its[i]?=some (Value.ref C)/\h0.IsTuple C #[Value.ref q.2.1,q.2.2]/\knd.is h0 q.1 q.2.1):
  ∀(n i:Nat) (s:dD),its.size-i=n->i<=its.size->(∀c o,h0.get? c=Z o->s.heap.get? c=Z o)->s.heap.IsListIter it l i->s.heap.DictOfH knd d (gx (ps.take i)) ->
  (∀h' tk,(∀c o,h0.get? c=Z o->h'.get? c=Z o)->h'.DictOfH knd d (gx ps)->R (.ok (.ret .none)) {s with heap:=h',toks:=tk})->codeAny (model P w) A (.builtin "dict.update.loop" ⟨[.ref d,.ref it,.int i 0,.none],[]⟩) R s:=by
 have D:∀{c:dE} {o:Obj},h0.get? c=Z o->c≠d/\c≠it:=λ{c o} e=>⟨λz=>(by rw[z,nd]at e;cases e),λz=>(by rw[z,ni]at e;cases e)⟩;have v:∀i,∀x∈gx (ps.take i),knd.is h0 x.1 x.2.1:=λi=>Ae λx m=>by
  obtain⟨j,hj⟩:=br (cO m);obtain⟨_,_,_,h⟩:=V j x hj;exact h
 intro n
 induction n with
 |zero=>
  intro i s hk hi keep st Q q;have e:i=its.size:=by lia
  subst e;have p:s.heap.IsList l its:=by obtain⟨o,e,r⟩:=S;exact⟨o,keep _ _ e,r⟩
  refine wD1 oX (?_:_);rw[Around.under_plainId jh _];show dM _ A.in1 (pyNext (.ref it) >>= _) _ _ s;refine wB1 (wpAny_pyNext_list_end (by simpa using hh) st p (by simp) λh' am=>?_);refine wB1 (wP1 (wP1 ?_));refine q h' s.toks (λc o e=>am c o (D e).2 (keep c o e)) ?_;have t:h'.DictOfH knd d (gx (ps.take its.size)):=by
   obtain⟨o,es,ep,au,E,ao,H,g5,F⟩:=Q;have wq:∀x∈gx (ps.take its.size),knd.is h' x.1 x.2.1:=λx m=>f _ _ _ (λc o e=>am c o (D e).2 (keep c o e)) (v _ x m);exact⟨o,es,ep,am d o g au,E,ao,H,wq,F⟩
  rw[y,b4]at t;exact t
 |succ n ih=>
  intro i s hk hi keep st Q q;have N:i<its.size:=by lia
  have p:s.heap.IsList l its:=by obtain⟨o,e,r⟩:=S;exact⟨o,keep _ _ e,r⟩
  obtain⟨pr,u⟩:∃pr,ps[i]?=some pr:=⟨_,gG1 (by lia)⟩;obtain⟨C,m,⟨op,U,hc,np,hd⟩,L⟩:=V i pr u;refine wD1 oX (?_:_);rw[Around.under_plainId jh _];show dM _ A.in1 (pyNext (.ref it) >>= _) _ _ s;refine wB1 (wpAny_pyNext_list_item st p m λh' st' W=>?_);have b:∀c o,h0.get? c=Z o->h'.get? c=Z o:=λc o e=>by rw[W.2 c (D e).2];exact keep c o e
  have G:h'.DictOfH knd d (gx (ps.take i)):=by
   obtain⟨o,es,ep,au,E,ao,H,g5,F⟩:=Q;exact⟨o,es,ep,by rw[W.2 d g];exact au,E,ao,H,λx m=>f _ _ _ b (v _ x m),F⟩
  show dM _ A.in1 (holding [Value.ref C] _ >>= _) _ _ _;refine wB1 (wpAny_holding (wB1 (wpAny_tryCatch ?_)));unfold Builtin.Dict.pairItems;refine wB1 (wpAny_typeOf (T:="tuple") ⟨op,b _ _ U,hc⟩ ?_);rw[ak (by decide)];refine wB1 (wpAny_seqItems (b _ _ U) hd (wP1 ?_));dsimp only[b9];refine wpAny_holding (wpAny_dictSet_heap (s:={s with heap:=h'}) hu (f _ _ _ b L) G (λh2 I B=>?_) ?_)
  ·refine wP1 ⟨plainId_quiet jh _,?_⟩;have hq:=ih (i+1) {s with heap:=h2,toks:=s.toks+knd.draws pr.1} (by lia) N (fun c o e=>by rw [B.2 c (D e).1];exact b c o e) (by
    obtain⟨o,X,e2⟩:=st';exact⟨o,by rw[B.2 it (Ne.symm g)];exact X,e2⟩) (by rw[uD u];exact I) λh3 tk aq x3=>q h3 tk aq x3
   exact hq
  ·have:=oS (ps.take i) [];unfold gx;rw[aQ]at this;simp at this;lia
theorem uK {l:dE}{xs:Array dB}{kl:Nat}{sl:Array (Option dB)}{Q:dB->dD->Prop}(m:A.handled=none)(hx:s.heap.get? l=some {cls:=.type "list",dict:=none,data:=.seq xs kl,slots:=sl})
  (j:∀(i:dG) (h1:dN) (tk:Nat) (it:dE),i.handled=Y->i.units<=A.units+2->(∀b o,s.heap.get? b=Z o->h1.get? b=Z o)->s.heap.get? it=Y->s.heap.objs.size≠it->h1.IsListIter it l 0->h1.DictOfH knd s.heap.objs.size [] ->
   ∀R:Result->dD->Prop,(∀s',Q (.ref s.heap.objs.size) s'->R (.ok (.ret .none)) s')->codeAny (model P w) i (.builtin "dict.update.loop" ⟨[.ref s.heap.objs.size,.ref it,.int 0 0,.none],[]⟩) R {s with heap:=h1,toks:=tk}):
  dM (model P w) A (call (.type "dict") [.ref l]) Q E s:=by
 refine callType_codes (Q₁:=λh f=>h = .ref s.heap.objs.size/\f={s with heap:=s.heap.push {cls:=.type "dict",data:=.dict #[]}}) PySem.F.kt_called_dict (PySem.F.kt_typeCall_dict_1 _) PySem.F.entry_dict_init (kt_code_dict_new _ ⟨O,O⟩) ?_;rintro h f ⟨rfl,rfl⟩;have d:(s.heap.push {cls:=.type "dict",data:=.dict #[]}).DictOfH knd s.heap.objs.size []:=Heap.DictOfH.new s.heap;have n:Shared.TypeIs {s with heap:=s.heap.push {cls:=.type "dict",data:=.dict #[]}} (.ref s.heap.objs.size) "dict":=d.typeIs;have g:(s.heap.push {cls:=.type "dict",data:=.dict #[]}).get? l=Z {cls:=.type "list",dict:=Y,data:=.seq xs kl,slots:=sl}:=hP1 _ hx;refine⟨n,PySem.F.args_dict_init_2 _ _,?_⟩;unfold Builtin.«dict.__init__»;refine wB1 ?_;unfold Builtin.Dict.selfAndRest;refine wB1 (wpAny_notOrdered_dict n ?_);show dM _ _ (pure (s.heap.objs.size,[Value.ref l])) _ _ _;refine wP1 ?_;show dM _ _ (Builtin.Dict.updateFrom "dict.__init__" s.heap.objs.size (.ref l) [] .none) _ _ _;unfold Builtin.Dict.updateFrom;refine wB1 (wpAny_typeOf (T:="list") ⟨_,g,O⟩ ?_);rw[ak (by decide)];refine wB1 (xD (s:={s with heap:=s.heap.push {cls:=.type "dict",data:=.dict #[]}}) g (by simpa using m) λh1 tk keep=>?_);rw[ak (show(Y:Option dB).isNone=M from rfl)];have a:∀b o,s.heap.get? b=Z o->h1.get? b=Z o:=λb o e=>keep b o (hP1 _ e);have r:h1.IsList l xs:=⟨_,a _ _ hx,O,kl,O⟩;refine wB1 (wpAny_rule (wB1 (wpAny_pyIter_list (s:={s with heap:=h1,toks:=tk}) r ?_)));obtain⟨v,es,ep,B,t,z,y,C,u⟩:=d;have p:=keep _ _ B;have k:=hL1 p;have c:h1.get? h1.objs.size=Y:=Heap.get?_none_of_le (nR1 _);refine wB1 (wP1 (wP1 ⟨plainId_quiet jh _,?_⟩));refine j A.in1 _ tk h1.objs.size (by simpa using m) (aX _) (λb o e=>hP1 _ (a b o e)) ?_ (nN1 k) ?_ ?_ _ λs' q=>⟨O,q⟩
 ·cases e:s.heap.get? h1.objs.size with
  |none=>rfl
  |some o=>rw[a _ _ e]at c;cases c
 ·exact⟨_,hS1 _ O,O,O⟩
 ·exact⟨v,es,ep,hP1 _ p,t,z,y,(λx hx=>by cases hx),u⟩
end
noncomputable def Jw(F:List (TK×D)):Ob:=match F with
 |[]=>.dct []
 |_=>.dcT F
noncomputable def vo:D->Option (TK×D)
 | .tup [k,v]=>(keyT k).map λk=>(k,v)
 |_=>Y
noncomputable def iR:List D->Option (List (TK×D))
 |[]=>Z []
 |x::xs=>(vo x).bind λp=>(iR xs).map (p :: ·)
noncomputable def lI(ps:List (TK×D)):List (TK×D):=ps.foldl (λF p=>e6 F p.1 p.2) []
noncomputable def nl:G1:=λd S=>match d6 S d with
 |some (M,xs)=>(iR xs).bind λps=>if xs.length<=100000 then Z (.ref S.length,S++[Jw (lI ps)])else Y
 |_=>Y
section
variable{X:Cx}{ag:List (dE×Obj)}{σ:L2.St}{H:Hp}{s:dD}{mu:List dE}
theorem za(I:Inv X ag σ H s){d:D}{v:V}{u:dB}{p:TK×D}(r:eJ X.K H mu d v)(q:d7 v u)(h:vo d=some p):
  ∃w:tG TK,(p.1=w.1/\p.1.dep<=8/\eJ X.K H mu (tkD p.1) (.ref w.2.1) /\ ∃v,d7 v w.2.2/\eJ X.K H mu p.2 v) /\ ∃g:dE,u = .ref g/\s.heap.IsTuple g #[Value.ref w.2.1,w.2.2]/\(fP X.prog X.w).is s.heap w.1 w.2.1:=by
 unfold vo at h;split at h
 ·rename_i k x;obtain⟨o,t,e⟩:=oM1.mp h;subst e;cases r with
  | @tup _ a vs h1 h2=>
   cases q;obtain⟨n,z,y,_⟩:=I.tuple h1;cases h2 with
   |cons j f=>cases f with
    |cons r2 c=>
     cases c;cases z with
     |cons m f=>cases f with
      |cons i c=>
       cases c;obtain⟨b,rfl,rfl,rk,l,hi⟩:=iX I j m t;exact⟨(o,b,_),⟨O,l,rk,_,i,r2⟩,_,O,y,hi⟩
 ·cases h
theorem oA(I:Inv X ag σ H s):∀ {ds:List D} {vs:List V} {b:List dB} {ps:List (TK×D)},d0 X.K H mu ds vs->ei vs b->iR ds=some ps ->
  ∃ws:List (tG TK),KT X.K H mu ps ws/\ws.length=b.length /\ ∀(i:Nat) (q:tG TK),ws[i]?=Z q -> ∃a:dE,b[i]?=Z (Value.ref a)/\s.heap.IsTuple a #[Value.ref q.2.1,q.2.2]/\(fP X.prog X.w).is s.heap q.1 q.2.1
 |[],_,_,ps,.nil,.nil,h=>by cases h;exact⟨[],.nil,O,λi q h=>by simp at h⟩
 |d::ds,_,_,ps,.cons r t,.cons q m,h=>by
  rw[iR]at h;obtain⟨p,f,h⟩:=oB1.mp h;obtain⟨e,n,h⟩:=oM1.mp h;subst h;obtain⟨w,c,a,l,j,g⟩:=za I r q f;obtain⟨ws,h1,h2,k⟩:=oA I t m n;refine⟨w::ws,.cons c h1,by rw[lC1,lC1,h2],λi q h=>?_⟩;cases i with
  |zero=>simp at h;subst h;exact⟨a,by rw[l];rfl,j,g⟩
  |succ i=>exact k i q (by simpa using h)
theorem KT.fold{K:Fg1}:∀{ps:List (TK×D)} {ws:List (tG TK)} {as:List (TK×D)} {bs:List (tG TK)},KT K H mu ps ws->KT K H mu as bs->KT K H mu (ps.foldl (λF p=>e6 F p.1 p.2) as) (ws.foldl (λa q=>storedH a q.1 q.2.1 q.2.2) bs):=by
 intro ps ws as bs h
 induction h generalizing as bs with
 |nil=>exact λg=>g
 | @cons p q ps ws r t ih=>
  intro g;obtain⟨e,b,rk,v,c,r2⟩:=r;rw[cb,cb,<- e];exact ih (g.put b rk c r2)
theorem xf(ps:List (TK×D)):(lI ps).length<=ps.length:=by
 have:∀(ps a:List (TK×D)),(ps.foldl (λF p=>e6 F p.1 p.2) a).length<=a.length+ps.length:=by
  intro ps
  induction ps with
  |nil=>intro a;exact nR1 _
  |cons p ps ih=>
   intro a;rw[cb,lC1];have h1:=ih (e6 a p.1 p.2);have h2:=lG a p.1 p.2;lia
 have:=this ps [];simpa[lI]using this
theorem mQ:∀{ds:List D} {ps:List (TK×D)},iR ds=Z ps->ps.length=ds.length
 |[],ps,h=>by cases h;rfl
 |d::ds,ps,h=>by
  rw[iR]at h;obtain⟨p,c,h⟩:=oB1.mp h;obtain⟨b,a,h⟩:=oM1.mp h;subst h;rw[lC1,lC1,mQ a]
theorem CD{k:Nat}(hr:fN k X.A):fj X (.type "dict") (rN X.K (b1 nl)):=by
 intro ag s σ H xs us Q I r h;obtain⟨x,mu,S,d,r',S',rfl,T,m,c,hc⟩:=DQ h;unfold nl at c;split at c
 ·rename_i ds en;obtain⟨ps,ep,c⟩:=oB1.mp c;split at c
  ·rename_i au;cases c;obtain⟨a,vs,rfl,q,t⟩:=ev T m en;obtain⟨u,rfl,r2⟩:=iK r;cases r2;obtain⟨l,N,ht,hz⟩:=I.list q;obtain⟨ws,kt,E,wq⟩:=oA I t N ep;have A:l.length=ds.length:=by rw[<- N.length,<- t.length]
   obtain⟨P,n,ao,w,C,f⟩:=ht;obtain⟨oc,od,oa,os⟩:=P;dsimp only at w C f
   subst w C f
   have hu:=hr.un;refine uK (knd:=fP X.prog X.w) hr.hd ao λA' h1 tk it K V keep ni ne st hD R hR=>?_;have L:ws.length<=100000:=by rw[E,A];exact au
   have big:ws.length<=dL:=aC L (by decide);refine xl (knd:=fP X.prog X.w) (h0:=s.heap) (its:=l.toArray) (ps:=ws) K (by show A'.units+1+8<cLine;lia) (by rw[sT1];exact E.symm) big ⟨_,ao,O,n,O⟩ (Heap.get?_none_of_le (nR1 _)) ni ne
    (λh k a e z=>⟨z.1.grows e,z.2⟩) (λi q e=>?_) _ 0 _ O (bi _) keep st (by simpa[gx]using hD) λh' y b g=>hR _ ?_
   ·obtain⟨pa,U,aq,e3⟩:=wq i q e;exact⟨pa,by rw[cm];exact U,aq,e3⟩
   ·have v:H s.heap.objs.size=none:=I.fresh;have j:KT X.K H mu (lI ps) (gx ws):=KT.fold kt .nil;have D:(s.heap.objs.size == sysModules)=false:=beq_eq_false_iff_ne.mpr (Ne.symm (nN1 I.big));have B:(gx ws).length<=dL:=by
     rw[<- j.length];have h1:=xf ps;have h2:=mQ ep;exact aC (by lia:(lI ps).length<=100000) (by decide)
    cases ef:lI ps with
    |nil=>
     rw[ef]at j hc;generalize gx ws=fw at j g B;cases j;obtain⟨o,es,am,g1,W,g3,g4,g5,g6⟩:=g;have G:es = #[]:=Array.toList_inj.mp (by simpa using g4);subst G;refine⟨.ref s.heap.objs.size,upd H s.heap.objs.size (.dK []),I.laid (t':=y) (o:=.dK []) b (nR1 _) ⟨bi _,D,[],.nil,o,#[],am,g1,W,g3,?_,?_,bq⟩,O,hc _ _ (mu++[s.heap.objs.size]) (Ext.new_ v) (.ref (fZ m.len _)) (m.new v ⟨[],d4,.nil⟩)⟩
     ·intro e G;simp at G
     ·exact .nil
    |cons p F=>
     rw[ef]at j hc;refine⟨.ref s.heap.objs.size,upd H s.heap.objs.size (.ext (gb s.heap.objs.size (gx ws))),I.laid (t':=y) b (nR1 _) (qu D g),O,hc _ _ (mu++[s.heap.objs.size]) (Ext.new_ v) (.ref (fZ m.len _)) (m.new v ⟨_,d4,j.ext (Ext.new_ v),B⟩)⟩
  ·cases c
 ·cases c
end
mutual
noncomputable def D.mv(h n:Nat):D->D
 | .tup xs=>.tup (D.mvs h n xs)
 | .rol xs=>.rol (D.mvs h n xs)
 | .ref 0=>.ref h
 | .ref (k+1)=>.ref (n+k)
 | .fn x=>.fn x
 | .non=>.non
 | .bl b=>.bl b
 | .int i=>.int i
 | .str x=>.str x
noncomputable def D.mvs(h n:Nat):List D->List D
 |[]=>[]
 |d::ds=>D.mv h n d::D.mvs h n ds
end
noncomputable def Ob.mv(h n:Nat):Ob->Ob
 | .lst xs=>.lst (D.mvs h n xs)
 | .dct kvs=>.dct (kvs.map λp=>(p.1,p.2.mv h n))
 | .dcT kvs=>.dcT (kvs.map λp=>(p.1,p.2.mv h n))
 | .iset xs=>.iset xs
 | .dcF kvs=>.dcF (kvs.map λp=>(p.1,p.2.mv h n))
 | .tst ks=>.tst ks
section
variable{K:Fg1}{H:Hp}{mu nu:List dE}{a:dE}{h:Nat}
theorem eJ.mv(ha:mu[h]? = some a):∀ {d:D} {v:V},eJ K H (a::nu) d v->eJ K H (mu++nu) (d.mv h mu.length) v:=fun c=>c.rec (motive_1:=fun d v _=>eJ K H (mu++nu) (d.mv h mu.length) v) (motive_2:=fun ds vs _=>d0 K H (mu++nu) (D.mvs h mu.length ds) vs)
  .non .bl .int .str (λh _ ih=>.tup h ih) (λh _ ih=>.rol h ih) (λ{n b} e=>by
   cases n with
   |zero=>
    have:a=b:=by simpa using e
    subst this;exact .ref (by rw[gL1 (gE1.mp ha).1];exact ha)
   |succ k=>exact .ref (by rw[gR1 (bt _ _),bu];simpa using e)) (λh=>.fn h) .nil (λ_ _ a b=>.cons a b)
theorem d0.mv(ha:mu[h]?=Z a):∀{ds:List D} {vs:List V},d0 K H (a::nu) ds vs->d0 K H (mu++nu) (D.mvs h mu.length ds) vs:=λb=>b.ind (P:=λds vs _=>d0 K H (mu++nu) (D.mvs h mu.length ds) vs) .nil λr _ ih=>.cons (eJ.mv ha r) ih
theorem KR.mv{κ:Type}(ha:mu[h]?=Z a):∀{ks:List (κ×D)} {ws:List (κ×V)},KR K H (a::nu) ks ws->KR K H (mu++nu) (ks.map λp=>(p.1,p.2.mv h mu.length)) ws:=by
 intro ks ws b
 induction b with
 |nil=>exact .nil
 |cons r t ih=>exact .cons ⟨r.1,r.2.mv ha⟩ ih
mutual
theorem CU(h n:Nat):∀k:TK,(tkD k).mv h n=tkD k
 | .non=>rfl
 | .int _=>rfl
 | .tup xs=>by rw[tkD,D.mv,yh h n xs]
theorem yh(h n:Nat):∀ks:List TK,D.mvs h n (hE ks)=hE ks
 |[]=>rfl
 |x::xs=>by rw[hE,D.mvs,CU h n x,yh h n xs]
end
theorem KT.mv(ha:mu[h]?=Z a):∀{ks:List (TK×D)} {ws:List (TK×dE×dB)},KT K H (a::nu) ks ws->KT K H (mu++nu) (ks.map λp=>(p.1,p.2.mv h mu.length)) ws:=by
 intro ks ws b
 induction b with
 |nil=>exact .nil
 |cons r t ih=>
  obtain⟨z,d,k,v,c,r⟩:=r;exact .cons ⟨z,d,by have:=k.mv ha;rw[CU]at this;exact this,v,c,r.mv ha⟩ ih
theorem jI.mv{b:dE}(ha:mu[h]?=Z a):∀{o:Ob},jI K H (a::nu) b o->jI K H (mu++nu) b (o.mv h mu.length)
 | .lst _,⟨vs,e,r⟩=>⟨vs,e,r.mv ha⟩
 | .dct _,⟨ws,e,r⟩=>⟨ws,e,KR.mv ha r⟩
 | .dcT _,⟨ws,e,r,l⟩=>⟨ws,e,KT.mv ha r,l⟩
 | .iset _,q=>q
 | .dcF _,⟨ws,e,r,l⟩=>⟨ws,e,KT.mv ha r,l⟩
 | .tst ks,⟨ws,e,r⟩=>⟨ws,e,by have:=KT.mv ha r;rw[bv]at this;exact this⟩
end
noncomputable def apart(f:FN):FN:=λds S=>match ds with
 | .ref h::es=>if D.unds 0 es=true then (S[h]?).bind fun o=>if o.und 0=true then (lQ f (.ref 0::es) [o]).bind fun p=>match p.2 with
   |o'::G=>if o'.und 0=M then(if p.1.und 0=M then Z (p.1,S.set h o')else Z (p.1.mv h S.length,S.set h o'++G.map (Ob.mv h S.length)))else Y
   |[]=>Y
  else Y
  else Y
 |_=>Y
theorem AG{K:Fg1}{f:FN}{vs:List V}{H:Hp}{Q:VK}(q:rN K (apart f) vs H Q):rN K f vs H Q:=by
 obtain⟨mu,S,ds,d,S',X,j,g,hc⟩:=q;unfold apart at g;split at g
 ·rename_i h es;split at g
  ·rename_i B;obtain⟨o,I,g⟩:=oB1.mp g;split at g
   ·rename_i au;obtain⟨⟨d1,am⟩,ao,g⟩:=oB1.mp g;cases X with
    | @cons _ v _ vt aq R=>
    cases aq with
    | @ref _ a p=>
    have i:∀{m1 m2:List dE} (k:Nat),k<0->m1[k]?=m2[k]?:=λk wq=>absurd wq (bA _);refine sZ ⟨[a],[o],.ref 0::es,d1,am,.cons (.ref O) (R.cut (n:=0) i B),⟨O,by simp,λn o2 b h1 h2=>?_⟩,ao,λv H' mu' x r s=>?_⟩
    ·cases n with
     |zero=>
      have P:o=o2:=by simpa using h1
      have U:a=b:=by simpa using h2
      subst P U;exact(j.ob h o a I p).cut (n:=0) i au
     |succ n=>simp at h1
    ·obtain⟨nu,D⟩:=x.pre;have y:mu'=a::nu:=D.symm;subst y;dsimp only at g;cases am with
     |nil=>cases g
     |cons o' G=>
      dsimp only at g;split at g
      ·rename_i C;have t:Ext mu mu H H':=⟨bn,fun b z e nb=>x.old b z e (fun l=>nb (by rw [cY.mp l];exact gM1 p)),x.tup,x.frz,fun _ z=>.inl z⟩;have m:∀ (n:Nat) (z:Ob) (b:dE),(S.set h o')[n]? = some z->mu[n]? = some b->jI K H' mu b z:=fun n z b h1 h2=>by
        by_cases e:h=n
        ·subst e;rw[aI (gE1.mp I).1]at h1;cases h1;rw[p]at h2;cases h2;exact(s.ob 0 o' a O O).cut (n:=0) i C
        ·rw[gS1 e]at h1;refine(j.ob n z b h1 h2).keep t λu L=>x.old b u L λl=>?_;have l:=cY.mp l;subst l;exact e ((List.getElem?_inj (gE1.mp p).1 j.nd).mp (p.trans h2.symm))
       split at g
       ·rename_i W;cases g;exact hc v H' mu t (r.cut (n:=0) i W) ⟨by rw[aW];exact j.len,j.nd,m⟩
       ·cases g;have snd:=s.nd;rw [aN] at snd;have F:∀ b∈nu,H b=none:=fun b l=>by
         rcases x.new b (mC1 _ l)with z|z
         ·rw[cY.mp z]at l;exact absurd l snd.1
         ·exact z
        have N:Ext mu (mu++nu) H H':=⟨bw _ _,t.old,t.tup,t.frz,λb z=>by
         rcases aG.mp z with z|z
         ·exact .inl z
         ·exact .inr (F b z)⟩
        refine hc v H' (mu++nu) N (by rw[<- j.len];exact r.mv p) ⟨?_,?_,λn z b h1 h2=>?_⟩
        ·have:=s.len;simp only[lC1]at this;rw[lA1,lA1,lM1,aW,j.len];lia
        ·refine bB.mpr ⟨j.nd,snd.2,λb l c A z=>?_⟩;subst z;obtain⟨o2,e⟩:=j.here l;rw[F b A]at e;cases e
        ·by_cases E:n<S.length
         ·rw[gL1 (by rw[aW];exact E)]at h1;rw[gL1 (by rw[j.len];exact E)]at h2;exact(m n z b h1 h2).mor nu
         ·have w:=a0 E;rw[gR1 (by rw[aW];exact w),aW]at h1;rw[gR1 (by rw[j.len];exact w),j.len]at h2;rw[gP1]at h1;obtain⟨o1,g1,T⟩:=oM1.mp h1;subst T;have q:=s.ob (n-S.length+1) o1 b (by rw[gC1];exact g1) (by rw[gC1];exact h2);rw[<- j.len];exact q.mv p
      ·cases g
   ·cases g
  ·cases g
 ·cases g
theorem fO.ap{P:dF}{w:dH}{K:Fg1}{mg:Str->Option dB}{base:dN}{k:Nat}{x:Str}{n:Nat}{m:FN}(h:fO P w K mg base k x n m):fO P w K mg base k x n (apart m):=by
 obtain⟨f,fd,ps,F,b,c,a⟩:=h;exact⟨f,fd,ps,F.imp λvs H Q E q=>⟨q.1,AG q.2⟩,b,c,a⟩
noncomputable def W{α:Type}(o:Option α)(Q:α->Prop):Prop:=∃x,o=Z x/\Q x
section
variable{α β:Type}{Q:α->Prop}
theorem eB{x:α}:W (Z x) Q↔Q x:=⟨λ⟨_,e,h⟩=>(by cases e;exact h),λh=>⟨x,O,h⟩⟩
theorem jH:W (Y:Option α) Q↔False:=⟨λ⟨_,e,_⟩=>(by cases e),False.elim⟩
theorem d5{o:Option β}{f:β->Option α}:W (o.bind f) Q↔W o λx=>W (f x) Q:=by
 cases o with
 |none=>exact⟨λ⟨_,e,_⟩=>(by cases e),λ⟨_,e,_⟩=>(by cases e)⟩
 |some x=>exact⟨λh=>⟨x,O,h⟩,λ⟨_,e,h⟩=>by cases e;exact h⟩
theorem kP{o:Option β}{f:β->α}:W (o.map f) Q↔W o λx=>Q (f x):=by
 cases o with
 |none=>exact⟨λ⟨_,e,_⟩=>(by cases e),λ⟨_,e,_⟩=>(by cases e)⟩
 |some x=>exact⟨λ⟨_,e,h⟩=>(by cases e;exact⟨x,O,h⟩),λ⟨_,e,h⟩=>(by cases e;exact⟨_,O,h⟩)⟩
theorem tq{c:Prop}[Decidable c]{a b:Option α}:W (if c then a else b) Q↔if c then W a Q else W b Q:=by split<;>exact Iff.rfl
theorem W.mono{o:Option α}{Q':α->Prop}(h:W o Q)(k:∀x,Q x->Q' x):W o Q':=let ⟨x,e,q⟩:=h;⟨x,e,k x q⟩
theorem W.of{o:Option α}{x:α}(e:o=Z x)(h:Q x):W o Q:=⟨x,e,h⟩
end
theorem eF{a b:FS}{r:Ev}{S:Sto}{Q:Fl×Ev×Sto->Prop}(R:Ev->Sto->Prop)(h1:W (a r S) λp=>p.1 = .nx/\R p.2.1 p.2.2)(h2:∀r S,R r S->W (b r S) Q):W (d9 a b r S) Q:=by
 obtain⟨⟨f,h,g⟩,e,d,c⟩:=h1;dsimp only at d c;subst d;unfold d9;rw[e];exact h2 h g c
theorem nq{n:Nat}{b:FS}{ds:List D}{S:Sto}{Q:D×Sto->Prop}(h:W (b (hG n ds) S) fun p=>match p.1 with
  | .rt d=>Q (d,p.2.2)
  | .nx=>Q (.non,p.2.2)
  |_=>False):W (iD n b ds S) Q:=by
 obtain⟨⟨f,c,a⟩,e,q⟩:=h;unfold iD;rw[e];cases f with
 |rt d=>exact⟨_,O,q⟩
 |nx=>exact⟨_,O,q⟩
 |bk=>exact q.elim
 |ct=>exact q.elim
theorem lO{n:Nat}{f:FN}{ds:List D}{S:Sto}{Q:D×Sto->Prop}(hn:ds.length=n)(a:D.unds 0 ds=J)(h:W (f ds S) λp=>Q (gc S.length p)):W (dX n f ds S) Q:=by
 obtain⟨⟨d,b⟩,e,q⟩:=h;exact⟨_,o4 e hn a,q⟩
theorem lP{n:Nat}{f:FN}{ds:List D}{S:Sto}{Q:D×Sto->Prop}(hn:ds.length=n)(b:D.unds 0 ds=M)(h:W (f ds []) λp=>p.1.und 0=M/\Q (p.1,S)):W (dX n f ds S) Q:=by
 obtain⟨⟨d,g⟩,e,c,a⟩:=h;exact⟨_,xy e hn b c,a⟩
mutual
theorem fr{n:Nat}:∀{d:D},d.und 0=M->d.und n=M
 | .non,_=>rfl
 | .bl _,_=>rfl
 | .int _,_=>rfl
 | .str _,_=>rfl
 | .tup xs,h=>by rw[D.und]at h ⊢;exact hL h
 | .rol xs,h=>by rw[D.und]at h ⊢;exact hL h
 | .fn _,_=>rfl
 | .ref k,h=>by simp[D.und]at h
theorem hL{n:Nat}:∀{ds:List D},D.unds 0 ds=M->D.unds n ds=M
 |[],_=>rfl
 |d::ds,h=>by
  rw[D.unds,bA1]at h ⊢;exact⟨fr h.1,hL h.2⟩
end
theorem wa{n:Nat}{f:FN}{ds:List D}{o:Ob}{T:Sto}{Q:D×Sto->Prop}(hn:ds.length=n)(b:D.unds 0 ds=J)(g:T.all (Ob.und (T.length+1))=M)(h:W (f ds (o::T)) λp=>∃d o' G,p=(d,o'::(T++G))/\d.und 0=M/\o'.und (T.length+1)=M/\Q (d,o'::T)):W (dX n f ds (o::T)) Q:=by
 refine lO hn b (h.mono ?_);rintro p ⟨d,o',G,rfl,a,c,q⟩;have e:(o'::(T++G)).take (T.length+1)=o'::T:=by simp
 unfold gc;dsimp only[lC1];rw[ak (by rw[e,fr a,bR,c,g];rfl),e];exact q
theorem fV{c:List (Nat×List D)}{g:FG}{b:FS}{Q:Fl×Ev×Sto->Prop}(I:Nat->Ev->Sto->Prop):∀ (items:List D) (k:Nat) (r:Ev) (S:Sto),I k r S ->
  (∀i r S,I i r S->oB S c=M) ->
  (∀i d,items[i]?=Z d -> ∀r S,I (k+i) r S->W (g d r S) λp=>W (b p.1 p.2) λq=>q.1 = .nx/\I (k+i+1) q.2.1 q.2.2) ->
  (∀r S,I (k+items.length) r S->Q (.nx,r,S))->W (km c g b items r S) Q
 |[],k,r,S,hi,hok,_,hq=>by rw[km];dsimp only;rw[ak (hok _ _ _ hi),eB];exact hq r S (by simpa using hi)
 |d::ds,k,r,S,hi,hok,hs,hq=>by
  rw[km];dsimp only;rw[ak (hok _ _ _ hi),d5];obtain⟨p,l,h1⟩:=hs 0 d O r S (by simpa using hi);refine⟨p,l,?_⟩;dsimp only;rw[d5];obtain⟨⟨f,m,o⟩,n,h2,e⟩:=h1;refine⟨_,n,?_⟩;dsimp only at h2 e ⊢;subst h2;refine fV I ds (k+1) m o (by simpa using e) hok (λi j h r S a=>?_) λr S a=>hq r S (by rw[lC1,show k+(ds.length+1)=k+1+ds.length by lia];exact a);have:=hs (i+1) j (by simpa using h) r S (by rw[show k+(i+1)=k+1+i by lia];exact a);rw[show k+(i+1)+1=k+1+i+1 by lia]at this;exact this
theorem jj{c:List (Nat×List D)}{g:FG}{t:FT}{e:FE}{Q:List D×Ev×Sto->Prop}(I:Nat->List D->Ev->Sto->Prop):∀ (items:List D) (k:Nat) (acc:List D) (r:Ev) (S:Sto),I k acc r S ->
  (∀i acc r S,I i acc r S->oB S c=M) ->
  (∀i d,items[i]?=Z d -> ∀acc r S,I (k+i) acc r S->W (g d r S) λp=>W (t p.1 p.2) λb=>if b.1=M then W (e p.1 b.2) λx=>I (k+i+1) (acc++[x.1]) p.1 x.2 else I (k+i+1) acc p.1 b.2) ->
  (∀xs r S,I (k+items.length) (acc++xs) r S->Q (xs,r,S))->W (fM c g t (eI e) items r S) Q
 |[],k,acc,r,S,hi,hok,_,hq=>by rw[fM];dsimp only;rw[ak (hok _ _ _ _ hi),eB];exact hq [] r S (by simpa using hi)
 |d::ds,k,acc,r,S,hi,hok,hs,hq=>by
  rw[fM];dsimp only;rw[ak (hok _ _ _ _ hi),d5];obtain⟨p,m,h1⟩:=hs 0 d O acc r S (by simpa using hi);refine⟨p,m,?_⟩;dsimp only;rw[d5];obtain⟨⟨b,o⟩,n,h2⟩:=h1;refine⟨_,n,?_⟩;have step:∀i f,ds[i]?=Z f -> ∀acc r S,I (k+1+i) acc r S->W (g f r S) λp=>W (t p.1 p.2) λb=>if b.1=M then W (e p.1 b.2) λx=>I (k+1+i+1) (acc++[x.1]) p.1 x.2 else I (k+1+i+1) acc p.1 b.2:=λi f j acc r S a=>by
   have:=hs (i+1) f (by simpa using j) acc r S (by rw[show k+(i+1)=k+1+i by lia];exact a);rw[show k+(i+1)+1=k+1+i+1 by lia]at this;exact this
  dsimp only at h2 ⊢;cases b with
  |true=>
   rw[ak O]at h2 ⊢;rw[d5,eI,kP];obtain⟨⟨x,l⟩,q,h⟩:=h2;refine⟨_,q,?_⟩;dsimp only at h ⊢;rw[kP];refine jj I ds (k+1) (acc++[x]) p.1 l (by simpa using h) hok step λxs r S a=>?_;refine hq _ r S ?_;rw[lC1,show k+(ds.length+1)=k+1+ds.length by lia];simpa using a
  |false=>
   rw[aj (by decide)]at h2 ⊢;refine jj I ds (k+1) acc p.1 o (by simpa using h2) hok step λxs r S a=>?_;refine hq _ r S ?_;rw[lC1,show k+(ds.length+1)=k+1+ds.length by lia];exact a
theorem Dw{S:Sto}{b:Bool}:tX S (.bl b)=Z b:=rfl
theorem HI{S:Sto}:tX S .non=Z J:=rfl
theorem HJ{S:Sto}{i:Int}:tX S (.int i)=Z (i != 0):=rfl
theorem Cq{x y:Int}{S:Sto}:oR (.int x) (.int y) S=Z (.bl (x == y),S):=rfl
theorem HV{x y:Int}{S:Sto}:Jt (.int x) (.int y) S=Z (.bl (!(x == y)),S):=rfl
theorem Cm{x y:Int}{S:Sto}:xL (.int x) (.int y) S=Z (.bl (decide (x<y)),S):=rfl
theorem Cp{x y:Str}{S:Sto}:oR (.str x) (.str y) S=Z (.bl (x == y),S):=rfl
theorem HU{x y:Str}{S:Sto}:Jt (.str x) (.str y) S=Z (.bl (!(x == y)),S):=rfl
theorem ite_and'{c p:Prop}[Decidable c]:(if c then p else False)↔c/\p:=by split<;>simp[*]
noncomputable def xN(j:Int):Bool:=decide (-(2^62)<=j)&&decide (j<2^62)
theorem fW{n:Nat}(h:n<2^60):xN n=M:=by
 unfold xN;rw[bA1,al,al];lia
theorem Fp{j:Int}(h: -(2^60)<=j)(h':j<2^60):xN j=M:=by
 unfold xN;rw[bA1,al,al];lia
noncomputable def Gi(p:List D×Sto)(Q:AO×Sto->Prop):Prop:=match p.1 with
 |[.int j]=>xN j=M/\Q (⟨gB 0 j.toNat,[]⟩,p.2)
 |_=>False
noncomputable def HL(p:List D×Sto)(Q:AO×Sto->Prop):Prop:=match p.1 with
 |[.int i,.int j]=>xN i=M/\xN j=M/\Q (⟨gB i (j-i).toNat,[]⟩,p.2)
 |_=>False
theorem Df{m:FA}{r:Ev}{S:Sto}{Q:AO×Sto->Prop}:W (uy m r S) Q↔W (m r S) λp=>Gi p Q:=by
 unfold uy;rw[d5];constructor
 ·refine λh=>h.mono λp q=>?_;unfold Gi;split at q
  ·rename_i j e
   try rw[e]
   rw[tq]at q;split at q
   ·rename_i hc;exact⟨by unfold xN;rw[bA1,al,al];exact hc,eB.mp q⟩
   ·exact(jH.mp q).elim
  ·exact(jH.mp q).elim
 ·refine λh=>h.mono λp q=>?_;unfold Gi at q;split at q
  ·rename_i j e;obtain⟨a,b⟩:=q;unfold xN at a;rw[bA1,al,al]at a
   try rw[e]
   try dsimp only
   rw[ak a];exact eB.mpr b
  ·exact q.elim
theorem Hx{m:FA}{r:Ev}{S:Sto}{Q:AO×Sto->Prop}:W (GZ m r S) Q↔W (m r S) λp=>HL p Q:=by
 unfold GZ;rw[d5];constructor
 ·refine λh=>h.mono λp q=>?_;unfold HL;split at q
  ·rename_i i j e
   try rw[e]
   rw[tq]at q;split at q
   ·rename_i hc;refine⟨?_,?_,eB.mp q⟩
    ·unfold xN;rw[bA1,al,al];exact⟨hc.1,hc.2.1⟩
    ·unfold xN;rw[bA1,al,al];exact hc.2.2
   ·exact(jH.mp q).elim
  ·exact(jH.mp q).elim
 ·refine λh=>h.mono λp q=>?_;unfold HL at q;split at q
  ·rename_i i j e;obtain⟨a,b,c⟩:=q;unfold xN at a b;rw[bA1,al,al]at a b
   try rw[e]
   try dsimp only
   rw[ak ⟨a.1,a.2,b⟩];exact eB.mpr c
  ·exact q.elim
noncomputable def fits(n:Nat):Bool:=decide (n<=dL)
theorem ea{n:Nat}(h:n<=100000):fits n=M:=by unfold fits;rw[al];exact aC h (by decide)
theorem sF{n:Nat}:fits n=M↔n<=dL:=by unfold fits;rw[al]
theorem Kk:fits 0=M:=ea (by decide)
theorem Kj:fits 1=M:=ea (by decide)
theorem Jv:fits 2=M:=ea (by decide)
theorem Ki:fits 3=M:=ea (by decide)
theorem Kh:fits 4=M:=ea (by decide)
theorem Kg:fits 5=M:=ea (by decide)
theorem Kq:fits 6=M:=ea (by decide)
theorem Kf:fits 7=M:=ea (by decide)
theorem Kp:fits 8=M:=ea (by decide)
theorem hK{α:Type}{n:Nat}{o:Option α}{Q:α->Prop}:W (if n<=dL then o else Y) Q↔fits n=M/\W o Q:=by
 rw[sF,tq];split
 ·rename_i h;exact⟨λq=>⟨h,q⟩,λq=>q.2⟩
 ·rename_i h;exact⟨λq=>(jH.mp q).elim,λq=>absurd q.1 h⟩
theorem AI{a:FA}{r:Ev}{S:Sto}{Q:D×Sto->Prop}:W (eQ a r S) Q↔W (a r S) λp=>fits p.1.length=M/\Q (.tup p.1,p.2):=by
 unfold eQ;rw[d5];exact⟨λh=>h.mono λp q=>(hK.mp q).imp_right eB.mp,λh=>h.mono λp q=>hK.mpr (q.imp_right eB.mpr)⟩
theorem Fx{a:FA}{r:Ev}{S:Sto}{Q:D×Sto->Prop}:W (jD a r S) Q↔W (a r S) λp=>fits p.1.length=M/\Q (.ref p.2.length,p.2++[.lst p.1]):=by
 unfold jD;rw[d5];exact⟨λh=>h.mono λp q=>(hK.mp q).imp_right eB.mp,λh=>h.mono λp q=>hK.mpr (q.imp_right eB.mpr)⟩
theorem kQ{k:Nat}{keep:List Nat}{m:FI}{g:FG}{t:FT}{b:FV}{r:Ev}{S:Sto}{Q:D×Sto->Prop}:W (e0 k keep m g t b r S) Q↔W (m r S) λp=>W (fM p.1.chk g t b p.1.items (nR k keep r) p.2) λq=>fits q.1.length=M/\Q (.ref q.2.2.length,q.2.2++[.lst q.1]):=by
 unfold e0;rw[d5];refine⟨λh=>h.mono λp q=>?_,λh=>h.mono λp q=>?_⟩
 ·rw[d5]at q;exact q.mono λz w=>(hK.mp w).imp_right eB.mp
 ·rw[d5];exact q.mono λz w=>hK.mpr (w.imp_right eB.mpr)
theorem I7{xs ys:List D}{S:Sto}{Q:D×Sto->Prop}:W (fS (.tup xs) (.tup ys) S) Q↔fits (xs.length+ys.length)=M/\Q (.tup (xs++ys),S):=
 ⟨λq=>(hK.mp q).imp_right eB.mp,λq=>hK.mpr (q.imp_right eB.mpr)⟩
theorem FB{x y:Int}{S:Sto}{Q:D×Sto->Prop}:W (fS (.int x) (.int y) S) Q↔Q (.int (x+y),S):=eB
theorem AL{a b:Nat}{xs ys:List D}{S:Sto}{Q:D×Sto->Prop}(h1:S[a]?=Z (.lst xs))(h2:S[b]?=Z (.lst ys)):W (fS (.ref a) (.ref b) S) Q↔fits (xs.length+ys.length)=M/\Q (.ref S.length,S++[.lst (xs++ys)]):=by
 rw[fS];simp only[h1,h2];exact⟨λq=>(hK.mp q).imp_right eB.mp,λq=>hK.mpr (q.imp_right eB.mpr)⟩
theorem lT{n:Nat}{v:D}{xs:List D}{S:Sto}{Q:D×Sto->Prop}(h:S[n]?=Z (.lst xs)):W (jr (.ref n) v S) Q↔fits (xs.length+1)=M/\Q (.non,S.set n (.lst (xs++[v]))):=by
 rw[jr];simp only[h];rw[tq,sF];split
 ·rename_i a;exact⟨λq=>⟨a,eB.mp q⟩,λq=>eB.mpr q.2⟩
 ·rename_i a;exact⟨λq=>(jH.mp q).elim,λq=>absurd q.1 a⟩
theorem tm{n:Nat}{i:Nat}{xs:List D}{x:D}{S:Sto}{Q:D×Sto->Prop}(h:S[n]?=Z (.lst xs))(hx:xs[i]?=Z x)(q:Q (x,S)):W (dW (.ref n) (.int i) S) Q:=by
 refine W.of (x:=(x,S)) ?_ q;have a:=(gE1.mp hx).1;simp only[dW,lc,Aa,h,d6,tF,vI,oS1,ak (show(0:Int)<=i by lia)];rw[ak (by lia)];simp[hx]
theorem gy{i:Nat}{xs:List D}{x:D}{S:Sto}{Q:D×Sto->Prop}(hx:xs[i]?=Z x)(q:Q (x,S)):W (dW (.tup xs) (.int i) S) Q:=by
 refine W.of (x:=(x,S)) ?_ q;have a:=(gE1.mp hx).1;simp only[dW,lc,Aa,d6,tF,vI,oS1,ak (show(0:Int)<=i by lia)];rw[ak (by lia)];simp[hx]
theorem J8:aO 0 (Y:Option D)=[]:=rfl
theorem J7:aO 1 (Y:Option D)=[Y]:=rfl
theorem JS:aO 2 (Y:Option D)=[Y,Y]:=rfl
theorem JQ:aO 3 (Y:Option D)=[Y,Y,Y]:=rfl
theorem Ko:aO 4 (Y:Option D)=[Y,Y,Y,Y]:=rfl
theorem JP:aO 5 (Y:Option D)=[Y,Y,Y,Y,Y]:=rfl
theorem Kn:aO 6 (Y:Option D)=[Y,Y,Y,Y,Y,Y]:=rfl
theorem JO:aO 7 (Y:Option D)=[Y,Y,Y,Y,Y,Y,Y]:=rfl
theorem JN:aO 8 (Y:Option D)=[Y,Y,Y,Y,Y,Y,Y,Y]:=rfl
theorem JM:aO 9 (Y:Option D)=[Y,Y,Y,Y,Y,Y,Y,Y,Y]:=rfl
theorem Iy:aO 10 (Y:Option D)=[Y,Y,Y,Y,Y,Y,Y,Y,Y,Y]:=rfl
theorem J4:aO 11 (Y:Option D)=[Y,Y,Y,Y,Y,Y,Y,Y,Y,Y,Y]:=rfl
theorem J3:aO 12 (Y:Option D)=[Y,Y,Y,Y,Y,Y,Y,Y,Y,Y,Y,Y]:=rfl
theorem JZ:aO 13 (Y:Option D)=[Y,Y,Y,Y,Y,Y,Y,Y,Y,Y,Y,Y,Y]:=rfl
theorem JY:aO 14 (Y:Option D)=[Y,Y,Y,Y,Y,Y,Y,Y,Y,Y,Y,Y,Y,Y]:=rfl
theorem JX:aO 15 (Y:Option D)=[Y,Y,Y,Y,Y,Y,Y,Y,Y,Y,Y,Y,Y,Y,Y]:=rfl
theorem JW:aO 16 (Y:Option D)=[Y,Y,Y,Y,Y,Y,Y,Y,Y,Y,Y,Y,Y,Y,Y,Y]:=rfl
theorem JV:aO 17 (Y:Option D)=[Y,Y,Y,Y,Y,Y,Y,Y,Y,Y,Y,Y,Y,Y,Y,Y,Y]:=rfl
theorem JU:aO 18 (Y:Option D)=[Y,Y,Y,Y,Y,Y,Y,Y,Y,Y,Y,Y,Y,Y,Y,Y,Y,Y]:=rfl
theorem JT:aO 19 (Y:Option D)=[Y,Y,Y,Y,Y,Y,Y,Y,Y,Y,Y,Y,Y,Y,Y,Y,Y,Y,Y]:=rfl
theorem JR:aO 20 (Y:Option D)=[Y,Y,Y,Y,Y,Y,Y,Y,Y,Y,Y,Y,Y,Y,Y,Y,Y,Y,Y,Y]:=rfl
theorem g0{α:Type}{T G:List α}{k:Nat}:(T++G)[T.length+k]?=G[k]?:=by rw[gR1 (by lia)];congr 1;lia
theorem ee{α:Type}{T G:List α}:(T++G)[T.length]?=G[0]?:=by rw[gR1 (by lia)];congr 1;lia
mutual
noncomputable def t8:D->Bool
 | .non=>M
 | .bl _=>M
 | .int i=>decide (i.natAbs<10^6)
 | .str x=>(PyData.str x).leavesShort 13&&decide ((PyData.str x).weight<=20)
 | .tup xs=>nL xs
 | .rol _=>J
 | .fn _=>J
 | .ref _=>J
noncomputable def nL:List D->Bool
 |[]=>M
 |d::ds=>t8 d&&nL ds
end
mutual
noncomputable def nW:D->Nat
 | .tup xs=>kI xs
 | .non=>0 | .bl _=>0 | .int _=>0 | .str _=>0 | .rol _=>0 | .fn _=>0 | .ref _=>0
noncomputable def kI:List D->Nat
 |[]=>0
 |d::ds=>nW d+1+kI ds
end
mutual
noncomputable def AU:D->Nat
 | .tup xs=>nV xs+1
 | .non=>0 | .bl _=>0 | .int _=>0 | .str _=>0 | .rol _=>0 | .fn _=>0 | .ref _=>0
noncomputable def nV:List D->Nat
 |[]=>0
 |d::ds=>max (AU d) (nV ds)
end
mutual
theorem Ge:∀{d:D},t8 d=M -> ∃p,pyD d=Z p/\p.showable=M/\p.leavesShort 13=M/\p.weight+1<=21*(nW d+1)/\p.depth=AU d
 | .non,_=>⟨.none,by simp only[pyD],by simp only[PyData.showable],by simp only[PyData.leavesShort],by simp only[PyData.weight,nW];lia,by simp only[PyData.depth,AU]⟩
 | .bl b,_=>⟨.bool b,by simp only[pyD],by simp only[PyData.showable],by simp only[PyData.leavesShort],by simp only[PyData.weight,nW];lia,by simp only[PyData.depth,AU]⟩
 | .int i,h=>by
  have h':i.natAbs<10^6:=by simpa only[t8,al]using h
  have c:i.natAbs.log2<20:=by
   by_cases z:i.natAbs=0
   ·rw[z];decide
   ·exact(Nat.log2_lt z).mpr (by lia)
  refine⟨.int i,by simp only[pyD],by simp only[PyData.showable,al];lia,?_,?_,by simp only[PyData.depth,AU]⟩
  ·simp only[PyData.leavesShort,al];exact PyData.shown_int_le (by lia)
  ·simp only[PyData.weight,nW];split<;>lia
 | .str x,h=>by
  have h':(PyData.str x).leavesShort 13=M/\(PyData.str x).weight<=20:=by simpa only[t8,bA1,al]using h
  exact⟨.str x,by simp only[pyD],by simp only[PyData.showable],h'.1,by simp only[nW];have:=h'.2;lia,by simp only[PyData.depth,AU]⟩
 | .tup xs,h=>by
  obtain⟨ps,e,h1,h2,f,a⟩:=t5 (ds:=xs) (by simpa only[t8]using h);exact⟨.tuple ps,by simp only[pyD,e,oP1],by simpa only[PyData.showable]using h1,by simpa only[PyData.leavesShort]using h2,by simp only[PyData.weight,nW];lia,by simp only[PyData.depth,AU,a]⟩
 | .rol _,h=>by simp only[t8]at h;cases h
 | .fn _,h=>by simp only[t8]at h;cases h
 | .ref _,h=>by simp only[t8]at h;cases h
theorem t5:∀{ds:List D},nL ds=M -> ∃ps,pyDs ds=Z ps/\PyData.showableAll ps=M/\PyData.leavesShortAll 13 ps=M/\PyData.weightAll ps<=21*kI ds/\PyData.depthAll ps=nV ds
 |[],_=>⟨[],by simp only[pyDs],by simp only[PyData.showableAll],by simp only[PyData.leavesShortAll],by simp only[PyData.weightAll];lia,by simp only[PyData.depthAll,nV]⟩
 |d::ds,h=>by
  simp only[nL,bA1]at h;obtain⟨p,e,h1,h2,j,f⟩:=Ge h.1;obtain⟨ps,g,a,b,i,c⟩:=t5 h.2;refine⟨p::ps,by simp only[pyDs,e,g,oS1,oP1],by simp only[PyData.showableAll,h1,a,df],by simp only[PyData.leavesShortAll,h2,b,df],?_,by simp only[PyData.depthAll,nV,f,c]⟩;simp only[PyData.weightAll,kI];lia
end
theorem Bf{xs:List D}(h:nL xs=M)(hc:kI xs<=40000)(hd:nV xs<=50):∃t,∀S,nk (.tup xs) S=Z (.str t,S):=by
 obtain⟨ps,e,h1,h2,b,c⟩:=t5 h;refine⟨(PyData.tuple ps).shown,λS=>?_⟩;have a:(PyData.tuple ps).showable=M/\(PyData.tuple ps).shown.length<=dL/\(PyData.tuple ps).depth<=60:=
  ⟨by simpa only[PyData.showable]using h1,PyData.shown_fits (B:=13) (by decide) (by decide) (by simpa only[PyData.leavesShort]using h2) (by simp only[PyData.weight];lia),by simp only[PyData.depth];lia⟩
 simp only[nk,e,oS1,ak a]
theorem jR{α:Type}{f:α->D}:∀{l:List α},(∀x∈l,t8 (f x)=M)->nL (l.map f)=M
 |[],_=>by simp only[aZ,nL]
 |x::xs,h=>by simp only[mP1,nL,h x mS1,jR λy a=>h y (mC1 _ a),df]
theorem jl{α:Type}{f:α->D}{k:Nat}:∀{l:List α},(∀x∈l,nW (f x)<=k)->kI (l.map f)<=(k+1)*l.length
 |[],_=>by simp only[aZ,kI];lia
 |x::xs,h=>by
  have h1:=h x mS1;have h2:=jl (l:=xs) λy a=>h y (mC1 _ a);simp only[mP1,kI,lC1,Nat.mul_add];lia
theorem kF{α:Type}{f:α->D}{k:Nat}:∀{l:List α},(∀x∈l,AU (f x)<=k)->nV (l.map f)<=k
 |[],_=>by simp only[aZ,nV];lia
 |x::xs,h=>by
  have h1:=h x mS1;have h2:=kF (l:=xs) λy a=>h y (mC1 _ a);simp only[mP1,nV];lia
theorem qa:∀(n:Nat) (lo:Int),gB lo n=(af n).map λi:Nat=>D.int (lo+i)
 |0,lo=>rfl
 |n+1,lo=>by
  rw[gB,qa n (lo+1),List.range_succ_eq_map,mP1,bv]
  congr 1
  ·simp
  ·apply dg;intro i _;simp only[Function.comp_apply,Nat.succ_eq_add_one]
   congr 1
   push_cast
   lia
theorem kd(n:Nat):gB 0 n=(af n).map λi:Nat=>D.int i:=by
 rw[qa];apply dg;intro i _;simp
theorem r6{α:Type}{c:List (Nat×List D)}{g:FG}{t:FT}{e:FE}{S:Sto}{f:α->D}{Q:List D×Ev×Sto->Prop}(F:α->D)(P:Ev->Prop)(d:oB S c=true):∀ (xs:List α) (r:Ev),P r ->
  (∀a∈xs,∀r,P r->W (g (f a) r S) λp=>W (t p.1 p.2) λb=>b.1=M/\W (e p.1 b.2) λx=>x.1=F a/\x.2=S/\P p.1) ->
  (∀i,P i->Q (xs.map F,i,S))->W (fM c g t (eI e) (xs.map f) r S) Q
 |[],r,hr,_,h=>by rw[aZ,fM];dsimp only;rw[ak d,eB];exact h r hr
 |a::xs,r,hr,hs,h=>by
  rw[mP1,fM];dsimp only;rw[ak d,d5];obtain⟨p,m,⟨b,q,n,⟨x,k,u,o,s⟩⟩⟩:=hs a mS1 r hr;refine⟨p,m,?_⟩;dsimp only;rw[d5];refine⟨b,q,?_⟩;dsimp only;rw[ak n,d5,eI,kP];refine⟨x,k,?_⟩;dsimp only;rw[o,kP];refine r6 F P d xs p.1 s (λa l=>hs a (mC1 _ l)) λi j=>?_;have:=h i j;rw[mP1,<- u]at this;exact this
theorem hA{α:Type}{c:List (Nat×List D)}{g:FG}{t:FT}{e:FE}{S:Sto}{f:α->D}{Q:List D×Ev×Sto->Prop}(k:α->Bool)(F:α->D)(P:Ev->Prop)(d:oB S c=true):∀ (xs:List α) (r:Ev),P r ->
  (∀a∈xs,∀r,P r->W (g (f a) r S) λp=>W (t p.1 p.2) λb=>b.1=k a/\b.2=S/\P p.1/\(k a=M->W (e p.1 S) λx=>x.1=F a/\x.2=S)) ->
  (∀j,P j->Q ((xs.filter k).map F,j,S))->W (fM c g t (eI e) (xs.map f) r S) Q
 |[],r,hr,_,h=>by rw[aZ,fM];dsimp only;rw[ak d,eB];exact h r hr
 |a::xs,r,hr,hs,h=>by
  rw[mP1,fM];dsimp only;rw[ak d,d5];obtain⟨p,u,⟨b,v,q,o,s,n⟩⟩:=hs a mS1 r hr;refine⟨p,u,?_⟩;dsimp only;rw[d5];refine⟨b,v,?_⟩;dsimp only;cases hk:k a with
  |true=>
   rw[q,hk,ak O,d5,eI,kP,o];obtain⟨x,w,n,m⟩:=n hk;refine⟨x,w,?_⟩;dsimp only;rw[m,kP];refine hA k F P d xs p.1 s (λa l=>hs a (mC1 _ l)) λj i=>?_;have:=h j i;rw[di,hk,ak O,mP1,<- n]at this;exact this
  |false=>
   rw[q,hk,aj (by decide),o];refine hA k F P d xs p.1 s (λa l=>hs a (mC1 _ l)) λj i=>?_;have:=h j i;rw[di,hk,aj (by decide)]at this;exact this
mutual
theorem Dp{n m:Nat}(h:n<=m):∀{d:D},d.und n=M->d.und m=M
 | .non,_=>rfl
 | .bl _,_=>rfl
 | .int _,_=>rfl
 | .str _,_=>rfl
 | .tup xs,q=>by rw[D.und]at q ⊢;exact io h q
 | .rol xs,q=>by rw[D.und]at q ⊢;exact io h q
 | .fn _,_=>rfl
 | .ref k,q=>by simp[D.und]at q ⊢;lia
theorem io{n m:Nat}(h:n<=m):∀{ds:List D},D.unds n ds=M->D.unds m ds=M
 |[],_=>rfl
 |d::ds,q=>by
  rw[D.unds,bA1]at q ⊢;exact⟨Dp h q.1,io h q.2⟩
end
theorem gJ{n m:Nat}(h:n<=m):∀{o:Ob},o.und n=M->o.und m=M
 | .lst xs,q=>by rw[Ob.und]at q ⊢;exact io h q
 | .dct xs,q=>by rw[Ob.und]at q ⊢;exact io h q
 | .dcT xs,q=>by rw[Ob.und]at q ⊢;exact io h q
 | .dcF xs,q=>by rw[Ob.und]at q ⊢;exact io h q
 | .iset _,_=>rfl
 | .tst _,_=>rfl
theorem eK{α:Type}{n:Nat}{f:α->D}:∀{xs:List α},(∀x∈xs,(f x).und n=M)->D.unds n (xs.map f)=M
 |[],_=>rfl
 |x::xs,h=>by rw[mP1,D.unds,h x mS1,eK λy a=>h y (mC1 _ a)];rfl
theorem Km{x:Nat}:x+1+1=x+2:=rfl
theorem Kw{x:Nat}:x+2+1=x+3:=rfl
theorem Kv{x:Nat}:x+3+1=x+4:=rfl
theorem Ku{x:Nat}:x+4+1=x+5:=rfl
theorem Kt{x:Nat}:x+5+1=x+6:=rfl
theorem Ks{x:Nat}:x+6+1=x+7:=rfl
theorem Kl{x:Nat}:x+1+2=x+3:=rfl
theorem gC{xs:List D}{S:Sto}:eS (.tup xs) S=Z (.int xs.length,S):=rfl
theorem HS{xs:List D}{S:Sto}:eS (.rol xs) S=Z (.int xs.length,S):=rfl
theorem GS{S:Sto}:eS (.str "") S=Z (.int 0,S):=rfl
theorem u6{xs:List D}{S:Sto}:d6 S (.tup xs)=Z (J,xs):=rfl
theorem HK{xs:List D}{S:Sto}:d6 S (.rol xs)=Z (M,xs):=rfl
theorem v8{xs:List D}{S:Sto}:i6 S (.tup xs)=[]:=rfl
theorem HY{xs:List D}{S:Sto}:i6 S (.rol xs)=[]:=rfl
theorem gR{n:Nat}{xs:List D}{S:Sto}(h:S[n]?=Z (.lst xs)):d6 S (.ref n)=Z (M,xs):=by simp only[d6,h]
theorem v9{n:Nat}{xs:List D}{S:Sto}(h:S[n]?=Z (.lst xs)):i6 S (.ref n)=[(n,xs)]:=by simp only[i6,h]
noncomputable def sW(S:Sto)(d:D)(Q:List D×List (Nat×List D)->Prop):Prop:=W (d6 S d) λq=>Q (q.2,i6 S d)
theorem iP{xs:List D}{S:Sto}{Q:List D×List (Nat×List D)->Prop}:sW S (.tup xs) Q↔Q (xs,[]):=eB
theorem eG{n:Nat}{xs:List D}{S:Sto}{Q:List D×List (Nat×List D)->Prop}(h:S[n]?=Z (.lst xs))(q:Q (xs,[(n,xs)])):sW S (.ref n) Q:=by
 unfold sW;rw[gR h,v9 h,eB];exact q
theorem Fz{m:FE}{r:Ev}{S:Sto}{Q:AO×Sto->Prop}:W (iH m r S) Q↔W (m r S) λp=>sW p.2 p.1 λq=>Q (⟨q.1,q.2⟩,p.2):=by
 unfold iH;rw[d5];refine⟨λh=>h.mono λp q=>?_,λh=>h.mono λp q=>?_⟩
 ·rw[d5]at q;exact q.mono λz w=>eB.mp w
 ·rw[d5];exact W.mono (show W (d6 p.2 p.1) _ from q) λz w=>eB.mpr w
theorem AJ{d:D}{S:Sto}{Q:D×Sto->Prop}:W (Mi.gTup d S) Q↔sW S d λq=>Q (.tup q.1,S):=by
 unfold Mi.gTup;rw[kP];exact Iff.rfl
theorem Hw{n:Nat}{S:Sto}{Q:D×Sto->Prop}:W (eS (.ref n) S) Q↔sW S (.ref n) λq=>Q (.int q.1.length,S):=by
 unfold eS sW;rw[kP]
noncomputable def pD(e:Nat×Nat):D:=.tup [.int e.1,.int e.2]
theorem Fe{S:Sto}{n:Nat}{a b:Nat×Nat}:gr S (n+2) (pD a) (pD b)=Z (a == b):=by
 obtain⟨a1,a2⟩:=a;obtain⟨b1,b2⟩:=b;rw[gr];have d:∀x y:Nat,gr S (n+1) (.int x) (.int y)=Z ((x:Int) == (y:Int)):=λx y=>rfl;have c:∀x y:Nat,((x:Int) == (y:Int))=(x == y):=λx y=>by
  rw[bS,beq_iff_eq,beq_iff_eq];lia
 simp[pD,d6,nJ,d,c];rfl
theorem vT{S:Sto}{n:Nat}{e:Nat×Nat}:∀b:List (Nat×Nat),xh (gr S (n+2)) (pD e) (b.map pD)=Z (b.map λa=>a == e)
 |[]=>rfl
 |a::b=>by rw[mP1,xh,Fe,vT b];rfl
theorem Fy{S:Sto}{n j:Nat}{row:List (Nat×Nat)}{e:Nat×Nat}{Q:D×Sto->Prop}(h:S[n]?=Z (.lst (row.map pD)))(b:row.length<1000)(a:row.findIdx? (· == e)=Z j)(q:Q (.int j,S)):W (Ab (.ref n) (pD e) S) Q:=by
 refine W.of ?_ q;unfold Ab eO;simp only[h,show(60:Nat)=58+2 from rfl,vT,oS1,lM1];rw[ak (by lia),List.findIdx?_map];simp[Function.comp_def,a]
theorem De{S:Sto}{n k:Nat}{xs:List D}{v:D}{Q:D×Sto->Prop}(h:S[n]?=Z (.lst xs))(hk:k<=xs.length)(a:xs.length<1000)(q:Q (.non,S.set n (.lst (xs.take k++v::xs.drop k)))):W (xc (.ref n) (.int k) v S) Q:=by
 refine W.of ?_ q;have hi:ql xs.length k=k:=by
  unfold ql;rw[aj (by lia),Int.toNat_natCast];lia
 have b:xs.length<dL:=nL1 a (by decide);simp only[xc,h,hi];rw[ak ⟨by lia,by lia,b⟩]
theorem iG{f:FN}{o:FE}{a:FA}{r:Ev}{S:Sto}{Q:D×Sto->Prop}(h:W (o r S) λp=>∃n xs,p.1 = .ref n/\p.2[n]?=Z (.lst xs)/\W (a r p.2) λq=>W (f (.ref n::q.1) q.2) Q):W (oG f o a r S) Q:=by
 unfold oG;rw[d5];refine h.mono ?_;rintro⟨d,b⟩ ⟨n,xs,rfl,e,q⟩;dsimp only at e q ⊢;rw[e];dsimp only;rw[d5];exact q
noncomputable def rB(row:List (Nat×Nat)):Ob:=.lst (row.map pD)
structure WS (t m:Nat)(T:Sto)(E:List (List (Nat×Nat)))(P:List (Nat×Nat))(U:Sto):Prop where
 tl:T.length=t
 low:U.take t=T
 el:E.length=m
 row:∀i row,E[i]?=some row->U[t+i]?=some (rB row)
 ends:U[t+m]?=some (.lst (jA (t+1) m))
 prs:U[t+m+1]?=some (.lst (P.map pD))
theorem WS.app{t m:Nat}{T:Sto}{E:List (List (Nat×Nat))}{P:List (Nat×Nat)}{U G:Sto}(w:WS t m T E P U):WS t m T E P (U++G):=by
 have b:t+m+1<U.length:=(gE1.mp w.prs).1;refine⟨w.tl,?_,w.el,λi a h=>?_,?_,?_⟩
 ·rw[List.take_append_of_le_length (by omega)];exact w.low
 ·have:=w.row i a h;rw[gL1 (gE1.mp this).1];exact this
 ·rw[gL1 (by omega)];exact w.ends
 ·rw[gL1 (by omega)];exact w.prs
theorem WS.setRow{t m i:Nat}{T:Sto}{E:List (List (Nat×Nat))}{P:List (Nat×Nat)}{U:Sto}{row:List (Nat×Nat)}(w:WS t m T E P U)(hi:i<m):WS t m T (E.set i row) P (U.set (t+i) (rB row)):=by
 have b:t+m+1<U.length:=(gE1.mp w.prs).1;refine⟨w.tl,?_,by rw[aW];exact w.el,λj a h=>?_,?_,?_⟩
 ·rw[List.take_set_of_le (by lia)];exact w.low
 ·by_cases e:i=j
  ·subst e;rw[aI (by rw[w.el];exact hi)]at h;cases h;rw[aI (by lia)]
  ·rw[gS1 e]at h;rw[gS1 (by lia)];exact w.row j a h
 ·rw[gS1 (by lia)];exact w.ends
 ·rw[gS1 (by lia)];exact w.prs
theorem WS.setPrs{t m:Nat}{T:Sto}{E:List (List (Nat×Nat))}{P P':List (Nat×Nat)}{U:Sto}(w:WS t m T E P U):WS t m T E P' (U.set (t+m+1) (.lst (P'.map pD))):=by
 have c:t+m+1<U.length:=(gE1.mp w.prs).1;refine⟨w.tl,?_,w.el,λj a h=>?_,?_,?_⟩
 ·rw[List.take_set_of_le (by lia)];exact w.low
 ·have b:j<m:=by rw[<- w.el];exact(gE1.mp h).1
  rw[gS1 (by lia)];exact w.row j a h
 ·rw[gS1 (by lia)];exact w.ends
 ·rw[aI (by lia)]
theorem WS.split{t m:Nat}{T:Sto}{E:List (List (Nat×Nat))}{P:List (Nat×Nat)}{U:Sto}(w:WS t m T E P U):U=T++U.drop t:=by
 conv=>lhs;rw[<- cK t U,w.low]
theorem pU:∀{k n i:Nat},i<k->(jA n k)[i]?=Z (.ref (n+i))
 |k+1,n,0,_=>rfl
 |k+1,n,i+1,h=>by rw[jA,gC1,pU (Nat.lt_of_succ_lt_succ h),show n+1+i=n+(i+1) by lia]
theorem j6:∀k n:Nat,(jA n k).length=k
 |0,_=>rfl
 |k+1,n=>by rw[jA,lC1,j6]
noncomputable def tot(E:List (List (Nat×Nat))):Nat:=(E.map List.length).sum
theorem pI:∀{E:List (List (Nat×Nat))} {i:Nat} {row row':List (Nat×Nat)},E[i]?=Z row->tot (E.set i row')+row.length=tot E+row'.length
 |[],i,_,_,h=>by simp at h
 |a::E,0,row,row',h=>by simp at h;subst h;simp[tot];lia
 |a::E,i+1,row,row',h=>by
  have:=pI (E:=E) (i:=i) (row:=row) (row':=row') (by simpa using h);simp[tot]at this ⊢;lia
theorem yf:∀{E:List (List (Nat×Nat))} {k:Nat},k<=E.length->(∀i b,i<k->E[i]?=Z b->4<=b.length)->4*k<=tot E
 |E,0,_,_=>by lia
 |[],k+1,h,_=>by simp at h
 |a::E,k+1,h,q=>by
  have h1:=q 0 a (by lia) O;have h2:=yf (E:=E) (k:=k) (by simpa using h) λi b hi c=>q (i+1) b (by lia) (by simpa using c);simp[tot]at h2 ⊢;lia
noncomputable def eP(rs:List Nat):List D:=rs.map λi:Nat=>D.int i
theorem jC(rs:List Nat):(eP rs).length=rs.length:=by simp[eP]
theorem qc(rs:List Nat):D.unds 0 (eP rs)=M:=eK λ_ _=>rfl
abbrev Wk:=Nat×Nat×Nat
noncomputable def ff(w:Wk):D:=.tup [.int w.1,.int w.2.1,.int w.2.2]
noncomputable def eA(ws:List Wk):List D:=ws.map ff
theorem jf(ws:List Wk):(eA ws).length=ws.length:=by simp[eA]
theorem jN(ws:List Wk):D.unds 0 (eA ws)=M:=eK λ_ _=>rfl
noncomputable def dZ(ws:List Wk)(cs:List Nat):D:=.tup [.tup (eA ws),.tup (eP cs)]
theorem fR{ws:List Wk}{cs:List Nat}:(dZ ws cs).und 0=M:=by simp[dZ,D.und,D.unds,jN,qc]
noncomputable def fv(a b c d:Bool):List D:=(if a then[.str "came"]else[])++(if b then[.str "chalk"]else[])++(if c then[.str "doors"]else[])++(if d then[.str "others"]else[])
theorem Ai {xs:List D}(h:xs.Sublist [.str "came",.str "chalk",.str "doors",.str "others"]):∃a b c d,xs=fv a b c d:=by
 have one:∀{x:D} {l ys:List D},ys.Sublist (x::l) -> ∃(a:Bool) (zs:List D),zs.Sublist l/\ys=(if a then[x]else[])++zs:=by
  intro x l ys h;cases h with
  |cons _ h=>exact⟨J,ys,h,O⟩
  |cons_cons _ h=>exact⟨M,_,h,O⟩
 obtain⟨a,j,h1,rfl⟩:=one h;obtain⟨b,i,h2,rfl⟩:=one h1;obtain⟨c,k,f,rfl⟩:=one h2;obtain⟨d,g,e,rfl⟩:=one f;have:g=[]:=List.eq_nil_of_sublist_nil e;subst this;exact⟨a,b,c,d,by simp[fv]⟩
theorem Aj(a b c d:Bool):(fv a b c d).length<=4:=by cases a<;>cases b<;>cases c<;>cases d<;>decide
theorem kA(a b c d:Bool):D.unds 0 (fv a b c d)=M:=by cases a<;>cases b<;>cases c<;>cases d<;>rfl
theorem Cf{a b c d:Bool}{S:Sto}:i3 (.str "came") (.tup (fv a b c d)) S=Z (.bl a,S):=by cases a<;>cases b<;>cases c<;>cases d<;>rfl
theorem zS{a b c d:Bool}{S:Sto}:i3 (.str "chalk") (.tup (fv a b c d)) S=Z (.bl b,S):=by cases a<;>cases b<;>cases c<;>cases d<;>rfl
theorem zR{a b c d:Bool}{S:Sto}:i3 (.str "doors") (.tup (fv a b c d)) S=Z (.bl c,S):=by cases a<;>cases b<;>cases c<;>cases d<;>rfl
theorem w8{a b c d:Bool}{S:Sto}:i3 (.str "others") (.tup (fv a b c d)) S=Z (.bl d,S):=by cases a<;>cases b<;>cases c<;>cases d<;>rfl
theorem ux{S:Sto}{n:Nat}{x:Nat}:∀a:List Nat,AS (gr S (n+1)) (.int x) (eP a)=Z (a.contains x)
 |[]=>rfl
 |c::a=>by
  have d:gr S (n+1) (.int c) (.int x)=Z ((c:Int) == (x:Int)):=rfl;have b:((c:Int) == (x:Int))=(x == c):=by
   rw[bS,beq_iff_eq,beq_iff_eq];lia
  have ih:=ux (S:=S) (n:=n) (x:=x) a;rw[eP,mP1,AS,d,b];rw[eP]at ih;rw[ih,List.contains_cons];rfl
theorem zQ{S:Sto}{x:Nat}{cs:List Nat}:i3 (.int x) (.tup (eP cs)) S=Z (.bl (cs.contains x),S):=by
 simp only[i3,uC,FP,d6,oS1,eO,show(60:Nat)=59+1 from rfl,ux,oP1]
noncomputable def ua(a b c d:Bool)(came chalk doors others:Int):D:=.tup [if a then .int came else .non,if b then .int chalk else .non,if c then .int doors else .non,if d then .int others else .non]
theorem oh{a b c d:Bool}{w x y z:Int}:(ua a b c d w x y z).und 0=M:=by cases a<;>cases b<;>cases c<;>cases d<;>rfl
theorem zJ{κ:Type}[DecidableEq κ]{k:κ}:d2 ([]:List (κ×D)) k=Y:=rfl
theorem eV{κ:Type}[DecidableEq κ]{k a:κ}{d:D}{r:List (κ×D)}:d2 ((a,d)::r) k=if a=k then Z d else d2 r k:=by
 unfold d2;rw[bc];by_cases h:a=k
 ·simp[h]
 ·simp[h]
theorem sm{κ:Type}[DecidableEq κ]{k:κ}{b:List (κ×D)}:∀{a:List (κ×D)},d2 (a++b) k=(d2 a k).or (d2 b k)
 |[]=>rfl
 |(x,d)::a=>by
  rw[bj,eV,eV,sm (a:=a)];split<;>rfl
theorem k6{κ:Type}[DecidableEq κ]{k:κ}:∀{a:List (κ×D)},(a.any λp=>decide (p.1=k))=J->d2 a k=Y
 |[],_=>rfl
 |(x,d)::a,h=>by
  simp only[bd,Bool.or_eq_false_iff,decide_eq_false_iff_not]at h;rw[eV,aj h.1];exact k6 h.2
theorem k4{κ:Type}[DecidableEq κ]{k k':κ}{v:D}:∀{a:List (κ×D)},(a.any λp=>decide (p.1=k))=M->d2 (a.map λp=>if p.1=k then(p.1,v)else p) k'=if k'=k then Z v else d2 a k'
 |[],h=>by simp at h
 |(x,d)::a,h=>by
  rw[mP1];by_cases f:x=k
  ·subst f;rw[ak (show(x,d).1=x from rfl)];rw[eV,eV];by_cases b:k'=x
   ·subst b;simp
   ·rw[aj (Ne.symm b),aj (Ne.symm b),aj b];by_cases g:(a.any λp=>decide (p.1=x))=M
    ·rw[k4 g,aj b]
    ·have:(a.map fun p=>if p.1=x then (p.1,v) else p)=a:=by
      have e:(a.any λp=>decide (p.1=x))=J:=Bool.eq_false_iff.mpr g;rw[List.any_eq_false]at e
      conv=>rhs;rw[<- List.map_id a]
      apply dg;intro p i;have:=e p i;simp at this;simp[this]
     rw[this]
  ·simp only[bd,ai f,Bool.false_or]at h;rw[aj (show¬ (x,d).1=k from f)];rw[eV,eV,k4 h];by_cases c:x=k'
   ·subst c;simp[f]
   ·simp[c]
theorem sj{κ:Type}[DecidableEq κ]{k k':κ}{v:D}{a:List (κ×D)}:d2 (e6 a k v) k'=if k'=k then Z v else d2 a k':=by
 unfold e6;split
 ·rename_i h;exact k4 h
 ·rename_i h;have h':(a.any λp=>decide (p.1=k))=J:=Bool.eq_false_iff.mpr h;rw[sm,eV,zJ];by_cases b:k'=k
  ·subst b;rw[k6 h',ak O];rfl
  ·rw[aj (Ne.symm b),aj b];cases d2 a k'<;>rfl
theorem vd{κ:Type}[DecidableEq κ]{k:κ}{v:D}{a:List (κ×D)}:(e6 a k v).length<=a.length+1:=by
 unfold e6;split
 ·rw[lM1];lia
 ·rw[lA1];simp
theorem DW{κ:Type}[DecidableEq κ]{k:κ}{v:D}{a:List (κ×D)}:e6 a k v≠[]:=by
 unfold e6;split
 ·rename_i h;intro z;cases a with
  |nil=>simp at h
  |cons x xs=>simp at z
 ·simp
noncomputable def dO(F:List (TK×D)):Ob:=if F=[]then .dct []else .dcT F
theorem Fv{U:Sto}{n i:Nat}{xs:List D}{x:D}{Q:D×Sto->Prop}(h:U[n]?=Z (.lst xs))(hx:xs[i]?=Z x)(hb:i<1000)(q:Q (x,U.set n (.lst (xs.eraseIdx i)))):W (z0 (.ref n) (.int i) U) Q:=by
 have a:=(gE1.mp hx).1;refine W.of ?_ q;simp only[z0,h];rw[ak ⟨by lia,by lia⟩];simp only[vI,ak (show(0:Int)<=i by lia)];rw[ak (by lia)];simp[hx]
theorem zZ{d:D}{S G:Sto}(hd:d.und 0=M)(a:S.all (Ob.und S.length)=M):gc S.length (d,S++G)=(d,S):=by
 unfold gc;dsimp only;rw[de,ak (by rw[fr hd,a];rfl)]
theorem qq{d:D}{S V:Sto}(hd:d.und 0=M)(a:S.all (Ob.und S.length)=M)(hp:S <+: V):gc S.length (d,V)=(d,S):=by
 obtain⟨G,rfl⟩:=hp;exact zZ hd a
theorem qC{m:FA}{r:Ev}{S:Sto}{xs ys:List D}{n:Nat}{Q:AO×Sto->Prop}(hm:m r S=Z ([.tup xs,.ref n],S))(hn:S[n]?=Z (.lst ys))(q:Q (⟨tI xs ys,[(n,ys)]⟩,S)):W (AT m r S) Q:=by
 refine W.of (x:=(⟨tI xs ys,[(n,ys)]⟩,S)) ?_ q;simp only[AT,hm,oS1,u6,gR hn,v8,v9 hn,c4]
theorem mo{α:Type}{f g:α->D}:∀l:List α,tI (l.map f) (l.map g)=l.map λx=>D.tup [f x,g x]
 |[]=>rfl
 |a::l=>by rw[mP1,mP1,tI,mo l];rfl
theorem Hy{m:FA}{r:Ev}{S:Sto}{xs:List D}{Q:AO×Sto->Prop}(hm:m r S=Z ([.tup xs],S))(q:Q (⟨xM 0 xs,[]⟩,S)):W (FL m r S) Q:=by
 refine W.of (x:=(⟨xM 0 xs,[]⟩,S)) ?_ q;simp only[FL,hm,oS1,u6,v8]
theorem Ap{α:Type}{f:α->D}:∀(l:List α) (k:Nat),xM k (l.map f)=(l.zipIdx k).map λp=>D.tup [.int (p.2:Nat),f p.1]
 |[],_=>rfl
 |a::l,k=>by rw[mP1,xM,Ap l (k+1),bM];rfl
theorem wt{α:Type}{l:List α}{p:α×Nat}(h:p∈l.zipIdx):l[p.2]?=Z p.1:=by
 have:=List.mem_zipIdx_iff_getElem?.mp h;exact this
theorem tJ{α β:Type}(f:α->β)(l:List α):(l.zipIdx.map λp=>f p.1)=l.map f:=by
 have:(λp:α×Nat=>f p.1)=f∘Prod.fst:=rfl;rw[this,<- bv,List.zipIdx_map_fst]
mutual
theorem DJ{n:Nat}:∀{d:D},d.und 0=M->d.sh n=d
 | .non,_=>rfl
 | .bl _,_=>rfl
 | .int _,_=>rfl
 | .str _,_=>rfl
 | .tup xs,h=>by rw[D.und]at h;rw[D.sh,l9 h]
 | .rol xs,h=>by rw[D.und]at h;rw[D.sh,l9 h]
 | .fn _,_=>rfl
 | .ref k,h=>by simp[D.und]at h
theorem l9{n:Nat}:∀{ds:List D},D.unds 0 ds=M->D.shs n ds=ds
 |[],_=>rfl
 |d::ds,h=>by
  rw[D.unds,bA1]at h;rw[D.shs,DJ h.1,l9 h.2]
end
theorem Hn{n:Nat}{f:FN}{ds:List D}{S:Sto}{Q:D×Sto->Prop}(hn:ds.length=n)(b:D.unds 0 ds=M)(h:W (f ds []) λp=>∃xs,p=(.ref 0,[.lst xs])/\D.unds 0 xs=M/\Q (.ref S.length,S++[.lst xs])):W (dX n f ds S) Q:=by
 obtain⟨p,e,xs,rfl,d,q⟩:=h;refine⟨_,sY e hn b O,?_⟩;have c:(D.ref 0).sh S.length = .ref S.length:=rfl;have a:[Ob.lst xs].map (Ob.sh S.length)=[Ob.lst xs]:=by rw[mP1,aZ,Ob.sh,l9 d]
 rw[c,a];exact q
theorem EK{ns:List Int}{k:Int}:k∈ddI ns↔k∈ns:=by
 have key:∀(ns a:List Int),k∈ns.foldl step_dedup a↔k∈a\/k∈ns:=by
  intro ns
  induction ns with
  |nil=>intro a;simp
  |cons n ns ih=>
   intro a;rw[cb,ih];have:k∈step_dedup a n↔k∈a\/k=n:=by
    unfold step_dedup;split
    ·rename_i h;obtain⟨x,b,e⟩:=bT.mp h;have e:=beq_iff_eq.mp e;subst e;constructor
     ·exact .inl
     ·rintro(z|z)
      ·exact z
      ·rw[z];exact b
    ·simp
   rw[this,aF,or_assoc]
 unfold ddI;rw[key];simp
theorem A9{xs:List Nat}{m:Nat}{f:Nat->Bool}(h:∀r,r∈xs↔r<m/\f r=M):jP (ddI (xs.map λ(r:Nat)=>(r:Int)))=((af m).filter f).map λ(r:Nat)=>(r:Int):=by
 refine pV ?_ (mz _) ?_
 ·refine(ip _).trans ?_;refine(List.perm_ext_iff_of_nodup (sR _ [] bq) ?_).mpr λk=>?_
  ·refine dj.mpr ((List.nodup_range.filter f).imp λb z=>b (by lia))
  ·show k∈ddI _↔_;rw[EK,ci,ci];constructor
   ·rintro⟨r,a,rfl⟩;exact⟨r,aA.mpr ⟨aB.mpr ((h r).mp a).1,((h r).mp a).2⟩,O⟩
   ·rintro⟨r,a,rfl⟩;obtain⟨h1,h2⟩:=aA.mp a;exact⟨r,(h r).mpr ⟨aB.mp h1,h2⟩,O⟩
 ·refine dj.mpr ((List.pairwise_lt_range.sublist List.filter_sublist).imp λc=>by lia)
theorem Cd(xs:List Nat):m7 (eP xs)=Z (xs.map λ(r:Nat)=>(r:Int)):=by
 induction xs with
 |nil=>rfl
 |cons x xs ih=>
  show(m7 (eP xs)).map _=_;rw[ih];rfl
theorem xF{S:Sto}{n:Nat}{xs:List Nat}{m:Nat}{f:Nat->Bool}{Q:D×Sto->Prop}(hn:S[n]?=Z (.lst (eP xs)))(h:∀r,r∈xs↔r<m/\f r=M)(a:xs.length<64)(q:Q (.ref S.length,S++[.lst (eP ((af m).filter f))])):W (iZ (.ref n) S) Q:=by
 refine W.of (x:=(.ref S.length,S++[.lst (eP ((af m).filter f))])) ?_ q;simp only[iZ,gR hn,Cd,oS1];rw[ak (by rw[lM1];exact a),A9 h,bv];rfl
end Mi
end
local macro_rules | `(tactic| walk_at"w") => `(tactic| simp only[Mi.eB, Mi.jH, Mi.ite_and', Mi.d5, Mi.kP, Mi.tq, Mi.d9, Mi.eh, Mi.hI, Mi.fu, Mi.fi, Mi.qS, Mi.mN, Mi.dS, Mi.dU, Mi.m2, Mi.m1, Mi.mV, Mi.mC, Mi.AI, Mi.Fx, Mi.mB, Mi.sd, Mi.FK, Mi.wT, Mi.vz, Mi.gu, Mi.GM, Mi.Dw, Mi.gN, Mi.gT, Mi.gCs, Mi.gNl, Mi.gS, Mi.b1, Mi.b2, Mi.b3, Mi.iD, Mi.hG, Mi.kQ, Mi.Df, Mi.Hx, Mi.Gi, Mi.HL, Mi.iU, Mi.nR, Mi.FB, Mi.gSub, Mi.iI, Mi.nT, Mi.Cq, Mi.Cm, Mi.Cp, Mi.Kk, Mi.Kj, Mi.Jv, Mi.Ki, Mi.Kh, Mi.Kg, Mi.Kf, true_and, Mi.g0, Mi.ee, bI, lA1, dk, gC1, List.getElem?_nil, c7, c9, lC1, bf, mP1, aZ, Mi.J8, Mi.J7, Mi.JS, Mi.JQ, Mi.JP, Mi.JO, Mi.JN, Mi.JM, Mi.Iy, c4, bj, aM, Nat.reduceAdd, Nat.reduceSub, Option.join_some, Option.join_none, oP1, Option.map_none, oS1, Option.bind_none, if_true, if_false, bF1, b7, cp, ite_true, ite_false, reduceIte, decide_true, decide_false, Mi.Km, Mi.Kl, Mi.gC, Mi.Fz, Mi.AJ, Mi.Hw])
noncomputable section
namespace Law
open PySem PySem.Spec PyProof.Rows L2 Mi
noncomputable def top (i:Nat):dQ:=PySem.Challenge.pw_ringmeet_k29_walks_by_beats.main.body.getD i (.Pass ⟨0,0,0,0⟩)
abbrev BL:List Str:=["dict","enumerate","int","len","list","max","min","range","repr","set","sorted","tuple","zip"]
noncomputable def mi:D:=(D.tup [(D.tup [(D.str "came"),(D.int 5)]),(D.tup [(D.str "chalk"),(D.int 2)]),(D.tup [(D.str "doors"),(D.int 5)]),(D.tup [(D.str "others"),(D.int 2)])])
section
variable{P:dF}{w:dH}{K:Fg1}{mg:Str->Option dB}{base h:dN}(X:K.In h) (G:h.Ns dI mg) (B:Blt BL mg)
include X G B
abbrev mF:dQ:=top 3
noncomputable def j9:FT:=(mB (m2 (b2 xL) (mV 2) (mV 3)))
noncomputable def j8:FS:=(d9 (eh (m2 (b2 nU) (m2 (b2 fS) (mV 2) (mV 3)) (mC (D.int 2))) (gN 4))
  (hI (mB (m2 (b2 xL) (m2 (b2 dW) (m2 (b2 dW) (m2 (b2 dW) (mV 0) (mV 4)) (mC (D.int 0))) (mC (D.int 0))) (mV 1))) (eh (m2 (b2 fS) (mV 4) (mC (D.int 1))) (gN 2)) (eh (mV 4) (gN 3))))
noncomputable def nD:FS:=(d9 (eh (mC (D.int 0)) (gN 2))
  (d9 (eh (mN (b1 eS) (dS (mV 0) dU)) (gN 3))
  (d9 (qM j9 j8 100000)
  (fu (mV 2)))))
noncomputable def gL:FN:=iD 5 nD
theorem rM {f:dE}(F:eM K "first_of" mF f):
  fO P w K mg base 1 "first_of" 2 gL:=xq ["rows","mood","low","high","middle"] X G F λa=>
 (qF (sq qK) (qF (sq (cn fy (a1 xv))) (qF (kU 100000 PassesOwn.never (ct (oq lF) xv xv) (qF (sq (qI vv (qI fT xv xv) qK)) (qG (qV (ct (oq lF) (jq (jq (jq xv xv) qK) qK) xv) (qG (sq (qI fT xv qK))) (qG (sq xv)))))) (qG (qU xv)))))
abbrev va:dQ:=top 5
noncomputable def wf:FS:=(d9 (eh (mV 0) (gT 2 (gCs (gN 1) (gCs (gN 2) gNl))))
  (fu (eQ (dS (mN (b1 gTup) (dS (e0 1 [] (iH (mV 1)) (gN 0) gu (eI (eQ (dS (mV 0) (dS (mC (D.int 0)) (dS (mC (D.int 0)) dU)))))) dU)) (dS (mV 2) dU)))))
noncomputable def kk:FN:=iD 3 wf
theorem zg {f:dE}(F:eM K "begun" va f):
  fO P w K mg base 1 "begun" 1 kk:=xq ["standing","rooms","chalk"] X G F λa=>
 (qF (qR xv (tg2 gq gq)) (qG (qU (ed (a2 (cz e9 (a1 (fk ["room"] (qd xv) ⟨gq,fK,(ed (a3 xv qK qK))⟩))) xv)))))
abbrev mE:dQ:=top 6
noncomputable def nC:FS:=(d9 (eh (mV 2) (gT 2 (gCs (gN 4) (gCs (gN 5) gNl))))
  (d9 (eh (m2 (b2 dW) (mV 4) (mV 3)) (gT 3 (gCs (gN 6) (gCs (gN 7) (gCs (gN 8) gNl)))))
  (d9 (eh (e0 1 [6] (iH (mV 4)) (gN 0) (mB (m2 (b2 oR) (m2 (b2 dW) (mV 0) (mC (D.int 0))) (mV 1))) (eI (mV 0))) (gN 9))
  (d9 (eh (r9 [((mC (D.str "came")),(mV 7)),((mC (D.str "chalk")),(vz (mB (m2 (b2 i3) (mV 6) (mV 5))) (mC (D.int 1)) (mC (D.int 0)))),((mC (D.str "doors")),(mN (b1 eS) (dS (m2 (b2 dW) (mV 0) (mV 6)) dU))),((mC (D.str "others")),(vz (mB (m2 (b2 (iI λi j=>decide (j<i))) (mN (b1 eS) (dS (mV 9) dU)) (mC (D.int 1)))) (mC (D.int 1)) (mC (D.int 0))))]) (gN 10))
  (fu (mN (b1 gTup) (dS (e0 2 [1,10] (iH (mC mi)) (gT 2 (gCs (gN 0) (gCs (gN 1) gNl))) gu (eI (vz (mB (m2 (b2 i3) (mV 0) (mV 2))) (m2 (b2 dW) (mV 3) (mV 0)) (mC D.non)))) dU)))))))
noncomputable def gK:FN:=iD 11 nC
theorem rL {f:dE}(F:eM K "sight_of" mE f)(a:CGl K mg "PARTS" mi):
  fO P w K mg base 1 "sight_of" 4 gK:=xq ["web","eyes","whole","k","walkers","chalk","room","came","mood","here","parts"] X G F λb=>
 (qF (qR xv (tg2 gq gq)) (qF (qR (jq xv xv) (gQ O (d8 gq (d8 gq (d8 gq gj))))) (qF (gE 9 O (T:=["other"]) (keep:=[6]) ⟨O,by decide+kernel,(kc "room" (cS _))⟩ O (qd xv) (λ_ _ _=>⟨gq,(fz (ct (oq k3) (jq xv qK) xv)),xv⟩) (gZ O) O (by first|exact Or.inl rfl|exact Or.inr rfl)) (qF (sq (ra (gi eE xv (gi eE (pC (ct (oq oC) xv xv (by with_unfolding_all rfl)) qK qK) (gi eE (cn fy (a1 (jq xv xv))) (gi eE (pC (ct zm (cn fy (a1 xv)) qK) qK qK) uT)))))) (qG (qU (cz e9 (a1 (fk ["eye","many"] (qd (xX a rfl)) ⟨(tg2 gq gq),fK,(pC (ct (oq oC) xv xv (by with_unfolding_all rfl)) (jq xv xv) gf)⟩)))))))))
abbrev oj:dQ:=top 10
noncomputable def pu:FS:=(d9 (eh (mV 0) (gT 2 (gCs (gN 2) (gCs (gN 3) gNl))))
  (d9 (eh (e0 2 [] (AT (dS (mV 2) (dS (mV 1) dU))) (gT 2 (gCs (gN 0) (gCs (gN 1) gNl))) (mB (m2 (b2 oR) (m2 (b2 dW) (mV 1) (mC (D.int 1))) (mC (D.str "mark")))) (eI (m2 (b2 dW) (mV 0) (mC (D.int 0))))) (gN 4))
  (d9 (eh (e0 2 [] (AT (dS (mV 2) (dS (mV 1) dU))) (gT 2 (gCs (gN 0) (gCs (gN 1) gNl))) (mB (m2 (b2 oR) (m2 (b2 dW) (mV 1) (mC (D.int 1))) (mC (D.str "wipe")))) (eI (m2 (b2 dW) (mV 0) (mC (D.int 0))))) (gN 5))
  (d9 (eh (e0 1 [5] (iH (mV 3)) (gN 0) (mB (m2 (b2 fG) (mV 0) (mV 1))) (eI (mV 0))) (gN 6))
  (fu (mN (b1 gTup) (dS (mN (b1 iZ) (dS (m2 (b2 fS) (mV 6) (mV 4)) dU)) dU)))))))
noncomputable def ij:FN:=iD 7 pu
theorem uj {f:dE}(F:eM K "handled" oj f):
  fO P w K mg base 1 "handled" 2 ij:=xq ["whole","deeds","walkers","chalk","marked","wiped","left"] X G F λa=>
 (qF (qR xv (tg2 gq gq)) (qF (gE 4 O (T:=["walker","deed"]) (keep:=[]) ⟨O,by decide+kernel,(cS _)⟩ O (jM O (bz B) (a2 xv xv)) (λ_ _ _=>⟨(tg2 gq gq),(fz (ct (oq k3) (jq xv qK) eE)),(jq xv qK)⟩) (gZ O) O (by first|exact Or.inl rfl|exact Or.inr rfl)) (qF (sq (fk ["walker","deed"] (jM rfl (bz B) (a2 xv xv)) ⟨(tg2 gq gq),(fz (ct (oq k3) (jq xv qK) eE)),(jq xv qK)⟩)) (qF (gE 6 rfl (T:=["room"]) (keep:=[5]) ⟨rfl,by decide+kernel,(kc "wiped" (cS _))⟩ rfl (qd xv) (λ_ _ _=>⟨gq,(fz (ct (oq mU) xv xv (by with_unfolding_all rfl))),xv⟩) (gZ O) O (by first|exact Or.inl rfl|exact Or.inr rfl)) (qG (qU (cz e9 (a1 (wu rfl rfl (bz B) rfl (bz B) (qI fT xv xv))))))))))
abbrev oi:dQ:=top 11
noncomputable def pp:FS:=(d9 (eh (mV 1) (gT 3 (gCs (gN 3) (gCs (gN 4) (gCs (gN 5) gNl)))))
  (d9 (eh (mV 2) (gT 3 (gCs (gN 6) (gCs (gN 7) (gCs (gN 8) gNl)))))
  (d9 (hI (FK (mB (m2 (b2 Cn) (mV 8) (mC D.non))) (mB (m2 (b2 (iI λi j=>decide (j<=i))) (mV 8) (mN (b1 eS) (dS (m2 (b2 dW) (mV 0) (mV 3)) dU))))) (fu (eQ (dS (mV 3) (dS (mV 4) (dS (mV 6) dU))))) qS)
  (d9 (eh (m2 (b2 dW) (m2 (b2 dW) (mV 0) (mV 3)) (mV 8)) (gT 2 (gCs (gN 9) (gCs (gN 10) gNl))))
  (fu (eQ (dS (mV 9) (dS (m2 (b2 fS) (mC (D.int 1)) (mV 10)) (dS (mV 6) dU)))))))))
noncomputable def ii:FN:=iD 11 pp
theorem ui {f:dE}(F:eM K "stepped" oi f):
  fO P w K mg base 1 "stepped" 3 ii:=xq ["web","walker","deed","room","came","past","mood","hand","step","there","back"] X G F λa=>
 (qF (qR xv (gQ O (d8 gq (d8 gq (d8 gq gj))))) (qF (qR xv (gQ O (d8 gq (d8 gq (d8 gq gj))))) (qF (qV (ll (tK (ct GA xv gf) (pz (ct GD xv (cn fy (a1 (jq xv xv))))))) (qG (qU (ed (a3 xv xv xv)))) qQ) (qF (qR (jq (jq xv xv) xv) (tg2 gq gq)) (qG (qU (ed (a3 xv (qI fT qK xv) xv))))))))
abbrev lp:dQ:=top 15
noncomputable def i9:FS:=(d9 (eh (mC (D.int 0)) (gN 2))
  (d9 (hI (mB (m2 (b2 xL) (mV 1) (mN (b1 eS) (dS (mV 0) dU)))) (eh (m2 (b2 dW) (mV 0) (mV 1)) (gN 2)) qS)
  (d9 (eh (m2 (b2 jp) (m2 (b2 kx) (mV 2) (m2 (b2 jp) (m2 (b2 uB) (mC (D.int 10)) (mC (D.int 60))) (m2 (b2 uB) (mC (D.int 10)) (mC (D.int 30))))) (mN (b1 nT) (dS (m2 (b2 (iI λi j=>decide (j<=i))) (mV 2) (m2 (b2 uB) (mC (D.int 10)) (mC (D.int 18)))) dU))) (gN 3))
  (fu (jD (dS (mV 3) (dS (m2 (b2 kx) (m2 (b2 fS) (m2 (b2 fS) (m2 (b2 kx) (mV 2) (mC (D.int 2305843009213693951))) (m2 (b2 jp) (mC (D.int 7919)) (mV 1))) (mC (D.int 3))) (mC (D.int 2305843009213693951))) (dS (mC (D.int 0)) dU))))))))
noncomputable def fC:FN:=iD 4 i9
theorem p7 {f:dE}(F:eM K "_law_hand" lp f):
  fO P w K mg base 1 "_law_hand" 2 fC:=xq ["_law_script","_law_k","_law_cell","_law_great"] X G F λa=>
 (qF (sq qK) (qF (qV (ct (oq lF) xv (cn fy (a1 xv))) (qG (sq (jq xv xv))) qQ) (qF (sq (qI kb (qI lE xv (qI kb (qI zj qK qK) (qI zj qK qK))) (cz wb (a1 (ce GD xv (qI zj qK qK)))))) (qG (qU (gz (a3 xv (qI lE (qI fT (qI fT (qI lE xv qK) (qI kb qK xv)) qK) qK) qK)))))))
abbrev ln:dQ:=top 16
noncomputable def i8:FS:=(d9 (hI (mB (m2 (b2 (iI fun i j=>decide (j<i))) (m2 (b2 dW) (mV 0) (mC (D.int 0))) (mC (D.int 0)))) (d9 (eh (m2 (b2 kx) (m2 (b2 dW) (mV 0) (mC (D.int 0))) (mV 1)) (gN 2))
  (d9 (eh (m2 (b2 nU) (m2 (b2 dW) (mV 0) (mC (D.int 0))) (mV 1)) (gS (b3 i0) (mV 0) (mC (D.int 0))))
  (fu (mV 2)))) qS)
  (d9 (eh (m2 (b2 fS) (m2 (b2 dW) (mV 0) (mC (D.int 2))) (mC (D.int 1))) (gS (b3 i0) (mV 0) (mC (D.int 2))))
  (d9 (eh (m2 (b2 kx) (m2 (b2 jp) (m2 (b2 fS) (m2 (b2 fS) (m2 (b2 dW) (mV 0) (mC (D.int 1))) (m2 (b2 jp) (m2 (b2 jp) (mC (D.int 65537)) (m2 (b2 dW) (mV 0) (mC (D.int 2)))) (m2 (b2 dW) (mV 0) (mC (D.int 2))))) (mC (D.int 11))) (mC (D.int 48271))) (mC (D.int 2305843009213693921))) (gN 3))
  (d9 (eh (m2 (b2 kx) (m2 (b2 jp) (mV 3) (m2 (b2 fS) (m2 (b2 kx) (mV 3) (mC (D.int 1000003))) (m2 (b2 jp) (mC (D.int 99991)) (m2 (b2 dW) (mV 0) (mC (D.int 2)))))) (mC (D.int 2305843009213693907))) (gN 3))
  (fu (m2 (b2 kx) (m2 (b2 fS) (m2 (b2 nU) (mV 3) (mC (D.int 97))) (m2 (b2 nU) (mV 3) (mC (D.int 1000033)))) (mV 1)))))))
noncomputable def dV:FN:=iD 4 i8
theorem pZ {f:dE}(F:eM K "_law_take" ln f):
  fO P w K mg base 1 "_law_take" 2 dV:=xq ["_law_hand_here","_law_many","_law_digit","_law_mixed"] X G F λa=>
 (qF (qV (ct zm (jq xv qK) qK) (qF (sq (qI lE (jq xv qK) xv)) (qF (qR (qI vv (jq xv qK) xv) (l7 xv qK (pS a.units))) (qG (qU xv)))) qQ) (qF (qR (qI fT (jq xv qK) qK) (l7 xv qK (pS a.units))) (qF (sq (qI lE (qI kb (qI fT (qI fT (jq xv qK) (qI kb (qI kb qK (jq xv qK)) (jq xv qK))) qK) qK) qK)) (qF (sq (qI lE (qI kb xv (qI fT (qI lE xv qK) (qI kb qK (jq xv qK)))) qK)) (qG (qU (qI lE (qI fT (qI vv xv qK) (qI vv xv qK)) xv)))))))
abbrev mI:dQ:=top 18
noncomputable def nG:FS:=(d9 (eh (m2 (b2 dW) (m2 (b2 dW) (mV 1) (m2 (b2 dW) (mV 2) (mC (D.int 0)))) (m2 (b2 gSub) (mC (D.int 1)) (m2 (b2 dW) (mV 2) (mC (D.int 1))))) (gN 3))
  (fu (eQ (dS (mV 3) (dS (oG (b2 Ab) (m2 (b2 dW) (mV 0) (mV 3)) (dS (eQ (dS (m2 (b2 dW) (mV 2) (mC (D.int 0))) (dS (m2 (b2 gSub) (mC (D.int 1)) (m2 (b2 dW) (mV 2) (mC (D.int 1)))) dU))) dU)) dU)))))
noncomputable def ga:FN:=iD 4 nG
theorem rQ {f:dE}(F:eM K "_law_far" mI f):
  fO P w K mg base 1 "_law_far" 3 ga:=xq ["_law_ends","_law_pairs","_law_end","_law_room"] X G F λa=>
 (qF (sq (jq (jq xv (jq xv qK)) (qI zi qK (jq xv qK)))) (qG (qU (ed (a2 xv (qe PySem.F.slot_list_index PySem.F.type_list_index (FZ a.units) (jq xv xv) (a1 (ed (a2 (jq xv qK) (qI zi qK (jq xv qK)))))))))))
abbrev jU:dQ:=top 22
noncomputable def kJ:FS:=(d9 (eh (m2 (b2 dW) (m2 (b2 dW) (mV 2) (mC (D.int 0))) (mV 3)) (gT 3 (gCs (gN 4) (gCs (gN 5) (gCs (gN 6) gNl)))))
  (d9 (eh (mN (b1 eS) (dS (e0 1 [4] (iH (m2 (b2 dW) (mV 2) (mC (D.int 0)))) (gN 0) (mB (m2 (b2 oR) (m2 (b2 dW) (mV 0) (mC (D.int 0))) (mV 1))) (eI (mV 0))) dU)) (gN 7))
  (d9 (eh (r9 [((mC (D.str "came")),(mV 5)),((mC (D.str "chalk")),(mN (b1 nT) (dS (m2 (b2 i3) (mV 4) (m2 (b2 dW) (mV 2) (mC (D.int 1)))) dU))),((mC (D.str "doors")),(mN (b1 eS) (dS (m2 (b2 dW) (mV 0) (mV 4)) dU))),((mC (D.str "others")),(mN (b1 nT) (dS (m2 (b2 (iI λi j=>decide (j<i))) (mV 7) (mC (D.int 1))) dU)))]) (gN 8))
  (fu (mN (b1 gTup) (dS (e0 1 [1,8] (iH (eQ (dS (mC (D.str "came")) (dS (mC (D.str "chalk")) (dS (mC (D.str "doors")) (dS (mC (D.str "others")) dU)))))) (gN 0) gu (eI (vz (mB (m2 (b2 i3) (mV 0) (mV 1))) (m2 (b2 dW) (mV 2) (mV 0)) (mC D.non)))) dU))))))
noncomputable def eX:FN:=iD 9 kJ
theorem nN {f:dE}(F:eM K "_law_sight" jU f):
  fO P w K mg base 1 "_law_sight" 4 eX:=xq ["_law_web_here","_law_eyes","_law_whole","_law_k","_law_room","_law_came","_law_mood","_law_crowd","_law_parts"] X G F λa=>
 (qF (qR (jq (jq xv qK) xv) (gQ O (d8 gq (d8 gq (d8 gq gj))))) (qF (sq (cn fy (a1 (fk ["_law_walker"] (qd (jq xv qK)) ⟨gq,(fz (ct (oq k3) (jq xv qK) xv)),xv⟩)))) (qF (sq (ra (gi eE xv (gi eE (cz wb (a1 (ce (oq oC) xv (jq xv qK) (by with_unfolding_all rfl)))) (gi eE (cn fy (a1 (jq xv xv))) (gi eE (cz wb (a1 (ce zm xv qK))) uT)))))) (qG (qU (cz e9 (a1 (fk ["_law_eye"] (qd (ed (qA eE (a3 eE eE eE)))) ⟨gq,fK,(pC (ct (oq oC) xv xv (by with_unfolding_all rfl)) (jq xv xv) gf)⟩))))))))
abbrev iO:dQ:=top 23
noncomputable def ig:FS:=(d9 (eh (e0 2 [4] (AT (dS (m2 (b2 dW) (mV 1) (mC (D.int 0))) (dS (mV 2) dU))) (gT 2 (gCs (gN 0) (gCs (gN 1) gNl))) (mB (m2 (b2 oR) (m2 (b2 dW) (mV 0) (mC (D.int 0))) (mV 2))) (eI (m2 (b2 dW) (mV 1) (mC (D.int 1))))) (gN 5))
  (hI (FK (mB (m2 (b2 i3) (mC (D.str "mark")) (mV 5))) (sd (mB (m2 (b2 i3) (mV 4) (m2 (b2 dW) (mV 1) (mC (D.int 1))))) (mB (m2 (b2 fG) (mC (D.str "wipe")) (mV 5))))) (fi (oG (b2 jr) (mV 3) (dS (mV 4) dU))) qS))
noncomputable def ja:FS:=(d9 (eh (jD dU) (gN 3))
  (d9 (iU (uy (dS (mN (b1 eS) (dS (mV 0) dU)) dU)) (gN 4) ig)
  (fu (mN (b1 gTup) (dS (mV 3) dU)))))
noncomputable def fD:FN:=iD 6 ja
theorem lW {f:dE}(F:eM K "_law_chalked" iO f):
  fO P w K mg base 1 "_law_chalked" 3 fD:=xq ["_law_web_here","_law_whole","_law_dealt","_law_found","_law_room","_law_hands"] X G F λa=>
 (qF (sq (gz qN)) (qF (fo (ir (a1 (cn fy (a1 xv)))) gq (qF (gE 5 O (T:=["_law_walker","_law_deed_here"]) (keep:=[4]) ⟨O,by decide+kernel,(kc "_law_room" (cS _))⟩ O (jM O (bz B) (a2 (jq xv qK) xv)) (λ_ _ _=>⟨(tg2 gq gq),(fz (ct (oq k3) (jq xv qK) xv)),(jq xv qK)⟩) (gZ O) O (by first|exact Or.inl rfl|exact Or.inr rfl)) (qG (qV (ll (tK (ct (oq oC) eE xv (by with_unfolding_all rfl)) (pz (ll (jK (ct (oq oC) xv (jq xv qK) (by with_unfolding_all rfl)) (iJ (ct (oq mU) eE xv (by with_unfolding_all rfl)))))))) (qG (lq ap xv (a1 xv))) qQ)))) (qG (qU (cz e9 (a1 xv))))))
abbrev ol:dQ:=top 2
noncomputable def lD:FT:=(sd (mB (m2 (b2 xL) (mV 4) (mN (b1 eS) (dS (mV 3) dU)))) (mB (m2 (b2 oR) (m2 (b2 dW) (m2 (b2 dW) (m2 (b2 dW) (mV 3) (mV 4)) (mC (D.int 0))) (mC (D.int 0))) (mV 1))))
noncomputable def lC:FS:=(d9 (hI (mB (m2 (b2 oR) (m2 (b2 dW) (m2 (b2 dW) (m2 (b2 dW) (mV 3) (mV 4)) (mC (D.int 0))) (mC (D.int 1))) (mV 2))) (fu (m2 (b2 dW) (m2 (b2 dW) (mV 3) (mV 4)) (mC (D.int 1)))) qS)
  (B2 4 (b2 Ac) (mC (D.int 1))))
noncomputable def px:FS:=(d9 (eh (m2 (b2 dW) (mV 0) (mC (D.int 1))) (gN 3))
  (d9 (eh (mN (dX 2 gL) (dS (mV 3) (dS (mV 1) dU))) (gN 4))
  (d9 (qM lD lC 100000)
  (fu (eQ (dS (mV 1) (dS (mC (D.str "leave")) (dS (mC D.non) dU))))))))
noncomputable def f0:FN:=iD 5 px
theorem uk {f:dE}(F:eM K "deed_of" ol f)(a:fO P w K mg base 1 "first_of" 2 gL):
  fO P w K mg base 2 "deed_of" 3 f0:=xq ["machine","mood","sight","rows","at"] X G F λb=>
 (qF (sq (jq xv qK)) (qF (sq (wn a (a2 xv xv))) (qF (kU 100000 PassesOwn.never (ll (jK (ct (oq lF) xv (cn fy (a1 xv))) (iJ (ct (oq k3) (jq (jq (jq xv xv) qK) qK) xv)))) (qF (qV (ct (oq k3) (jq (jq (jq xv xv) qK) qK) xv) (qG (qU (jq (jq xv xv) qK))) qQ) (qG (AZ 4 (gZ O) O (by first|exact Or.inl rfl|exact Or.inr rfl) qK Cb)))) (qG (qU (ed (a3 xv eE gf)))))))
abbrev u8:dQ:=top 7
noncomputable def wd:FS:=(fu (e0 2 [0,1,2] (FL (dS (m2 (b2 dW) (mV 2) (mC (D.int 0))) dU)) (gT 2 (gCs (gN 0) (gCs (gN 1) gNl))) gu (eI (eQ (dS (m2 (b2 dW) (mV 1) (mC (D.int 2))) (dS (mN (dX 4 gK) (dS (mV 2) (dS (mV 3) (dS (mV 4) (dS (mV 0) dU))))) dU))))))
noncomputable def kg:FN:=iD 3 wd
theorem ze {f:dE}(F:eM K "wants" u8 f)(a:fO P w K mg base 1 "sight_of" 4 gK):
  fO P w K mg base 2 "wants" 3 kg:=xq ["web","eyes","whole"] X G F λb=>
 (qG (qU (fk ["k","walker"] (ie (a1 (jq xv qK))) ⟨(tg2 gq gq),fK,(ed (a2 (jq xv qK) (wn a (qA xv (a3 xv xv xv)))))⟩)))
abbrev u9:dQ:=top 9
noncomputable def we:FS:=(d9 (eh (mV 1) (gT 2 (gCs (gN 3) (gCs (gN 4) gNl))))
  (d9 (eh (e0 2 [0] (AT (dS (mV 3) (dS (mV 2) dU))) (gT 2 (gCs (gN 0) (gCs (gN 1) gNl))) gu (eI (mN (dX 3 ii) (dS (mV 2) (dS (mV 0) (dS (mV 1) dU)))))) (gN 5))
  (fu (eQ (dS (mN (b1 gTup) (dS (mV 5) dU)) (dS (mN (dX 2 ij) (dS (mV 1) (dS (mV 2) dU))) dU))))))
noncomputable def kh:FN:=iD 6 we
theorem zf {f:dE}(F:eM K "moved" u9 f)(b:fO P w K mg base 1 "handled" 2 ij)(a:fO P w K mg base 1 "stepped" 3 ii):
  fO P w K mg base 2 "moved" 3 kh:=xq ["web","whole","deeds","walkers","chalk","behind"] X G F λc=>
 (qF (qR xv (tg2 gq gq)) (qF (gE 5 O (T:=["walker","deed"]) (keep:=[0]) ⟨O,by decide+kernel,(kc "web" (cS _))⟩ O (jM O (bz B) (a2 xv xv)) (λ_ _ _=>⟨(tg2 gq gq),fK,(wn a (a3 xv xv xv))⟩) (gZ O) O (by first|exact Or.inl rfl|exact Or.inr rfl)) (qG (qU (ed (a2 (cz e9 (a1 xv)) (wn b (a2 xv xv))))))))
abbrev mH:dQ:=top 17
noncomputable def nF:FS:=(d9 (fi (oG (b3 xc) (m2 (b2 dW) (mV 1) (mV 3)) (dS (mN (dX 2 dV) (dS (mV 0) (dS (m2 (b2 fS) (mN (b1 eS) (dS (m2 (b2 dW) (mV 1) (mV 3)) dU)) (mC (D.int 1))) dU))) (dS (eQ (dS (mN (b1 eS) (dS (mV 2) dU)) (dS (mC (D.int 0)) dU))) dU))))
  (d9 (fi (oG (b3 xc) (m2 (b2 dW) (mV 1) (mV 4)) (dS (mN (dX 2 dV) (dS (mV 0) (dS (m2 (b2 fS) (mN (b1 eS) (dS (m2 (b2 dW) (mV 1) (mV 4)) dU)) (mC (D.int 1))) dU))) (dS (eQ (dS (mN (b1 eS) (dS (mV 2) dU)) (dS (mC (D.int 1)) dU))) dU))))
  (fi (oG (b2 jr) (mV 2) (dS (eQ (dS (mV 3) (dS (mV 4) dU))) dU)))))
noncomputable def fQ:FN:=iD 5 nF
theorem rP {f:dE}(F:eM K "_law_tie" mH f)(a:fO P w K mg base 1 "_law_take" 2 dV):
  fO P w K mg base 2 "_law_tie" 5 fQ:=xq ["_law_hand_here","_law_ends","_law_pairs","_law_one","_law_other"] X G F (hb:=λ_ _ _ _ _ _ d b=>HR b λ_ _ _ _ _=>rfl) λc=>
 (qF (lq ⟨PySem.F.slot_list_insert,PySem.F.type_list_insert,CW⟩ (jq xv xv) (a2 (wn a (a2 xv (qI fT (cn fy (a1 (jq xv xv))) qK))) (ed (a2 (cn fy (a1 xv)) qK)))) (qF (lq ⟨PySem.F.slot_list_insert,PySem.F.type_list_insert,CW⟩ (jq xv xv) (a2 (wn a (a2 xv (qI fT (cn fy (a1 (jq xv xv))) qK))) (ed (a2 (cn fy (a1 xv)) qK)))) (qG (lq ap xv (a1 (ed (a2 xv xv)))))))
abbrev iE:dQ:=top 20
noncomputable def gX:FT:=(mB (m2 (b2 (iI λi j=>decide (j<i))) (mN (b1 eS) (dS (mV 3) dU)) (m2 (b2 fS) (mC (D.int 1)) (mN (dX 2 dV) (dS (mV 0) (dS (mV 2) dU))))))
noncomputable def gW:FS:=(fi (oG (b2 z0) (mV 3) (dS (mN (dX 2 dV) (dS (mV 0) (dS (mN (b1 eS) (dS (mV 3) dU)) dU))) dU)))
noncomputable def iF:FS:=(d9 (eh (zD (dS (mV 1) dU)) (gN 3))
  (d9 (qM gX gW 100000)
  (d9 (eh (mN (dX 2 dV) (dS (mV 0) (dS (mC (D.int 2)) dU))) (gN 4))
  (fu (eQ (dS (mN (b1 gTup) (dS (mV 3) dU)) (dS (mN (b1 gTup) (dS (e0 1 [4,0] (uy (dS (mV 1) dU)) (gN 0) (mB (m2 (b2 oR) (m2 (b2 jp) (mV 1) (mN (dX 2 dV) (dS (mV 2) (dS (mC (D.int 3)) dU)))) (mC (D.int 1)))) (eI (mV 0))) dU)) dU)))))))
noncomputable def ft:FN:=iD 5 iF
theorem k0 {f:dE}(F:eM K "_law_standing" iE f)(a:fO P w K mg base 1 "_law_take" 2 dV):
  fO P w K mg base 2 "_law_standing" 3 ft:=xq ["_law_hand_here","_law_many","_law_most","_law_rooms","_law_some"] X G F λb=>
 (qF (sq (tP O O (bz B) O (bz B) (a1 xv))) (qF (kU 100000 PassesOwn.never (ct zm (cn fy (a1 xv)) (qI fT qK (wn a (a2 xv xv)))) (qG (lq ⟨PySem.F.slot_list_pop,PySem.F.type_list_pop,FY⟩ xv (a1 (wn a (a2 xv (cn fy (a1 xv)))))))) (qF (sq (wn a (a2 xv qK))) (qG (qU (ed (a2 (cz e9 (a1 xv)) (cz e9 (a1 (fk ["_law_room"] (ir (a1 xv)) ⟨gq,(fz (ct (oq k3) (qI kb xv (wn a (a2 xv qK))) qK)),xv⟩))))))))))
abbrev hW:dQ:=top 21
noncomputable def il:FS:=(fu (mN (b1 gTup) (dS (e0 1 [0] (iH (eQ (dS (mC (D.str "came")) (dS (mC (D.str "chalk")) (dS (mC (D.str "doors")) (dS (mC (D.str "others")) dU)))))) (gN 0) (mB (m2 (b2 oR) (mN (dX 2 dV) (dS (mV 1) (dS (mC (D.int 2)) dU))) (mC (D.int 0)))) (eI (mV 0))) dU)))
noncomputable def fc:FN:=iD 1 il
theorem ka {f:dE}(F:eM K "_law_some_eyes" hW f)(a:fO P w K mg base 1 "_law_take" 2 dV):
  fO P w K mg base 2 "_law_some_eyes" 1 fc:=xq ["_law_hand_here"] X G F λb=>
 (qG (qU (cz e9 (a1 (fk ["_law_eye"] (qd (ed (qA eE (a3 eE eE eE)))) ⟨gq,(fz (ct (oq k3) (wn a (a2 xv qK)) qK)),xv⟩)))))
abbrev lz:dQ:=top 24
noncomputable def jx:FS:=(d9 (eh (m2 (b2 dW) (m2 (b2 dW) (m2 (b2 dW) (mV 3) (mC (D.int 0))) (mV 6)) (mC (D.int 2))) (gN 7))
  (fi (oG (b2 jr) (mV 4) (dS (qg (mV 2) (eQ (dS (mV 7) (dS (mN (dX 4 eX) (dS (mV 0) (dS (mV 1) (dS (mV 3) (dS (mV 6) dU))))) dU))) (eQ (dS (mV 7) (dS (mC (D.str "leave")) (dS (mC D.non) dU))))) dU))))
noncomputable def jw:FS:=(d9 (hI (sd (mB (m2 (b2 g9) (mV 12) (mC D.non))) (mB (m2 (b2 xL) (mV 12) (mN (b1 eS) (dS (m2 (b2 dW) (mV 0) (mV 8)) dU))))) (eh (eQ (dS (m2 (b2 dW) (m2 (b2 dW) (m2 (b2 dW) (mV 0) (mV 8)) (mV 12)) (mC (D.int 0))) (dS (m2 (b2 fS) (mC (D.int 1)) (m2 (b2 dW) (m2 (b2 dW) (m2 (b2 dW) (mV 0) (mV 8)) (mV 12)) (mC (D.int 1)))) dU))) (gT 2 (gCs (gN 8) (gCs (gN 9) gNl)))) qS)
  (fi (oG (b2 jr) (mV 5) (dS (eQ (dS (mV 8) (dS (mV 9) (dS (mV 10) dU)))) dU))))
noncomputable def lS:FS:=(d9 (eh (eQ (dS (jD dU) (dS (jD dU) dU))) (gT 2 (gCs (gN 4) (gCs (gN 5) gNl))))
  (d9 (iU (uy (dS (mN (b1 eS) (dS (m2 (b2 dW) (mV 3) (mC (D.int 0))) dU)) dU)) (gN 6) jx)
  (d9 (iU (AT (dS (m2 (b2 dW) (mV 3) (mC (D.int 0))) (dS (mV 4) dU))) (gT 2 (gCs (gT 3 (gCs (gN 8) (gCs (gN 9) (gCs (gN 7) gNl)))) (gCs (gT 3 (gCs (gN 10) (gCs (gN 11) (gCs (gN 12) gNl)))) gNl))) jw)
  (fu (eQ (dS (mN (b1 gTup) (dS (mV 5) dU)) (dS (mN (dX 3 fD) (dS (mV 0) (dS (mV 3) (dS (mV 4) dU)))) dU)))))))
noncomputable def gl:FN:=iD 13 lS
theorem p9 {f:dE}(F:eM K "_law_beat" lz f)(a:fO P w K mg base 1 "_law_chalked" 3 fD)(c:fO P w K mg base 1 "_law_sight" 4 eX):
  fO P w K mg base 2 "_law_beat" 4 gl:=xq ["_law_web_here","_law_eyes","_law_rows","_law_whole","_law_dealt","_law_walkers","_law_k","_law_mood","_law_room","_law_came","_law_later","_law_hand_here","_law_step"] X G F λb=>
 (qF (l6 4 5 O (gZ O) O O (by decide) O O (a2 (gz qN) (gz qN))) (qF (fo (ir (a1 (cn fy (a1 (jq xv qK))))) gq (qF (sq (jq (jq (jq xv qK) xv) qK)) (qG (lq ap xv (a1 (wv b.units xv (ed (a2 xv (wn c (qA xv (a3 xv xv xv))))) (ed (a3 xv eE gf)))))))) (qF (fo (jM O (bz B) (a2 (jq xv qK) xv)) (tg2 (gQ O (d8 gq (d8 gq (d8 gq gj)))) (gQ O (d8 gq (d8 gq (d8 gq gj))))) (qF (qV (ll (jK (ct mW xv gf) (iJ (ct (oq lF) xv (cn fy (a1 (jq xv xv))))))) (qG (l6 8 9 O (gZ O) O O (by decide) O O (a2 (jq (jq (jq xv xv) xv) qK) (qI fT qK (jq (jq (jq xv xv) xv) qK))))) qQ) (qG (lq ap xv (a1 (ed (a3 xv xv xv))))))) (qG (qU (ed (a2 (cz e9 (a1 xv)) (wn a (a3 xv xv xv)))))))))
abbrev lr:dQ:=top 25
noncomputable def lR:FS:=(d9 (eh (m2 (b2 dW) (eQ (dS (mC D.non) (dS (mC (D.int 0)) (dS (mC (D.int 1)) (dS (mC (D.int 2)) (dS (mC (D.int 3)) (dS (mC (D.int 0)) (dS (mC (D.int 1)) dU)))))))) (mN (dX 2 dV) (dS (mV 0) (dS (mC (D.int 7)) dU)))) (gN 1))
  (fu (eQ (dS (mN (dX 2 dV) (dS (mV 0) (dS (mC (D.int 3)) dU))) (dS (m2 (b2 dW) (eQ (dS (mC (D.str "leave")) (dS (mC (D.str "leave")) (dS (mC (D.str "mark")) (dS (mC (D.str "wipe")) dU))))) (mN (dX 2 dV) (dS (mV 0) (dS (mC (D.int 4)) dU)))) (dS (mV 1) dU))))))
noncomputable def gk:FN:=iD 2 lR
theorem p8 {f:dE}(F:eM K "_law_deed" lr f)(a:fO P w K mg base 1 "_law_take" 2 dV):
  fO P w K mg base 2 "_law_deed" 1 gk:=xq ["_law_hand_here","_law_step"] X G F λb=>
 (qF (sq (jq (ed (qA gf (qA qK (qA qK (qA qK (a3 qK qK qK)))))) (wn a (a2 xv qK)))) (qG (qU (ed (a3 (wn a (a2 xv qK)) (jq (ed (qA eE (a3 eE eE eE))) (wn a (a2 xv qK))) xv)))))
abbrev yC:dQ:=top 8
noncomputable def AF:FS:=(d9 (eh (mN (dX 3 kg) (dS (mV 0) (dS (m2 (b2 dW) (mV 1) (mC (D.int 0))) (dS (mV 2) dU)))) (gN 3))
  (fu (mN (dX 3 kh) (dS (mV 0) (dS (mV 2) (dS (e0 2 [1] (iH (mV 3)) (gT 2 (gCs (gN 0) (gCs (gN 1) gNl))) gu (eI (mN (dX 3 f0) (dS (mV 2) (dS (mV 0) (dS (mV 1) dU)))))) dU))))))
noncomputable def mZ:FN:=iD 4 AF
theorem BF {f:dE}(F:eM K "beat" yC f)(c:fO P w K mg base 2 "deed_of" 3 f0)(b:fO P w K mg base 2 "moved" 3 kh)(a:fO P w K mg base 2 "wants" 3 kg):
  fO P w K mg base 3 "beat" 3 mZ:=xq ["web","machine","whole","wanted"] X G F λd=>
 (qF (sq (wn a (a3 xv (jq xv qK) xv))) (qG (qU (wn b (a3 xv xv (fk ["mood","sight"] (qd xv) ⟨(tg2 gq gq),fK,(wn c (a3 xv xv xv))⟩))))))
abbrev mG:dQ:=top 19
noncomputable def ix:FS:=(d9 (eh (e0 1 [3] (uy (dS (mV 5) dU)) (gN 0) (mB (m2 (b2 xL) (mN (b1 eS) (dS (m2 (b2 dW) (mV 1) (mV 0)) dU)) (mC (D.int 4)))) (eI (mV 0))) (gN 6))
  (fi (mN (dX 5 fQ) (dS (mV 0) (dS (mV 3) (dS (mV 4) (dS (m2 (b2 dW) (mV 6) (mN (dX 2 dV) (dS (mV 0) (dS (mN (b1 eS) (dS (mV 6) dU)) dU)))) (dS (mV 5) dU))))))))
noncomputable def iw:FS:=(d9 (eh (eQ (dS (mN (dX 2 dV) (dS (mV 0) (dS (mV 2) dU))) (dS (mN (dX 2 dV) (dS (mV 0) (dS (mV 2) dU))) dU))) (gT 2 (gCs (gN 8) (gCs (gN 9) gNl))))
  (hI (sd (mB (m2 (b2 xL) (mN (b1 eS) (dS (m2 (b2 dW) (mV 3) (mV 8)) dU)) (mC (D.int 4)))) (mB (m2 (b2 xL) (mN (b1 eS) (dS (m2 (b2 dW) (mV 3) (mV 9)) dU)) (m2 (b2 gSub) (mC (D.int 4)) (mN (b1 nT) (dS (m2 (b2 oR) (mV 8) (mV 9)) dU)))))) (fi (mN (dX 5 fQ) (dS (mV 0) (dS (mV 3) (dS (mV 4) (dS (mV 8) (dS (mV 9) dU))))))) qS))
noncomputable def nE:FS:=(d9 (eh (m2 (b2 fS) (mC (D.int 1)) (mN (dX 2 dV) (dS (mV 0) (dS (mV 1) dU)))) (gN 2))
  (d9 (eh (eQ (dS (e0 1 [] (uy (dS (mV 2) dU)) (gN 0) gu (eI (jD dU))) (dS (jD dU) dU))) (gT 2 (gCs (gN 3) (gCs (gN 4) gNl))))
  (d9 (iU (GZ (dS (mC (D.int 1)) (dS (mV 2) dU))) (gN 5) ix)
  (d9 (iU (uy (dS (mN (dX 2 dV) (dS (mV 0) (dS (mC (D.int 7)) dU))) dU)) (gN 7) iw)
  (fu (mN (b1 gTup) (dS (e0 1 [3,4] (iH (mV 3)) (gN 0) gu (eI (mN (b1 gTup) (dS (e0 1 [1,2] (iH (mV 0)) (gN 0) gu (eI (mN (dX 3 ga) (dS (mV 1) (dS (mV 2) (dS (mV 0) dU)))))) dU)))) dU)))))))
noncomputable def gM:FN:=iD 10 nE
theorem rO {f:dE}(F:eM K "_law_web" mG f)(c:fO P w K mg base 1 "_law_far" 3 ga)(b:fO P w K mg base 1 "_law_take" 2 dV)(a:fO P w K mg base 2 "_law_tie" 5 fQ):
  fO P w K mg base 3 "_law_web" 2 gM:=xq ["_law_hand_here","_law_most","_law_many","_law_ends","_law_pairs","_law_room","_law_some","_law_turn","_law_one","_law_other"] X G F λd=>
 (qF (sq (qI fT qK (wn b (a2 xv xv)))) (qF (qR (ed (a2 (fk ["_law_room"] (ir (a1 xv)) ⟨gq,fK,(gz qN)⟩) (gz qN))) (tg2 gq gq)) (qF (fo (tL O (bz B) (a2 qK xv)) gq (qF (gE 6 O (T:=["_law_one"]) (keep:=[3]) ⟨O,by decide+kernel,(kc "_law_ends" (cS _))⟩ O (ir (a1 xv)) (λ_ _ _=>⟨gq,(fz (ct (oq lF) (cn fy (a1 (jq xv xv))) qK)),xv⟩) (gZ O) O (by first|exact Or.inl rfl|exact Or.inr rfl)) (qG (jL (wn a (qA xv (qA xv (a3 xv (jq xv (wn b (a2 xv (cn fy (a1 xv))))) xv)))))))) (qF (fo (ir (a1 (wn b (a2 xv qK)))) gq (qF (l6 8 9 rfl (gZ rfl) rfl rfl (by decide) rfl rfl (a2 (wn b (a2 xv xv)) (wn b (a2 xv xv)))) (qG (qV (ll (jK (ct (oq lF) (cn fy (a1 (jq xv xv))) qK) (iJ (ct (oq lF) (cn fy (a1 (jq xv xv))) (qI zi qK (cz wb (a1 (ce (oq k3) xv xv)))))))) (qG (jL (wn a (qA xv (qA xv (a3 xv xv xv)))))) qQ)))) (qG (qU (cz e9 (a1 (fk ["_law_row"] (qd xv) ⟨gq,fK,(cz e9 (a1 (fk ["_law_end"] (qd xv) ⟨gq,fK,(wn c (a3 xv xv xv))⟩)))⟩)))))))))
abbrev jW:dQ:=top 26
noncomputable def iS:FS:=(d9 (eh (eQ (dS (m2 (b2 dW) (m2 (b2 dW) (m2 (b2 dW) (mV 4) (mC (D.int 0))) (mV 5)) (mC (D.int 2))) (dS (mN (dX 4 eX) (dS (mV 1) (dS (mV 2) (dS (mV 4) (dS (mV 5) dU))))) dU))) (gN 6))
  (hI (mB (m2 (b2 jk) (mV 6) (mV 3))) (d9 (eh (mC D.non) (gS (b3 i0) (mV 3) (mV 6)))
  (hI (mB (m2 (b2 (iI λi j=>decide (j<i))) (mN (dX 2 dV) (dS (mV 0) (dS (mC (D.int 12)) dU))) (mC (D.int 0)))) (eh (mN (dX 1 gk) (dS (mV 0) dU)) (gS (b3 i0) (mV 3) (mV 6))) qS)) qS))
noncomputable def kM:FS:=(iU (uy (dS (mN (b1 eS) (dS (m2 (b2 dW) (mV 4) (mC (D.int 0))) dU)) dU)) (gN 5) iS)
noncomputable def fU:FN:=iD 7 kM
theorem nP {f:dE}(F:eM K "_law_grown" jW f)(a:fO P w K mg base 2 "_law_deed" 1 gk)(d:fO P w K mg base 1 "_law_sight" 4 eX)(c:fO P w K mg base 1 "_law_take" 2 dV):
  fO P w K mg base 3 "_law_grown" 5 fU:=xq ["_law_hand_here","_law_web_here","_law_eyes","_law_rows","_law_whole","_law_k","_law_asked"] X G F (hb:=λ_ _ _ _ _ _ g e=>HR e λ_ _ _ _ _=>rfl) λb=>
 (qG (fo (ir (a1 (cn fy (a1 (jq xv qK))))) gq (qF (sq (ed (a2 (jq (jq (jq xv qK) xv) qK) (wn d (qA xv (a3 xv xv xv)))))) (qG (qV (ct (oq zk) xv xv (by with_unfolding_all rfl)) (qF (qR gf (l7 xv xv (pS b.units))) (qG (qV (ct zm (wn c (a2 xv qK)) qK) (qG (qR (wn a (a1 xv)) (l7 xv xv (pS b.units)))) qQ))) qQ)))))
abbrev rz:dQ:=top 13
noncomputable def mS:FS:=(fi (oG (b2 jr) (mV 4) (dS (mN (dX 3 mZ) (dS (mV 0) (dS (mV 1) (dS (m2 (b2 dW) (mV 4) (m1 (b1 sD) (mC (D.int 1)))) dU)))) dU)))
noncomputable def s9:FS:=(d9 (eh (jD (dS (mN (dX 1 kk) (dS (mV 2) dU)) dU)) (gN 4))
  (d9 (iU (uy (dS (mV 3) dU)) (gN 5) mS)
  (fu (mN (b1 gTup) (dS (mV 4) dU)))))
noncomputable def iT:FN:=iD 6 s9
theorem wK {f:dE}(F:eM K "walked" rz f)(a:fO P w K mg base 3 "beat" 3 mZ)(b:fO P w K mg base 1 "begun" 1 kk):
  fO P w K mg base 4 "walked" 4 iT:=xq ["web","machine","standing","beats","wholes","k"] X G F λc=>
 (qF (sq (gz (a1 (wn b (a1 xv))))) (qF (fo (ir (a1 xv)) gq (qG (lq ap xv (a1 (wn a (a3 xv xv (jq xv (xV C4 qK)))))))) (qG (qU (cz e9 (a1 xv))))))
abbrev gU:dQ:=top 27
noncomputable def gt:FS:=(d9 (fi (mN (dX 5 fU) (dS (mV 0) (dS (mV 1) (dS (mV 2) (dS (mV 5) (dS (m2 (b2 dW) (mV 6) (mV 7)) dU)))))))
  (d9 (eh (mN (b1 nl) (dS (lf 1 [5] (mV 5) (gN 0) (mB (m2 (b2 g9) (m2 (b2 dW) (mV 1) (mV 0)) (mC D.non))) (eI (eQ (dS (mV 0) (dS (m2 (b2 dW) (mV 1) (mV 0)) dU))))) dU)) (gN 8))
  (fi (oG (b2 jr) (mV 6) (dS (mN (dX 4 gl) (dS (mV 1) (dS (mV 2) (dS (mV 8) (dS (m2 (b2 dW) (mV 6) (mV 7)) dU))))) dU)))))
noncomputable def hC:FS:=(d9 (eh (eQ (dS zE (dS (jD (dS (eQ (dS (mN (b1 gTup) (dS (e0 1 [] (iH (m2 (b2 dW) (mV 3) (mC (D.int 0)))) (gN 0) gu (eI (eQ (dS (mV 0) (dS (mC (D.int 0)) (dS (mC (D.int 0)) dU)))))) dU)) (dS (m2 (b2 dW) (mV 3) (mC (D.int 1))) dU))) dU)) dU))) (gT 2 (gCs (gN 5) (gCs (gN 6) gNl))))
  (d9 (iU (uy (dS (mV 4) dU)) (gN 7) gt)
  (d9 (eh (eQ (dS (mV 2) (dS (mN (b1 gTup) (dS (mN (b1 nj) (dS (lf 1 [5] (mV 5) (gN 0) (mB (m2 (b2 g9) (m2 (b2 dW) (mV 1) (mV 0)) (mC D.non))) (eI (eQ (dS (mV 0) (dS (m2 (b2 dW) (mV 1) (mV 0)) dU))))) dU)) dU)) dU))) (gN 9))
  (fu (eQ (dS (mV 9) (dS (mV 6) dU)))))))
noncomputable def eH:FN:=iD 10 hC
theorem jB {f:dE}(F:eM K "_law_drawn_walk" gU f)(b:fO P w K mg base 2 "_law_beat" 4 gl)(a:fO P w K mg base 3 "_law_grown" 5 fU):
  fO P w K mg base 4 "_law_drawn_walk" 5 eH:=xq ["_law_hand_here","_law_web_here","_law_eyes","_law_standing_here","_law_beats","_law_rows","_law_wholes","_law_turn","_law_there","_law_machine"] X G F (hb:=λ_ _ _ _ _ _ e d=>HR d λ_ _ _ _ _=>rfl) λc=>
 (qF (qR (ed (a2 xY (gz (a1 (ed (a2 (cz e9 (a1 (fk ["_law_room"] (qd (jq xv qK)) ⟨gq,fK,(ed (a3 xv qK qK))⟩))) (jq xv qK))))))) (tg2 gq gq)) (qF (fo (ir (a1 xv)) gq (qF (jL (wn a (qA xv (qA xv (a3 xv xv (jq xv xv)))))) (qF (sq (cz (CD c) (a1 (n6 O (T:=["_law_asked"]) (keep:=[5]) ⟨O,by decide+kernel,(kc "_law_rows" (cS _))⟩ O xv (λ_ _ _=>⟨gq,(fz (ct mW (jq xv xv) gf)),(ed (a2 xv (jq xv xv)))⟩))))) (qG (lq ap xv (a1 (wn b (qA xv (a3 xv xv (jq xv xv)))))))))) (qF (sq (ed (a2 xv (cz e9 (a1 (cn (CB c.units) (a1 (n6 O (T:=["_law_asked"]) (keep:=[5]) ⟨O,by decide+kernel,(kc "_law_rows" (cS _))⟩ O xv (λ_ _ _=>⟨gq,(fz (ct mW (jq xv xv) gf)),(ed (a2 xv (jq xv xv)))⟩))))))))) (qG (qU (ed (a2 xv xv)))))))
abbrev jV:dQ:=top 28
noncomputable def kK:FS:=(fu (m2 (b2 oR) (mN (b1 nk) (dS (mN (dX 4 iT) (dS (mV 0) (dS (mV 1) (dS (mV 2) (dS (mV 4) dU))))) dU)) (mN (b1 nk) (dS (mN (b1 gTup) (dS (wS (mV 3) mX (rS (m2 (b2 fS) (mV 4) (mC (D.int 1))))) dU)) dU))))
noncomputable def fm:FN:=iD 5 kK
theorem nO {f:dE}(F:eM K "_law_right" jV f)(a:fO P w K mg base 4 "walked" 4 iT):
  fO P w K mg base 5 "_law_right" 5 fm:=xq ["_law_web_here","_law_machine","_law_standing_here","_law_wholes","_law_beats"] X G F (hb:=λ_ _ _ _ _ _ d c=>HR c λ_ _ _ _ _=>rfl) λb=>
 (qG (qU (ce (oq k3) (cn (AB b) (a1 (wn a (qA xv (a3 xv xv xv))))) (cn (AB b) (a1 (cz e9 (a1 (tO xv xT (xS (qI fT xv qK))))))))))
abbrev rA:dQ:=top 29
noncomputable def pY:FS:=(d9 (eh (mN (dX 2 fC) (dS (mV 0) (dS (mV 2) dU))) (gN 3))
  (d9 (eh (eQ (dS (mN (dX 2 (apart gM)) (dS (mV 3) (dS (mC (D.int 8)) dU))) (dS (mN (dX 1 (apart fc)) (dS (mV 3) dU)) dU))) (gT 2 (gCs (gN 4) (gCs (gN 5) gNl))))
  (d9 (eh (mN (dX 3 (apart ft)) (dS (mV 3) (dS (mN (b1 eS) (dS (mV 4) dU)) (dS (mC (D.int 4)) dU)))) (gN 6))
  (d9 (eh (mN (dX 2 (apart dV)) (dS (mV 3) (dS (mC (D.int 31)) dU))) (gN 7))
  (d9 (hI (sd (mB (m2 (b2 oR) (mV 2) (mC (D.int 0)))) (mB (m2 (b2 oR) (mN (dX 2 (apart dV)) (dS (mV 3) (dS (mC (D.int 16)) dU))) (mC (D.int 0))))) (eh (mC (D.int 400)) (gN 7)) qS)
  (d9 (eh (mN (dX 5 (apart eH)) (dS (mV 3) (dS (mV 4) (dS (mV 5) (dS (mV 6) (dS (mV 7) dU)))))) (gT 2 (gCs (gN 8) (gCs (gN 9) gNl))))
  (d9 (hI (wT (GM (mN (dX 5 fm) (dS (mV 4) (dS (mV 8) (dS (mV 6) (dS (mV 9) (dS (mV 7) dU)))))))) (fu (mC (D.bl J))) qS)
  (d9 (fi (oG (b2 jr) (mV 1) (dS (eQ (dS (mV 4) (dS (mV 8) (dS (mV 6) (dS (mV 9) (dS (mN (dX 2 (apart dV)) (dS (mV 3) (dS (m2 (b2 fS) (mV 7) (mC (D.int 1))) dU))) dU)))))) dU)))
  (d9 (eh (eQ (dS (zB (dS (mN (b1 eS) (dS (mV 4) dU)) dU)) (dS (m2 (b2 dW) (mV 6) (mC (D.int 1))) dU))) (gN 6))
  (d9 (eh (mN (dX 5 (apart eH)) (dS (mV 3) (dS (mV 4) (dS (mV 5) (dS (mV 6) (dS (mC (D.int 8)) dU)))))) (gT 2 (gCs (gN 8) (gCs (gN 9) gNl))))
  (fi (oG (b2 jr) (mV 1) (dS (eQ (dS (mV 4) (dS (mV 8) (dS (mV 6) (dS (mV 9) (dS (mC (D.int 8)) dU)))))) dU)))))))))))))
noncomputable def pX:FS:=(hI (FK (wT (GM (mN (dX 5 fm) (dS (mV 4) (dS (mV 8) (dS (mV 6) (dS (mV 9) (dS (mV 10) dU)))))))) (wT (GM (mN (dX 5 fm) (dS (mV 4) (dS (mV 8) (dS (mV 6) (dS (mV 9) (dS (mC (D.int 0)) dU))))))))) (fu (mC (D.bl J))) qS)
noncomputable def AE:FS:=(d9 (eh (jD dU) (gN 1))
  (d9 (iU (uy (dS (mN (b2 Ck) (dS (mC (D.int 1)) (dS (mN (b2 Cj) (dS (mC (D.int 4)) (dS (mN (b1 eS) (dS (mV 0) dU)) dU))) dU))) dU)) (gN 2) pY)
  (d9 (iU (iH (m2 (b2 fS) (mV 1) (oF (mV 1) (m1 (b1 sD) (mC (D.int 1)))))) (gT 5 (gCs (gN 4) (gCs (gN 8) (gCs (gN 6) (gCs (gN 9) (gCs (gN 10) gNl)))))) pX)
  (fu (mC (D.bl M))))))
noncomputable def m_law:FN:=iD 11 AE
theorem Ep {f:dE}{fd:dP}(F:xO K "law" "law" rA f fd)(d:fO P w K mg base 4 "_law_drawn_walk" 5 eH)(e:fO P w K mg base 1 "_law_hand" 2 fC)(c:fO P w K mg base 5 "_law_right" 5 fm)(h:fO P w K mg base 2 "_law_some_eyes" 1 fc)(i:fO P w K mg base 2 "_law_standing" 3 ft)(j:fO P w K mg base 1 "_law_take" 2 dV)(l:fO P w K mg base 3 "_law_web" 2 gM):
  jt P w K mg base tz 6 f fd ["_law_script"] (AR K 1 m_law):=Dk (k:=5) (n:=1) (N:=["_law_script","_law_kept","_law_k","_law_hand_here","_law_web_here","_law_eyes","_law_standing_here","_law_beats","_law_machine","_law_wholes","_law_few"]) (ps:=["_law_script"]) (b:=AE) F sk O λm A g s H E a=>
 (qF (sq (gz qN)) (qF (fo (ir (a1 (cn (Hq O) (a2 qK (cn (Ho O) (a2 qK (cn fy (a1 xv)))))))) gq (qF (sq (wn e (a2 xv xv))) (qF (l6 4 5 O (gZ O) O O (by decide) O O (a2 (qH l.ap a (by first|decide|omega) rfl (a2 xv qK)) (qH h.ap a (by first|decide|omega) rfl (a1 xv)))) (qF (sq (qH i.ap a (by first|decide|omega) rfl (a3 xv (cn fy (a1 xv)) qK))) (qF (sq (qH j.ap a (by first|decide|omega) rfl (a2 xv qK))) (qF (qV (ll (jK (ct (oq k3) xv qK) (iJ (ct (oq k3) (qH j.ap a (by first|decide|omega) rfl (a2 xv qK)) qK)))) (qG (sq qK)) qQ) (qF (qR (qH d.ap a (by first|decide|omega) rfl (qA xv (qA xv (a3 xv xv xv)))) (tg2 gq gq)) (qF (qV (pB (pA (wn c (qA xv (qA xv (a3 xv xv xv)))))) (qG (qU tQ)) qQ) (qF (lq ap xv (a1 (ed (qA xv (qA xv (a3 xv xv (qH j.ap a (by first|decide|omega) rfl (a2 xv (qI fT xv qK))))))))) (qF (sq (ed (a2 (xW rfl rfl (bz B) rfl (bz B) (a1 (cn fy (a1 xv)))) (jq xv qK)))) (qF (qR (qH d.ap a (by first|decide|omega) rfl (qA xv (qA xv (a3 xv xv qK)))) (tg2 gq gq)) (qG (lq ap xv (a1 (ed (qA xv (qA xv (a3 xv xv qK)))))))))))))))))) (qF (fo (qd (qI fT xv (q9 xv (xV C4 qK)))) (gQ rfl (d8 gq (d8 gq (d8 gq (d8 gq (d8 gq gj)))))) (qG (qV (ll (tK (pB (pA (wn c (qA xv (qA xv (a3 xv xv xv)))))) (pz (pB (pA (wn c (qA xv (qA xv (a3 xv xv qK))))))))) (qG (qU tQ)) qQ))) (qG (qU tQ)))))
end
theorem all_mk {l:PySem.W.OpenLaw}{w:dH}{K:Fg1}{h:dN}{mg:Str->Option dB}{fa f1 f2 f3 f4 f5 f6 f7 f8 f9 C I u f13 wq f15 f16 L f18 f19 f20 ao T f23 D n:dE}(X:K.In h)(G:h.Ns dI mg)(au:mg "law"=some (.ref fa))
  {g1 g2 g5 g8 d:dE}
  {t3 t4 t6 t7 t9 H t12 t13:Tok}
  {E F Q b od1:Option dE} {n2 n5 n8 n11 n1:Nat} {g p t c N:Array (Option dB)}
  (a1:eM K "first_of" mF f1)
  (a2:eM K "begun" va f2)
  (a3:eM K "sight_of" mE f3)
  (a4:eM K "handled" oj f4)
  (a5:eM K "stepped" oi f5)
  (a6:eM K "_law_hand" lp f6)
  (a7:eM K "_law_take" ln f7)
  (a8:eM K "_law_far" mI f8)
  (a9:eM K "_law_sight" jU f9)
  (j:eM K "_law_chalked" iO C)
  (R:eM K "deed_of" ol I)
  (o:eM K "wants" u8 u)
  (S:eM K "moved" u9 f13)
  (A:eM K "_law_tie" mH wq)
  (a15:eM K "_law_standing" iE f15)
  (a16:eM K "_law_some_eyes" hW f16)
  (a17:eM K "_law_beat" lz L)
  (a18:eM K "_law_deed" lr f18)
  (i:eM K "beat" yC f19)
  (r:eM K "_law_web" mG f20)
  (a21:eM K "_law_grown" jW ao)
  (a22:eM K "walked" rz T)
  (m:eM K "_law_drawn_walk" gU f23)
  (V:eM K "_law_right" jV D)
  (f:eM K "law" rA n)
  (e_PARTS:wN1 K dI "PARTS"=Z (Z (Value.ref g1)))
  (h1:K.lookup g1=Z ⟨.type "tuple",od1,.seq ([(Value.ref g2),(Value.ref g5),(Value.ref g8),(Value.ref d)]:List dB).toArray n1,N⟩)
  (h2:K.lookup g2=Z ⟨.type "tuple",E,.seq ([(Value.str "came" t3),(Value.int (5) t4)]:List dB).toArray n2,g⟩)
  (h5:K.lookup g5=Z ⟨.type "tuple",F,.seq ([(Value.str "chalk" t6),(Value.int (2) t7)]:List dB).toArray n5,p⟩)
  (h8:K.lookup g8=Z ⟨.type "tuple",Q,.seq ([(Value.str "doors" t9),(Value.int (5) H)]:List dB).toArray n8,t⟩)
  (W:K.lookup d=Z ⟨.type "tuple",b,.seq ([(Value.str "others" t12),(Value.int (2) t13)]:List dB).toArray n11,c⟩)
  (z:HC K BL):∃fd:dP,(∀(s:dD) (v:dB),BindsTo s fd ⟨[v],[]⟩ [("_law_script",v)]) /\ ∀base:dN,K.In base->base.Ns dI mg->jt l.prog w K mg base tz 6 fa fd ["_law_script"] (AR K 1 m_law):=by
 have e:=au.symm.trans (wM1 X G f.ns);cases e;have B:Blt BL mg:=z.blt X G;have c0:CGl K mg "PARTS" mi:=Fm (wM1 X G e_PARTS) (nz h1 (by show 4<=dL;decide) (fx (nz h2 (by show 2<=dL;decide) (fx qw (fx qx kH))) (fx (nz h5 (by show 2<=dL;decide) (fx qw (fx qx kH))) (fx (nz h8 (by show 2<=dL;decide) (fx qw (fx qx kH))) (fx (nz W (by show 2<=dL;decide) (fx qw (fx qx kH))) kH)))));obtain⟨_,⟨⟨_,_,kV,dc,pm,an,cd,ct,_,rfl,lL,cL⟩,kL⟩⟩:=f.fn;refine⟨wF1 "law" "law" (hB rA) (fq rA) (ec rA) .none kV dc pm an cd ct,λs v=>.of_eq O,λbase _ _=>?_⟩;have o0:=rM (P:=l.prog) (w:=w) (base:=base) X G B a1;have o14:=zg (P:=l.prog) (w:=w) (base:=base) X G B a2;have o1:=rL (P:=l.prog) (w:=w) (base:=base) X G B a3 c0;have o2:=uj (P:=l.prog) (w:=w) (base:=base) X G B a4;have o3:=ui (P:=l.prog) (w:=w) (base:=base) X G B a5;have o19:=p7 (P:=l.prog) (w:=w) (base:=base) X G B a6;have a:=pZ (P:=l.prog) (w:=w) (base:=base) X G B a7;have k:=rQ (P:=l.prog) (w:=w) (base:=base) X G B a8;have o6:=nN (P:=l.prog) (w:=w) (base:=base) X G B a9;have o5:=lW (P:=l.prog) (w:=w) (base:=base) X G B j;have o7:=uk X G B R o0;have o9:=ze X G B o o1;have o8:=zf X G B S o2 o3;have o11:=rP X G B A a;have U:=k0 X G B a15 a;have o21:=ka X G B a16 a;have o15:=p9 X G B a17 o5 o6;have q:=p8 X G B a18 a;have o13:=BF X G B i o7 o8 o9;have y:=rO X G B r k a o11;have x:=nP X G B a21 q o6 a;have aq:=wK X G B a22 o13 o14;have o18:=jB X G B m o15 x;have am:=nO X G B V aq;exact Ep (P:=l.prog) (w:=w) (base:=base) X G B (Ad lL cL kL) o18 o19 am o21 U a y
noncomputable def hnd(g m c:Int):Ob:=.lst [.int g,.int m,.int c]
noncomputable def EF(m c:Int):Int:=(m+65537*c*c+11)*48271%2305843009213693921
noncomputable def zv(m c:Int):Int:=EF m c*(EF m c%1000003+99991*c)%2305843009213693907
theorem Hs{a b c:D}:tF [a,b,c] 0=Z a:=by rfl
theorem IY{a b c:D}:tF [a,b,c] 1=Z b:=by rfl
theorem IX{a b c:D}:tF [a,b,c] 2=Z c:=by rfl
theorem DA{T:Sto}{g m c k:Int}(hg:0<g)(hk:0<k)(a:k<1073741824):
  dV [.ref 0,.int k] (hnd g m c::T)=Z (.int (g%k),hnd (g/k) m c::T):=by
 simp[dV,iD,hG,i8,d9,hI,mB,m2,b2,iI,mV,mC,dW,lc,Aa,d6,hnd,hg,hk,a,eh,gN,kx,nU,gS,b3,i0,lH,jF,fu,Hs,vI]
theorem Dz{T:Sto}{g m c k:Int}(hg:¬ 0<g)(hk:0<k)(a:k<1073741824)(hc:0<=c)(b:c<2^60):
  dV [.ref 0,.int k] (hnd g m c::T)=Z (.int ((zv m (c+1)/97+zv m (c+1)/1000033)%k),hnd g m (c+1)::T):=by
 have i:eR 65537 (c+1)=M:=oD (by decide) (by decide);have d:eR (65537*(c+1)) (c+1)=M:=vy (by omega) (by omega);have h:eR (m+65537*(c+1)*(c+1)+11) 48271=M:=vy (by decide) (by decide);have f:eR 99991 (c+1)=M:=oD (by decide) (by decide);have q:=Int.emod_lt_of_pos ((m+65537*(c+1)*(c+1)+11)*48271) (show(0:Int)<2305843009213693921 by decide);have j:=Int.emod_nonneg ((m+65537*(c+1)*(c+1)+11)*48271) (show(2305843009213693921:Int)≠0 by decide);have e:eR ((m+65537*(c+1)*(c+1)+11)*48271%2305843009213693921) ((m+65537*(c+1)*(c+1)+11)*48271%2305843009213693921%1000003+99991*(c+1))=M:=oD (by omega) (by omega);simp[dV,iD,hG,i8,d9,hI,mB,m2,b2,iI,mV,mC,dW,lc,Aa,d6,hnd,hg,hk,a,eh,gN,kx,nU,gS,b3,i0,lH,jF,fu,Hs,IY,IX,vI,qS,fS,jp,i,d,h,f,e,EF,zv]
noncomputable def fY(o:Ob)(n:Nat):Prop:=∃g m c:Int,o=hnd g m c/\0<=c/\c<=n
theorem fY.und{o:Ob}{n k:Nat}(h:fY o n):o.und k=M:=by
 obtain⟨g,m,c,rfl,_⟩:=h;rfl
theorem fY.more{o:Ob}{n k:Nat}(h:fY o n)(hk:n<=k):fY o k:=by
 obtain⟨g,m,c,e,a,h1⟩:=h;exact⟨g,m,c,e,a,by lia⟩
theorem fA{o:Ob}{n:Nat}{k:Int}{T:Sto}{Q:D×Sto->Prop}(ho:fY o n)(hn:n<=2^50)(hk:0<k)(a:k<1073741824)(h:∀(d:Nat) o',fY o' (n+1)->(d:Int)<k->Q (.int d,o'::T)):W (dX 2 dV [.ref 0,.int k] (o::T)) Q:=by
 obtain⟨g,m,c,rfl,i,h1⟩:=ho;have call:∀d o',dV [.ref 0,.int k] (hnd g m c::T)=Z (d,o'::T)->dX 2 dV [.ref 0,.int k] (hnd g m c::T)=Z (d,o'::T):=λd o e=>lh e O (by simp[D.unds,D.und]) (by simp);by_cases f:0<g
 ·have b:=Int.emod_nonneg g (show k≠0 by lia);obtain⟨d,e⟩:=Int.eq_ofNat_of_zero_le b;refine⟨_,call _ _ (DA f hk a),?_⟩;rw[e];exact h d _ ⟨_,_,_,O,i,by lia⟩ (by rw[<- e];exact Int.emod_lt_of_pos _ hk)
 ·have b:=Int.emod_nonneg (zv m (c+1)/97+zv m (c+1)/1000033) (show k≠0 by lia);obtain⟨d,e⟩:=Int.eq_ofNat_of_zero_le b;refine⟨_,call _ _ (Dz f hk a i (by lia)),?_⟩;rw[e];exact h d _ ⟨_,_,_,O,by lia,by push_cast;lia⟩ (by rw[<- e];exact Int.emod_lt_of_pos _ hk)
theorem zX(ns:List Int)(k:Int)(h0:0<=k)(hk:k<63):∃g m,fC [.rol (ns.map D.int),.int k] []=Z (.ref 0,[hnd g m 0]):=by
 have h:eR (10^60) (10^30)=M:=by decide+kernel
 have d:eR 7919 k=M:=oD (by decide) (by decide);have e:eR 0 0=M:=oD (by decide) (by decide);have c:∀(x:Int) (b:Prop) [Decidable b],eR x (if b then 1 else 0)=M:=λx b _=>by
  split
  ·exact vy (by decide) (by decide)
  ·exact vy (by decide) (by decide)
 have lt:xL (.int k) (.int ns.length) []=Z (.bl (decide (k<ns.length)),[]):=by rfl
 by_cases f:k<ns.length
 ·have a:tF (ns.map D.int) k=some (.int (ns[k.toNat]'(by lia))):=by
   unfold tF vI;rw[ak h0,ak (by simpa using f)];simp[show k.toNat<ns.length by lia]
  generalize i:ns[k.toNat]'(by lia)=x at a
  simp[fC,iD,hG,i9,d9,hI,mB,m2,b2,b1,mN,dS,dU,iI,mV,mC,dW,lc,Aa,eS,d6,eh,gN,kx,jp,fS,uB,nT,fu,jD,lt,f,a,d,c,dL,hnd,qS];simp[show eR 1000000000000000000000000000000000000000000000000000000000000 1000000000000000000000000000000=M from h,d,c]
 ·simp[fC,iD,hG,i9,d9,hI,mB,m2,b2,b1,mN,dS,dU,iI,mV,mC,dW,lc,Aa,eS,d6,eh,gN,kx,jp,fS,uB,nT,fu,jD,lt,f,d,c,dL,hnd,qS];simp[show eR 1000000000000000000000000000000000000000000000000000000000000 1000000000000000000000000000000=M from h,e,d,c]
noncomputable def ins(k:Nat)(e:Nat×Nat)(row:List (Nat×Nat)):List (Nat×Nat):=row.take k++e::row.drop k
theorem kr{k:Nat}{e:Nat×Nat}{row:List (Nat×Nat)}:(ins k e row).length=row.length+1:=by
 unfold ins;rw[lA1,lC1,aQ,aV];lia
theorem mem_ins{k:Nat}{e x:Nat×Nat}{row:List (Nat×Nat)}:x∈ins k e row↔x=e\/x∈row:=by
 unfold ins;rw[aG,aF]
 conv=>rhs;rhs;rw[<- cK k row,aG]
 constructor
 ·rintro(h|h|h)
  ·exact .inr (.inl h)
  ·exact .inl h
  ·exact .inr (.inr h)
 ·rintro(h|h|h)
  ·exact .inr (.inl h)
  ·exact .inl h
  ·exact .inr (.inr h)
theorem vJ{k:Nat}{e:Nat×Nat}{row:List (Nat×Nat)}:(row.map pD).take k++pD e::(row.map pD).drop k=(ins k e row).map pD:=by
 unfold ins;rw[cG,mP1,List.map_take,List.map_drop]
theorem jd{t m i:Nat}{T:Sto}{E:List (List (Nat×Nat))}{P:List (Nat×Nat)}{U:Sto}{o:Ob}{Q:D×Sto->Prop}(w:WS t m T E P U)(hi:i<m)(q:Q (.ref (t+i+1),o::U)):W (dW (.ref (t+m+1)) (.int i) (o::U)) Q:=
 tm (xs:=jA (t+1) m) (x:=.ref (t+i+1)) (by rw[gC1];exact w.ends) (by rw[pU hi];congr 2;lia) q
theorem yn{t m a b n:Nat}{T:Sto}{E:List (List (Nat×Nat))}{P:List (Nat×Nat)}{U:Sto}{o:Ob}{Q:D×Sto->Prop}(w:WS t m T E P U)(ho:fY o n)(hn:n<=2^45)(ha:a<m)(hb:b<m){c:List (Nat×Nat)}(u:E[a]? = some c)(L:c.length<100)(C:∀ rb,E[b]? = some rb->rb.length<100)(K:P.length<500)(h:∀g i rb o' z,fY o' (n+2)->(E.set a (ins g (P.length,0) c))[b]?=some rb->WS t m T ((E.set a (ins g (P.length,0) c)).set b (ins i (P.length,1) rb)) (P++[(a,b)]) z->Q (.non,o'::z)):
  W (dX 5 fQ [.ref 0,.ref (t+m+1),.ref (t+m+2),.int a,.int b] (o::U)) Q:=by
 have key:W (fQ [.ref 0,.ref (t+m+1),.ref (t+m+2),.int a,.int b] (o::U)) λp=>p.2.length=(o::U).length/\Q p:=by
  unfold fQ;refine nq ?_;unfold nF;refine eF (λr S=>∃g o',fY o' (n+1)/\r=[Z (.ref 0),Z (.ref (t+m+1)),Z (.ref (t+m+2)),Z (.int a),Z (.int b)]/\S=o'::U.set (t+a) (rB (ins g (P.length,0) c))) ?_ ?_
  ·walk_at"w";refine iG ?_;walk_at"w";refine jd w ha ?_;refine⟨t+a+1,c.map pD,O,by rw[gC1];exact w.row a c u,?_⟩;walk_at"w";refine jd w ha ?_;walk_at"w";refine eG (xs:=c.map pD) (by rw[gC1];exact w.row a c u) ?_;walk_at"w";rw[lM1,show((c.length:Int)+1)=((c.length+1:Nat):Int) by push_cast;rfl];refine fA ho (by lia) (by lia) (by lia) λg A l G=>?_;walk_at"w";refine eG (xs:=P.map pD) (by rw[gC1];exact w.prs) ?_;walk_at"w";rw[lM1];refine De (xs:=c.map pD) (v:=pD (P.length,0)) (k:=g) (by rw[gC1];exact w.row a c u) (by rw[lM1];lia) (by rw[lM1];lia) ?_;refine⟨g,A,l,?_⟩;rw[vJ,c9];rfl
  rintro r S ⟨g,A,l,rfl,rfl⟩;have j:=w.setRow (row:=ins g (P.length,0) c) ha;obtain⟨rb,f⟩:∃rb,(E.set a (ins g (P.length,0) c))[b]?=some rb:=by
   have:b<(E.set a (ins g (P.length,0) c)).length:=by rw[j.el];exact hb
   exact⟨_,gG1 this⟩
  have F:rb.length<200:=by
   by_cases e:a=b
   ·subst e;rw[aI (by rw[w.el];exact ha)]at f;cases f;rw[kr];lia
   ·rw[gS1 e]at f;have:=C rb f;lia
  refine eF (λr S=>∃i o',fY o' (n+2)/\r=[Z (.ref 0),Z (.ref (t+m+1)),Z (.ref (t+m+2)),Z (.int a),Z (.int b)]/\S=o'::(U.set (t+a) (rB (ins g (P.length,0) c))).set (t+b) (rB (ins i (P.length,1) rb))) ?_ ?_
  ·walk_at"w";refine iG ?_;walk_at"w";refine jd j hb ?_;refine⟨t+b+1,rb.map pD,O,by rw[gC1];exact j.row b rb f,?_⟩;walk_at"w";refine jd j hb ?_;walk_at"w";refine eG (xs:=rb.map pD) (by rw[gC1];exact j.row b rb f) ?_;walk_at"w";rw[lM1,show((rb.length:Int)+1)=((rb.length+1:Nat):Int) by push_cast;rfl];refine fA l (by lia) (by lia) (by lia) λi y s B=>?_;walk_at"w";refine eG (xs:=P.map pD) (by rw[gC1];exact j.prs) ?_;walk_at"w";rw[lM1];refine De (xs:=rb.map pD) (v:=pD (P.length,1)) (k:=i) (by rw[gC1];exact j.row b rb f) (by rw[lM1];lia) (by rw[lM1];lia) ?_;refine⟨i,y,s,?_⟩;rw[vJ,c9];rfl
  rintro r S ⟨i,y,s,rfl,rfl⟩;have x:=j.setRow (row:=ins i (P.length,1) rb) hb;walk_at"w";refine iG ?_;walk_at"w";refine⟨t+m+2,P.map pD,O,by rw[gC1];exact x.prs,?_⟩
  try walk_at"w"
  rw[lT (xs:=P.map pD) (by rw[gC1];exact x.prs)];refine⟨ea (by rw[lM1];lia),?_,?_⟩
  ·simp
  ·have H:=x.setPrs (P':=P++[(a,b)]);rw[c9];have e:P.map pD++[D.tup [D.int ↑a,D.int ↑b]]=(P++[(a,b)]).map pD:=by simp[pD]
   rw[e];exact h g i rb y _ s f H
 obtain⟨⟨d,am⟩,e,I,q⟩:=key;exact⟨_,lh e O O I,q⟩
abbrev ew:=List (List (Nat×Nat))
structure WI (m:Nat)(E:ew)(P:List (Nat×Nat)):Prop where
 len:E.length=m
 pr:∀(i:Nat) (p:Nat×Nat),P[i]?=some p->(∃r0,E[p.1]?=some r0/\(i,0)∈r0) /\ ∃r1,E[p.2]?=some r1/\(i,1)∈r1
 en:∀(i:Nat) (row:List (Nat×Nat)),E[i]?=some row -> ∀e∈row,e.1<P.length/\e.2<=1
 le:∀(i:Nat) (row:List (Nat×Nat)),E[i]?=some row->row.length<=4
 tt:tot E=2*P.length
theorem mD{E:ew}{i k:Nat}{e:Nat×Nat}{row:List (Nat×Nat)}(h:E[i]?=Z row){j:Nat}{r:List (Nat×Nat)}(a:E[j]?=Z r):∃r',(E.set i (ins k e row))[j]?=Z r' /\ ∀x∈r,x∈r':=by
 by_cases z:i=j
 ·subst z;rw[h]at a;cases a;exact⟨_,aI (gE1.mp h).1,λx b=>mem_ins.mpr (.inr b)⟩
 ·exact⟨r,by rw[gS1 z];exact a,λx b=>b⟩
theorem jT{E:ew}{i k:Nat}{e:Nat×Nat}{row:List (Nat×Nat)}(h:E[i]?=Z row){j:Nat}{b:List (Nat×Nat)}(a:(E.set i (ins k e row))[j]?=Z b):(i=j/\b=ins k e row)\/(i≠j/\E[j]?=Z b):=by
 by_cases z:i=j
 ·subst z;rw[aI (gE1.mp h).1]at a;cases a;exact .inl ⟨O,O⟩
 ·rw[gS1 z]at a;exact .inr ⟨z,a⟩
theorem WI.tie{m a b h n:Nat}{E:ew}{P:List (Nat×Nat)}{g o:List (Nat×Nat)}(w:WI m E P)(ha:E[a]? = some g)(ao:g.length<4)(hb:(E.set a (ins h (P.length,0) g))[b]? = some o)(L:o.length<4):
  WI m ((E.set a (ins h (P.length,0) g)).set b (ins n (P.length,1) o)) (P++[(a,b)]):=by
 have a1:(E.set a (ins h (P.length,0) g))[a]?=Z (ins h (P.length,0) g):=aI (gE1.mp ha).1;refine⟨by rw[aW,aW];exact w.len,λi p s=>?_,λj c d e f=>?_,λj c d=>?_,?_⟩
 ·by_cases hi:i<P.length
  ·rw[gL1 hi]at s;obtain⟨⟨K,C,F⟩,am,h1,m1⟩:=w.pr i p s;obtain⟨q,l,y⟩:=mD (k:=h) (e:=(P.length,0)) ha C;obtain⟨u,v,z⟩:=mD (k:=n) (e:=(P.length,1)) hb l;obtain⟨I,A,H⟩:=mD (k:=h) (e:=(P.length,0)) ha h1;obtain⟨r,t,x⟩:=mD (k:=n) (e:=(P.length,1)) hb A;exact⟨⟨u,v,z _ (y _ F)⟩,r,t,x _ (H _ m1)⟩
  ·have B:i=P.length:=by
    have:=(gE1.mp s).1;simp at this;lia
   subst B;rw[List.getElem?_concat_length]at s;cases s;obtain⟨q,l,y⟩:=mD (k:=n) (e:=(P.length,1)) hb a1;exact⟨⟨q,l,y _ (mem_ins.mpr (.inl O))⟩,_,aI (gE1.mp hb).1,mem_ins.mpr (.inl O)⟩
 ·rw [lA1,aY];have old:∀ (j:Nat) (c:List (Nat×Nat)),(E.set a (ins h (P.length,0) g))[j]? = some c -> ∀ e∈c,e.1<P.length+1/\e.2<=1:=fun j c d e f=>by
   rcases jT ha d with⟨_,rfl⟩|⟨_,d⟩
   ·rcases mem_ins.mp f with rfl|f
    ·exact⟨by simp,by simp⟩
    ·have:=w.en a g ha e f;exact⟨by lia,this.2⟩
   ·have:=w.en j c d e f;exact⟨by lia,this.2⟩
  rcases jT hb d with⟨_,rfl⟩|⟨_,d⟩
  ·rcases mem_ins.mp f with rfl|f
   ·exact⟨by simp,by simp⟩
   ·exact old b o hb e f
  ·exact old j c d e f
 ·rcases jT hb d with⟨_,rfl⟩|⟨_,d⟩
  ·rw[kr];lia
  ·rcases jT ha d with⟨_,rfl⟩|⟨_,d⟩
   ·rw[kr];lia
   ·exact w.le j c d
 ·have D:=pI (row':=ins h (P.length,0) g) ha;have G:=pI (row':=ins n (P.length,1) o) hb;have:=w.tt;rw[kr]at D G;rw[lA1,aY];lia
noncomputable def webD(w:ew):D:=.tup (w.map λrow=>.tup (row.map pD))
structure nH (m:Nat)(w:ew):Prop where
 len:w.length=m
 le:∀row∈w,row.length<=4
 to:∀row∈w,∀e∈row,∃r,w[e.1]?=some r/\e.2<r.length
theorem fL(w:ew):(webD w).und 0=M:=by
 unfold webD;rw[D.und];exact eK λa _=>by rw[D.und];exact eK λ_ _=>rfl
noncomputable def uE(E:ew)(P:List (Nat×Nat))(e:Nat×Nat):Nat×Nat:=
 let p:=P.getD e.1 (0,0)
 let room:=if e.2=0 then p.2 else p.1
 (room,((E.getD room []).findIdx? (· == (e.1,1-e.2))).getD 0)
theorem Ah{m:Nat}{E:ew}{P:List (Nat×Nat)}(w:WI m E P){i:Nat}{row:List (Nat×Nat)}(hr:E[i]? = some row){e:Nat×Nat}(he:e∈row):
  ∃p a r j,P[e.1]?=Z p/\e.2<=1/\a=(if e.2=0 then p.2 else p.1)/\E[a]?=Z r/\r.findIdx? (· == (e.1,1-e.2))=Z j/\j<r.length/\uE E P e=(a,j):=by
 obtain⟨h1,h2⟩:=w.en i row hr e he;obtain⟨p,f⟩:∃p,P[e.1]?=some p:=⟨_,gG1 h1⟩;obtain⟨⟨n,l,s⟩,q,o,m1⟩:=w.pr _ p f;have b:∀(r:List (Nat×Nat)) (x:Nat×Nat),x∈r -> ∃j,r.findIdx? (· == x)=Z j/\j<r.length:=λr x t=>by
  cases h:r.findIdx? (· == x)with
  |none=>
   rw[List.findIdx?_eq_none_iff]at h;have:=h x t;simp at this
  |some j=>exact⟨j,O,(b8.mp h).1⟩
 by_cases g:e.2=0
 ·obtain⟨j,d,k⟩:=b q (e.1,1) m1;refine⟨p,p.2,q,j,f,h2,by rw[ak g],o,by rw[g];exact d,k,?_⟩;simp[uE,bL,f,o,g,d]
 ·have c:e.2=1:=by lia
  obtain⟨j,d,k⟩:=b n (e.1,0) s;refine⟨p,p.1,n,j,f,h2,by rw[aj g],l,by rw[c];exact d,k,?_⟩;simp[uE,bL,f,l,c,d]
theorem Do{m:Nat}{E:ew}{P:List (Nat×Nat)}(w:WI m E P):nH m (E.map λa=>a.map (uE E P)):=by
 refine⟨by rw[lM1];exact w.len,?_,?_⟩
 ·intro a c;obtain⟨r,b,rfl⟩:=ci.mp c;obtain⟨i,hi⟩:=br b;rw[lM1];exact w.le i r hi
 ·intro a c e f;obtain⟨r,b,rfl⟩:=ci.mp c;obtain⟨i,hi⟩:=br b;obtain⟨x,l,rfl⟩:=ci.mp f;obtain⟨p,d,g,j,_,_,_,h,o,n,k⟩:=Ah w hi l;rw[k];exact⟨g.map (uE E P),by rw[gP1,h];rfl,by rw[lM1];exact n⟩
theorem ot:∀(k n:Nat),jA n (k+1)=jA n k++[.ref (n+k)]
 |0,n=>rfl
 |k+1,n=>by
  rw[jA,ot k (n+1),jA,bj,show n+1+k=n+(k+1) by lia]
theorem xZ{t m:Nat}{T:Sto}(tl:T.length=t):WS t m T (aO m []) [] (T++(aO m (.lst [])++[.lst (jA (t+1) m),.lst []])):=by
 refine⟨tl,by rw[<- tl,de],by simp,λi a h=>?_,?_,?_⟩
 ·have hi:i<m:=by have:=(gE1.mp h).1;simpa using this
  rw[aR,ak hi]at h;cases h;rw[<- tl,g0,gL1 (by simpa using hi),aR,ak hi];rfl
 ·rw[<- tl,g0,gR1 (by simp)];simp
 ·rw[<- tl,bm,g0,gR1 (by simp)];simp
theorem x0(m:Nat):WI m (aO m []) []:=by
 refine⟨by simp,λi p h=>by simp at h,λi a h=>?_,λi a h=>?_,by simp[tot]⟩
 ·rw[aR]at h;split at h
  ·cases h;intro e b;simp at b
  ·cases h
 ·rw[aR]at h;split at h
  ·cases h;simp
  ·cases h
theorem Dy{t m i n:Nat}{T U:Sto}{E:ew}{P:List (Nat×Nat)}{o:Ob}{x6:Option D}{Q:Fl×Ev×Sto->Prop}(w:WS t m T E P U)(v:WI m E P)(ho:fY o n)(hn:n<=2^44)(wq:P.length=i)(hi:i+1<m)(hm:m<=8)(he:∀j row,i+1<=j->E[j]?=some row->row=[])(h:∀am S o' X N,WS t m T am S X->WI m am S->fY o' (n+3)->S.length=i+1->(∀j row,i+2<=j->am[j]?=some row->row=[]) ->
   Q (.nx,[Z (.ref 0),Z (.int 8),Z (.int m),Z (.ref (t+m+1)),Z (.ref (t+m+2)),Z (.int ((i+1:Nat):Int)),N,Y,Y,Y],o'::X)):
  W (ix [Z (.ref 0),Z (.int 8),Z (.int m),Z (.ref (t+m+1)),Z (.ref (t+m+2)),Z (.int ((i+1:Nat):Int)),x6,Y,Y,Y] (o::U)) Q:=by
 have e:∀j,j<m -> ∃row,E[j]?=Z row:=λj f=>⟨_,gG1 (by rw[v.len];exact f)⟩
 let k:Nat->Bool:=λj=>decide ((E.getD j []).length<4)
 unfold ix;walk_at"w";rw[kd,Int.toNat_natCast];refine⟨fW (by lia),?_⟩;refine hA k (λj:Nat=>.int j) (λr=>∃x,r=[x,Z (.ref (t+m+1))]) O (af (i+1)) _ ⟨_,O⟩ ?_ ?_
 ·rintro j f r ⟨x,rfl⟩;have l:j<m:=by have:=aB.mp f;lia
  obtain⟨row,c⟩:=e j l;walk_at"w";refine jd w l ?_;walk_at"w";refine eG (xs:=row.map pD) (by rw[gC1];exact w.row j row c) ?_;walk_at"w";refine⟨?_,⟨_,O⟩,λ_=>trivial⟩;simp only[k,bL,c,b9,lM1];rw[bS,al,al];lia
 ·rintro r' _;walk_at"w";have A:(List.range (i+1)).filter k≠[]:=by
   intro z;have H:∀j row,j<i+1->E[j]?=Z row->4<=row.length:=λj row f hr=>by
    have:=List.filter_eq_nil_iff.mp z j (aB.mpr f);simp only[k,bL,hr,b9,al]at this;lia
   have:=yf (E:=E) (k:=i+1) (by rw[v.len];lia) H;have:=v.tt;lia
  generalize V:(af (i+1)).filter k=L at A;have ao:∀j∈L,j<i+1/\k j=M:=λj f=>by
   rw[<- V,aA]at f;exact⟨aB.mp f.1,f.2⟩
  have hLl:L.length<=8:=by
   rw[<- V];have:=dq k (af (i+1));simp at this;lia
  refine⟨ea (by rw[lM1];lia),?_⟩;refine eG (xs:=L.map λj:Nat=>D.int j) (by rw[gC1,ee];rfl) ?_;walk_at"w";rw[lM1];have hL0:0<L.length:=da.mpr A;refine fA ho (by lia) (by lia) (by lia) λd o1 K hd=>?_;have B:d<L.length:=by lia
  refine tm (i:=d) (xs:=L.map λj:Nat=>D.int j) (x:=.int (L[d]:Nat)) (by rw[gC1,ee];rfl) (by rw[gP1,gG1 B];rfl) ?_;generalize f:L[d]=j;obtain⟨hj1,s⟩:=ao j (by rw[<- f];exact bU B);obtain⟨row,c⟩:=e j (by lia);have R:row.length<4:=by
   simp only[k,bL,c,b9,al]at s;exact s
  obtain⟨I,p⟩:=e (i+1) hi;have u:=he (i+1) I (nR1 _) p;subst u;walk_at"w";refine yn (a:=j) (b:=i+1) (w.app (G:=[Ob.lst (L.map λj:Nat=>D.int j)])) K (by lia) (by lia) hi c (by lia) (λI aq=>by rw[p]at aq;cases aq;simp) (by lia) λk1 k2 I o2 U2 au g w2=>?_;have C:j≠i+1:=by lia
  have F:I=[]:=by
   rw[gS1 C,p]at g;cases g;rfl
  walk_at"w";refine h _ _ o2 U2 _ w2 (v.tie c R g (by rw[F];simp)) (au.more (by lia)) (by simp[wq]) λj' y l q=>?_;rw[gS1 (by lia),gS1 (by lia)]at q;exact he j' y (by lia) q
theorem EE{t m n:Nat}{T U:Sto}{E:ew}{P:List (Nat×Nat)}{o:Ob}{G H A wq V:Option D}{Q:Fl×Ev×Sto->Prop}(w:WS t m T E P U)(v:WI m E P)(ho:fY o n)(hn:n<=2^44)(hP:P.length<100)(aq:0<m)(hm:m<=8)(h:∀K u o' L z x,WS t m T K u L->WI m K u->fY o' (n+4)->u.length<=P.length+1 ->
   Q (.nx,[Z (.ref 0),Z (.int 8),Z (.int m),Z (.ref (t+m+1)),Z (.ref (t+m+2)),G,H,A,z,x],o'::L)):
  W (iw [Z (.ref 0),Z (.int 8),Z (.int m),Z (.ref (t+m+1)),Z (.ref (t+m+2)),G,H,A,wq,V] (o::U)) Q:=by
 have e:∀j,j<m -> ∃row,E[j]?=Z row:=λj S=>⟨_,gG1 (by rw[v.len];exact S)⟩;unfold iw;walk_at"w";refine fA ho (by lia) (by lia) (by lia) λa o1 y ha=>?_;walk_at"w";refine fA y (by lia) (by lia) (by lia) λb ao l q=>?_;obtain⟨N,d⟩:=e a (by lia);obtain⟨r,g⟩:=e b (by lia);walk_at"w";refine jd w (by lia) ?_;walk_at"w";refine eG (xs:=N.map pD) (by rw[gC1];exact w.row a N d) ?_;walk_at"w";rw[lM1];have f:Q (.nx,[Z (.ref 0),Z (.int 8),Z (.int m),Z (.ref (t+m+1)),Z (.ref (t+m+2)),G,H,A,Z (.int a),Z (.int b)],ao::U):=
  h E P ao U _ _ w v (l.more (by lia)) (by lia)
 split
 ·rename_i F;rw [decide_eq_true_eq] at F;refine jd w (by lia) ?_;walk_at"w";refine eG (xs:=r.map pD) (by rw [gC1];exact w.row b r g) ?_;walk_at"w";rw [lM1];have au:((a:Int) == (b:Int))=decide (a=b):=by
   rw[bS,beq_iff_eq,al];lia
  rw[au];by_cases p:a=b
  ·subst p;rw[d]at g;cases g;walk_at"w";split
   ·rename_i i;simp at i;refine yn w l (by lia) (by lia) (by lia) d (by lia) (fun r q=>by rw [d] at q;cases q;lia) (by lia) fun X R r C B k c I=>?_;have am:r.length<4:=by
     rw[aI (by rw[v.len];lia)]at c;cases c;rw[kr];lia
    exact h _ _ C B _ _ I (v.tie d (by lia) c am) (k.more (by lia)) (by simp)
   ·exact f
  ·simp only[ai p];walk_at"w";split
   ·rename_i i;simp at i;refine yn w l (by lia) (by lia) (by lia) d (by lia) (fun s q=>by rw [g] at q;cases q;lia) (by lia) fun X R s C B k c I=>?_;have am:s.length<4:=by
     rw[gS1 p,g]at c;cases c;lia
    exact h _ _ C B _ _ I (v.tie d (by lia) c am) (k.more (by lia)) (by simp)
   ·exact f
 ·try walk_at"w"
  exact f
theorem Hc{t m i:Nat}{T U:Sto}{E:ew}{P:List (Nat×Nat)}{o:Ob}{row:List (Nat×Nat)}{e:Nat×Nat}{Q:D×Sto->Prop}(w:WS t m T E P U)(v:WI m E P)(hr:E[i]? = some row)(he:e∈row)(q:Q (pD (uE E P e),o::U)):
  W (dX 3 ga [.ref (t+m+1),.ref (t+m+2),pD e] (o::U)) Q:=by
 obtain⟨p,a,r,j,h1,h2,s,c,u,B,n⟩:=Ah v hr he;have key:W (ga [.ref (t+m+1),.ref (t+m+2),pD e] (o::U)) λp=>p.2=o::U/\Q p:=by
  unfold ga;refine nq ?_;unfold nG;have b:a<m:=by rw[<- v.len];exact(gE1.mp c).1
  have h:∀Q:D×Sto->Prop,Q (.int e.1,o::U)->W (dW (pD e) (.int 0) (o::U)) Q:=λQ q=>gy (i:=0) O q;have g:∀Q:D×Sto->Prop,Q (.int e.2,o::U)->W (dW (pD e) (.int 1) (o::U)) Q:=λQ q=>gy (i:=1) O q;have f:((1:Int)-(e.2:Int))=((1-e.2:Nat):Int):=by lia
  walk_at"w";refine h _ ?_;refine tm (i:=e.1) (xs:=P.map pD) (x:=pD p) (by rw[gC1];exact w.prs) (by rw[gP1,h1];rfl) ?_;refine g _ ?_;walk_at"w";rw[f];refine gy (i:=1-e.2) (x:=.int a) ?_ ?_
  ·rw[s];by_cases k:e.2=0
   ·rw[k,ak O];rfl
   ·rw[aj k,show e.2=1 by lia];rfl
  walk_at"w";refine iG ?_;walk_at"w";refine jd w b ?_;refine⟨t+a+1,r.map pD,O,by rw[gC1];exact w.row a r c,?_⟩;walk_at"w";refine h _ ?_;refine g _ ?_;walk_at"w";rw[f];refine Fy (e:=(e.1,1-e.2)) (row:=r) (j:=j) (by rw[gC1];exact w.row a r c) (by have:=v.le a r c;lia) u ?_;refine⟨O,?_⟩;rw[n]at q;exact q
 obtain⟨⟨d,A⟩,z,l,y⟩:=key;dsimp only at l;subst l;exact⟨_,lh z O O O,y⟩
theorem FW{o:Ob}{n:Nat}{T:Sto}{Q:D×Sto->Prop}(ho:fY o n)(hn:n<=2^40)(hT:T.all (Ob.und (T.length+1))=M)(h:∀m w o',0<m->m<=8->nH m w->fY o' (n+100)->Q (webD w,o'::T)):W (dX 2 gM [.ref 0,.int 8] (o::T)) Q:=by
 refine wa O O hT ?_;unfold gM;refine nq ?_;unfold nE;generalize R:T.length=t;refine eF (λr S=>∃(m:Nat) (s:Ob),0<m/\m<=8/\fY s (n+1)/\r=[Z (.ref 0),Z (.int 8),Z (.int m),Y,Y,Y,Y,Y,Y,Y]/\S=s::T) ?_ ?_
 ·walk_at"w";refine fA ho (by lia) (by lia) (by lia) λc s u hc=>?_;walk_at"w";exact⟨c+1,s,by lia,by lia,u,by simp[Int.add_comm],O⟩
 rintro r S ⟨m,s,am,N,u,rfl,rfl⟩;refine eF (λr S=>∃U,WS t m T (aO m []) [] U/\r=[Z (.ref 0),Z (.int 8),Z (.int m),Z (.ref (t+m+1)),Z (.ref (t+m+2)),Y,Y,Y,Y,Y]/\S=s::U) ?_ ?_
 ·walk_at"w";refine⟨fW (by lia),?_⟩;rw[Int.toNat_natCast];refine jj (λi p r S=>p=jA (t+1) i/\S=s::(T++aO i (.lst [])) /\ ∃x,r=[x]) (gB 0 m) 0 [] _ _ ⟨O,by simp,_,O⟩ (λ_ _ _ _ _=>rfl) ?_ ?_
  ·rintro i d q p r S ⟨rfl,rfl,x,rfl⟩;walk_at"w";rw[bP];refine⟨?_,?_,_,O⟩
   ·rw[ot,R,lR1]
    congr 3
    lia
   ·rw[List.replicate_succ']
  ·rintro xs r S ⟨e,rfl,_⟩;rw[c4,bP,fB]at e;subst e;rw[bP,fB];walk_at"w";rw[j6];refine⟨ea (by lia),_,xZ R,?_,O⟩;simp[R]
 rintro r S ⟨U0,w0,rfl,rfl⟩;refine eF (λr S=>∃E P b U g k,WS t m T E P U/\WI m E P/\P.length<=8/\fY b (n+40)/\r=[Z (.ref 0),Z (.int 8),Z (.int m),Z (.ref (t+m+1)),Z (.ref (t+m+2)),g,k,Y,Y,Y]/\S=b::U) ?_ ?_
 ·walk_at"w";refine⟨Fp (by decide) (by decide),fW (by lia),?_⟩;refine fV (λi r S=>i<=m-1 /\ ∃E P b U g k,WS t m T E P U/\WI m E P/\P.length=i/\(∀j row,i+1<=j->E[j]?=Z row->row=[])/\fY b (n+1+3*i)/\r=[Z (.ref 0),Z (.int 8),Z (.int m),Z (.ref (t+m+1)),Z (.ref (t+m+2)),g,k,Y,Y,Y]/\S=b::U) _ 0 _ _ ?_ (λ_ _ _ _=>rfl) ?_ ?_
  ·refine⟨by lia,_,_,s,U0,Y,Y,w0,x0 m,O,λj row _ L=>?_,u,O,O⟩;rw[aR]at L;split at L
   ·cases L;rfl
   ·cases L
  ·rintro i d q r S ⟨hi,E,P,b,U,g,k,w,v,I,K,a,rfl,rfl⟩;have l:=(gE1.mp q).1;rw [fB] at l;have X:d = .int ((i+1:Nat):Int):=by
    rw[qa,gP1,cN l]at q;simp at q;rw[<- q]
    push_cast
    congr 1
    lia
   subst X;rw[bP]at *
   walk_at"w";refine Dy w v a (by lia) I (by lia) N K λau P' o' V x6' A wq y H aq=>?_;exact⟨O,by lia,au,P',o',V,_,_,A,wq,H,aq,y.more (by lia),O,O⟩
  ·rintro r S ⟨hi,E,P,b,U,g,k,w,v,I,K,a,rfl,rfl⟩;exact⟨O,E,P,b,U,g,k,w,v,by lia,a.more (by lia),O,O⟩
 rintro r S ⟨E,P,b,U,g,k,w,v,I,a,rfl,rfl⟩;refine eF (λr S=>∃E P b U g k B F C,WS t m T E P U/\WI m E P/\fY b (n+100)/\r=[Z (.ref 0),Z (.int 8),Z (.int m),Z (.ref (t+m+1)),Z (.ref (t+m+2)),g,k,B,F,C]/\S=b::U) ?_ ?_
 ·walk_at"w";refine fA a (by lia) (by lia) (by lia) λc o3 ao hc=>?_;walk_at"w";refine⟨fW (by lia),?_⟩;rw[Int.toNat_natCast];refine fV (λi r S=>i<=c /\ ∃E P b U g k B F C,WS t m T E P U/\WI m E P/\P.length<=8+i/\fY b (n+41+4*i)/\r=[Z (.ref 0),Z (.int 8),Z (.int m),Z (.ref (t+m+1)),Z (.ref (t+m+2)),g,k,B,F,C]/\S=b::U) _ 0 _ _ ⟨by lia,E,P,o3,U,g,k,Y,Y,Y,w,v,by lia,ao,O,O⟩ (λ_ _ _ _=>rfl) ?_ ?_
  ·rintro i d q r S ⟨hi,E,P,b,U,g,k,B,F,C,w,v,I,a,rfl,rfl⟩;have l:=(gE1.mp q).1;rw[fB]at l;rw[bP]at *
   walk_at"w";refine EE w v a (by lia) (by lia) am N λau P' o' V x8' x9' A wq y H=>?_;exact⟨O,by lia,au,P',o',V,_,_,_,_,_,A,wq,by lia,y.more (by lia),O,O⟩
  ·rintro r S ⟨hi,E,P,b,U,g,k,B,F,C,w,v,I,a,rfl,rfl⟩;rw[fB,bP]at a;exact⟨O,E,P,b,U,_,_,_,_,_,w,v,a.more (by lia),O,O⟩
 rintro r S ⟨E,P,b,U,g,k,B,F,C,w,v,a,rfl,rfl⟩;walk_at"w";refine eG (S:=b::U) (xs:=jA (t+1) m) (by rw[gC1];exact w.ends) ?_;have z:∀j,j<m -> ∃row,E[j]?=Z row:=λj hj=>⟨_,gG1 (by rw[v.len];exact hj)⟩;refine jj (λi p r S=>∃G x,S=b::(U++G)/\r=[x,Z (.ref (t+m+1)),Z (.ref (t+m+2))]/\p=((E.take i).map λrow=>.tup ((row.map (uE E P)).map pD))) (jA (t+1) m) 0 [] _ _ ⟨[],Y,by simp,O,O⟩ ?_ ?_ ?_
 ·rintro i p r S ⟨G,x,rfl,_⟩;exact gY (by rw[gC1];exact(w.app (G:=G)).ends)
 ·rintro i d q p r S ⟨G,x,rfl,rfl,rfl⟩;have hi:=(gE1.mp q).1;rw[j6]at hi;rw[pU hi]at q;cases q;obtain⟨row,f⟩:=z i hi;have A:=w.app (G:=G);walk_at"w";refine eG (S:=b::(U++G)) (xs:=row.map pD) (by rw[show t+1+i=t+i+1 by lia,gC1];exact A.row i row f) ?_;refine r6 (λe=>pD (uE E P e)) (λr=>∃x,r=[x,Z (.ref (t+m+1)),Z (.ref (t+m+2))]) (gY (by rw[show t+1+i=t+i+1 by lia,gC1];exact A.row i row f)) row _ ⟨_,O⟩ ?_ ?_
  ·rintro e K r ⟨x,rfl⟩;walk_at"w";refine Hc A v f K ?_;exact⟨O,O,_,O⟩
  ·rintro r' _;walk_at"w";have hl:=v.le i row f;refine⟨ea (by rw[lM1];lia),?_⟩;refine eG (xs:=row.map λe=>pD (uE E P e)) (by rw[<- bI,gC1,<- lA1,ee];rfl) ?_;refine⟨G++[Ob.lst (row.map λe=>pD (uE E P e))],_,O,O,?_⟩;rw[bP,cH,f];simp[Function.comp_def]
 ·rintro xs r S ⟨G,x,rfl,rfl,e⟩;rw [c4,bP,j6,<- v.len,b4] at e;subst e;walk_at"w";have hlE:=v.len;refine ⟨ea (by rw [lM1];lia),?_⟩;refine eG (xs:=E.map fun row=>.tup ((row.map (uE E P)).map pD)) (by rw [<- bI,gC1,<- lA1,ee];rfl) ?_;have e:D.tup (E.map fun row=>.tup ((row.map (uE E P)).map pD))=webD (E.map fun row=>row.map (uE E P)):=by
   simp[webD,Function.comp_def]
  refine⟨webD (E.map λrow=>row.map (uE E P)),b,U.drop t++(G++[Ob.lst (E.map λrow=>.tup ((row.map (uE E P)).map pD))]),?_,fL _,a.und,?_⟩
  ·rw[e,<- bI T,<- w.split]
  ·exact h m _ b am N (Do v) a
theorem D5{items:List D}{k:Int}{n:Nat}{o:Ob}{T:Sto}{j:Option D}{Q:List D×Ev×Sto->Prop}(ho:fY o n)(hn:n+items.length<=2^50)(hk:0<k)(f:k<1073741824)(h:∀xs o' p,fY o' (n+items.length)->xs.Sublist items->Q (xs,[p,some (.ref 0)],o'::T)):
  W (fM [] (gN 0) (mB (m2 (b2 oR) (mN (dX 2 dV) (dS (mV 1) (dS (mC (D.int k)) dU))) (mC (D.int (0))))) (eI (mV 0)) items [j,Z (.ref 0)] (o::T)) Q:=by
 refine jj (λi b r S=>∃o x,S=o::T/\r=[x,Z (.ref 0)]/\fY o (n+i)/\i<=items.length/\b.Sublist (items.take i)) items 0 [] _ _ ⟨o,j,O,O,by simpa using ho,by lia,by simp⟩ (λ_ _ _ _ _=>rfl) ?_ ?_
 ·rintro i d g b r S ⟨o,x,rfl,rfl,ho,hi,a⟩;have m:i<items.length:=(gE1.mp g).1;have l:items.take (i+1)=items.take i++[d]:=by rw[cH,g];rfl
  walk_at"w";refine fA ho (by lia) hk f λe o' c q=>?_;walk_at"w";split
  ·exact⟨o',Z d,O,O,c.more (by lia),by lia,by rw[bP,l];simp at a;exact a.append (List.Sublist.refl _)⟩
  ·exact⟨o',Z d,O,O,c.more (by lia),by lia,by rw[bP,l];simp at a;exact a.trans (List.sublist_append_left _ _)⟩
 ·rintro xs r S ⟨o,x,rfl,rfl,ho,_,a⟩;refine h _ _ _ (by simpa using ho) (by simpa using a)
theorem Fd{o:Ob}{n:Nat}{T:Sto}{Q:D×Sto->Prop}(ho:fY o n)(hn:n<=2^45)(g:T.all (Ob.und (T.length+1))=M)(h:∀a b c d o',fY o' (n+4)->Q (.tup (fv a b c d),o'::T)):W (dX 1 fc [.ref 0] (o::T)) Q:=by
 refine wa O O g ?_;unfold fc;refine nq ?_;unfold il;walk_at"w";rw[iP];refine D5 ho (by simp;lia) (by decide) (by decide) λxs f k e i=>?_;obtain⟨a,b,c,d,rfl⟩:=Ai i;walk_at"w";have j:=Aj a b c d;refine⟨ea (by lia),?_⟩;refine eG (xs:=fv a b c d) (by rw[gC1,ee];rfl) ?_;exact⟨_,f,_,O,by rw[D.und];exact kA a b c d,e.und,h a b c d f e⟩
theorem wm{w:ew}{i:Nat}{row:List (Nat×Nat)}{S:Sto}{Q:D×Sto->Prop}(h:w[i]?=Z row)(q:Q (.tup (row.map pD),S)):W (dW (webD w) (.int i) S) Q:=
 gy (x:=.tup (row.map pD)) (by rw[gP1,h];rfl) q
theorem qi{w:ew}{S:Sto}:eS (webD w) S=Z (.int w.length,S):=by simp[webD,eS,d6]
noncomputable def crowd(ws:List Wk)(rm:Nat):Nat:=(ws.filter λu=>u.1 == rm).length
noncomputable def u7(a b c d:Bool)(ws:List Wk)(cs:List Nat)(u:Wk)(row:List (Nat×Nat)):D:=
 ua a b c d u.2.1 (if cs.contains u.1 then 1 else 0) row.length (if 1<crowd ws u.1 then 1 else 0)
theorem oT{ws:List Wk}{a:Nat}{S:Sto}{c:Option D}{Q:List D×Ev×Sto->Prop}(h:∀ b,Q ((ws.filter fun u=>u.1 == a).map ff,b,S)):
  W (fM [] (gN 0) (mB (m2 (b2 oR) (m2 (b2 dW) (mV 0) (mC (D.int (0)))) (mV 1))) (eI (mV 0)) (eA ws) [c,Z (.int a)] S) Q:=by
 refine hA (λu:Wk=>u.1 == a) ff (λr=>∃x,r=[x,Z (.int a)]) O ws _ ⟨_,O⟩ ?_ λb _=>h b;rintro u d r ⟨x,rfl⟩;walk_at"w";refine gy (i:=0) O ?_;walk_at"w";refine⟨?_,⟨_,O⟩,λ_=>trivial⟩;rw[bS,beq_iff_eq,beq_iff_eq];lia
theorem Dd {w x y z:D}{S:Sto}{r:Ev}{m1 m2 a b:FE}{Q:D×Sto->Prop}(h1:m1 r S=some (w,S))(h2:m2 r S=some (x,S))(c:a r S=some (y,S))(d:b r S=some (z,S))
  (q:Q (.ref S.length,S++[.dct [(.inr "came",w),(.inr "chalk",x),(.inr "doors",y),(.inr "others",z)]])):
  W (r9 [(mC (.str "came"),m1),(mC (.str "chalk"),m2),(mC (.str "doors"),a),(mC (.str "others"),b)] r S) Q:=by
 refine W.of ?_ q;simp only[r9,B0,mC,h1,h2,c,d,oS1,oP1,vE,sn];rfl
theorem B9 {w x y z:D}{S:Sto}{n:Nat}(h:S[n]? = some (.dct [(.inr "came",w),(.inr "chalk",x),(.inr "doors",y),(.inr "others",z)])):
  dW (.ref n) (.str "came") S=Z (w,S)/\dW (.ref n) (.str "chalk") S=Z (x,S)/\dW (.ref n) (.str "doors") S=Z (y,S)/\dW (.ref n) (.str "others") S=Z (z,S):=by
 refine⟨?_,?_,?_,?_⟩<;>(simp only[dW,h,lc,sn,oS1];rfl)
noncomputable def qt:Nat->D
 |0=>.str "came" |1=>.str "chalk" |2=>.str "doors" |_=>.str "others"
noncomputable def C5:Nat->D
 |0=>.int 5|1=>.int 2|2=>.int 5|_=>.int 2
noncomputable def gI(a b c d:Bool)(w x y z:Int):Nat->D
 |0=>if a then .int w else .non
 |1=>if b then .int x else .non
 |2=>if c then .int y else .non
 |_=>if d then .int z else .non
theorem vm {a b c d:Bool}{w x y z:Int}{S:Sto}{n:Nat}(h:S[n]? = some (.dct [(.inr "came",.int w),(.inr "chalk",.int x),(.inr "doors",.int y),(.inr "others",.int z)])){i:Nat}(hi:i∈[0,1,2,3]){r:Ev}{f g j:Nat}
  (h1:r[f]?=Z (Z (qt i))) (h2:r[g]?=Z (Z (.tup (fv a b c d)))) (e:r[j]?=Z (Z (.ref n))):
  vz (mB (m2 (b2 i3) (mV f) (mV g))) (m2 (b2 dW) (mV j) (mV f)) (mC D.non) r S=Z (gI a b c d w x y z i,S):=by
 obtain⟨m,l,o,k⟩:=B9 h;simp only[aF,bN,or_false]at hi;rcases hi with rfl|rfl|rfl|rfl
 ·cases a<;>simp only[vz,mB,m2,b2,mV,h1,h2,e,qt,oS1,Cf,m,gI,mC]<;>rfl
 ·cases b<;>simp only[vz,mB,m2,b2,mV,h1,h2,e,qt,oS1,zS,l,gI,mC]<;>rfl
 ·cases c<;>simp only[vz,mB,m2,b2,mV,h1,h2,e,qt,oS1,zR,o,gI,mC]<;>rfl
 ·cases d<;>simp only[vz,mB,m2,b2,mV,h1,h2,e,qt,oS1,w8,k,gI,mC]<;>rfl
theorem Bc{w:ew}{ws:List Wk}{cs:List Nat}{a b c d:Bool}{k:Nat}{u:Wk}{row:List (Nat×Nat)}{S:Sto}{Q:D×Sto->Prop}(n:ws[k]? = Z u)(hr:w[u.1]? = Z row)(o:ws.length<=1000)(q:Q (u7 a b c d ws cs u row,S)):W (dX 4 gK [webD w,.tup (fv a b c d),dZ ws cs,.int k] S) Q:=by
 refine lP O (by simp[D.unds,fL,fR];rw[D.und];exact⟨kA a b c d,O⟩) ?_;unfold gK;refine nq ?_;unfold nC;refine eF (λr S=>S=[]/\r=[Z (webD w),Z (.tup (fv a b c d)),Z (dZ ws cs),Z (.int k),Z (.tup (eA ws)),Z (.tup (eP cs)),Y,Y,Y,Y,Y]) ?_ ?_
 ·rw[dZ];walk_at"w"
 rintro r S ⟨rfl,rfl⟩;refine eF (λr S=>S=[]/\r=[Z (webD w),Z (.tup (fv a b c d)),Z (dZ ws cs),Z (.int k),Z (.tup (eA ws)),Z (.tup (eP cs)),Z (.int u.1),Z (.int u.2.1),Z (.int u.2.2),Y,Y]) ?_ ?_
 ·walk_at"w";refine gy (i:=k) (x:=ff u) (by rw[eA,gP1,n];rfl) ?_;rw[ff];walk_at"w"
 rintro r S ⟨rfl,rfl⟩;refine eF (λr S=>S=[.lst ((ws.filter λv=>v.1 == u.1).map ff)]/\r=[Z (webD w),Z (.tup (fv a b c d)),Z (dZ ws cs),Z (.int k),Z (.tup (eA ws)),Z (.tup (eP cs)),Z (.int u.1),Z (.int u.2.1),Z (.int u.2.2),Z (.ref 0),Y]) ?_ ?_
 ·walk_at"w";rw[iP];refine oT λh=>?_;walk_at"w";have:=dq (λv:Wk=>v.1 == u.1) ws;have h2:((ws.filter λv:Wk=>v.1 == u.1).map ff).length<=100000:=by rw[lM1];lia
  exact⟨ea h2,trivial⟩
 rintro r S ⟨rfl,rfl⟩;generalize j:[Ob.lst ((ws.filter λv=>v.1 == u.1).map ff)]=S1;have f:S1[0]?=Z (Ob.lst ((ws.filter λv=>v.1 == u.1).map ff)):=by rw[<- j];rfl
 refine eF (λr S=>S=S1++[.dct [(.inr "came",.int u.2.1),(.inr "chalk",.int (if cs.contains u.1 then 1 else 0)),(.inr "doors",.int row.length),(.inr "others",.int (if 1<crowd ws u.1 then 1 else 0))]]/\r=[Z (webD w),Z (.tup (fv a b c d)),Z (dZ ws cs),Z (.int k),Z (.tup (eA ws)),Z (.tup (eP cs)),Z (.int u.1),Z (.int u.2.1),Z (.int u.2.2),Z (.ref 0),Z (.ref S1.length)]) ?_ ?_
 ·unfold eh;rw[d5];have hc:(List.map ff (ws.filter λv=>v.1 == u.1)).length=crowd ws u.1:=by rw[lM1];rfl
  refine Dd (w:=.int u.2.1) (x:=.int (if cs.contains u.1 then 1 else 0)) (y:=.int row.length) (z:=.int (if 1<crowd ws u.1 then 1 else 0)) O ?_ ?_ ?_ ?_
  ·simp only[vz,mB,m2,b2,mV,gC1,dk,oS1,zQ,mC];split<;>rfl
  ·have:W (dW (webD w) (.int u.1) S1) λp=>p=(.tup (row.map pD),S1):=wm hr O;obtain⟨p,e,rfl⟩:=this;simp only[mN,dS,dU,m2,b1,b2,mV,gC1,dk,oS1,e,gC,lM1]
  ·simp only[vz,mB,mN,dS,dU,m2,b1,b2,mV,mC,gC1,dk,oS1,eS,gR f,oP1,iI,hc];by_cases h1:1<crowd ws u.1
   ·rw[ak h1,ak (by rw[al];lia)]
   ·rw[aj h1,aj (by rw[al];lia)]
  ·walk_at"w"
 rintro r S ⟨rfl,rfl⟩;generalize m:S1++[Ob.dct [(.inr "came",.int u.2.1),(.inr "chalk",.int (if cs.contains u.1 then 1 else 0)),(.inr "doors",.int row.length),(.inr "others",.int (if 1<crowd ws u.1 then 1 else 0))]]=S2;have g:S2[S1.length]?=Z (Ob.dct [(.inr "came",.int u.2.1),(.inr "chalk",.int (if cs.contains u.1 then 1 else 0)),(.inr "doors",.int row.length),(.inr "others",.int (if 1<crowd ws u.1 then 1 else 0))]):=by rw[<- m,ee];rfl
 walk_at"w";have l:mi = .tup ([0,1,2,3].map λi:Nat=>D.tup [qt i,C5 i]):=rfl;rw[l,iP];refine r6 (gI a b c d u.2.1 (if cs.contains u.1 then 1 else 0) row.length (if 1<crowd ws u.1 then 1 else 0)) (λr=>∃x y,r=[x,y,Z (.tup (fv a b c d)),Z (.ref S1.length)]) O _ _ ⟨_,_,O⟩ ?_ ?_
 ·rintro i hi r ⟨x,y,rfl⟩;refine⟨([Z (qt i),Z (C5 i),Z (.tup (fv a b c d)),Z (.ref S1.length)],S2),O,?_⟩;refine⟨(M,S2),O,O,?_⟩;exact⟨_,vm g hi O O O,O,O,_,_,O⟩
 ·rintro h _;walk_at"w";refine eG (xs:=[gI a b c d u.2.1 (if cs.contains u.1 then 1 else 0) row.length (if 1<crowd ws u.1 then 1 else 0) 0,gI a b c d u.2.1 (if cs.contains u.1 then 1 else 0) row.length (if 1<crowd ws u.1 then 1 else 0) 1,gI a b c d u.2.1 (if cs.contains u.1 then 1 else 0) row.length (if 1<crowd ws u.1 then 1 else 0) 2,gI a b c d u.2.1 (if cs.contains u.1 then 1 else 0) row.length (if 1<crowd ws u.1 then 1 else 0) 3]) (by rw[ee];rfl) ?_;exact⟨oh,q⟩
theorem se{w:ew}{ws:List Wk}{cs:List Nat}{a b c d:Bool}{k:Nat}{u:Wk}{row:List (Nat×Nat)}{S:Sto}{Q:D×Sto->Prop}(s:ws[k]? = Z u)(hr:w[u.1]? = Z row)(t:ws.length<=1000)(q:Q (u7 a b c d ws cs u row,S)):W (dX 4 eX [webD w,.tup (fv a b c d),dZ ws cs,.int k] S) Q:=by
 refine lP O (by simp[D.unds,fL,fR];rw[D.und];exact⟨kA a b c d,O⟩) ?_;unfold eX;refine nq ?_;unfold kJ;have g:∀(S:Sto) (Q:D×Sto->Prop),Q (.tup (eA ws),S)->W (dW (dZ ws cs) (.int 0) S) Q:=λS Q q=>gy (i:=0) O q;have m:∀(S:Sto),dW (dZ ws cs) (.int 1) S=Z (.tup (eP cs),S):=λS=>by
  obtain⟨p,e,h⟩:W (dW (dZ ws cs) (.int 1) S) λp=>p=(.tup (eP cs),S):=gy (i:=1) O O;rw[e,h]
 refine eF (λr S=>S=[]/\r=[Z (webD w),Z (.tup (fv a b c d)),Z (dZ ws cs),Z (.int k),Z (.int u.1),Z (.int u.2.1),Z (.int u.2.2),Y,Y]) ?_ ?_
 ·walk_at"w";refine g _ _ ?_;refine gy (i:=k) (x:=ff u) (by rw[eA,gP1,s];rfl) ?_;rw[ff];walk_at"w"
 rintro r S ⟨rfl,rfl⟩;refine eF (λr S=>r=[Z (webD w),Z (.tup (fv a b c d)),Z (dZ ws cs),Z (.int k),Z (.int u.1),Z (.int u.2.1),Z (.int u.2.2),Z (.int (crowd ws u.1)),Y]) ?_ ?_
 ·walk_at"w";refine g _ _ ?_;rw[iP];refine oT λl=>?_;walk_at"w";have:=dq (λv:Wk=>v.1 == u.1) ws;have h2:((ws.filter λv:Wk=>v.1 == u.1).map ff).length<=100000:=by rw[lM1];lia
  refine⟨ea h2,?_⟩;refine eG (xs:=(ws.filter λv:Wk=>v.1 == u.1).map ff) O ?_;rw[lM1];rfl
 rintro r f rfl;refine eF (λr S=>S=f++[.dct [(.inr "came",.int u.2.1),(.inr "chalk",.int (if cs.contains u.1 then 1 else 0)),(.inr "doors",.int row.length),(.inr "others",.int (if 1<crowd ws u.1 then 1 else 0))]]/\r=[Z (webD w),Z (.tup (fv a b c d)),Z (dZ ws cs),Z (.int k),Z (.int u.1),Z (.int u.2.1),Z (.int u.2.2),Z (.int (crowd ws u.1)),Z (.ref f.length)]) ?_ ?_
 ·unfold eh;rw[d5];refine Dd (w:=.int u.2.1) (x:=.int (if cs.contains u.1 then 1 else 0)) (y:=.int row.length) (z:=.int (if 1<crowd ws u.1 then 1 else 0)) O ?_ ?_ ?_ ?_
  ·simp only[mN,dS,dU,b1,m2,b2,mV,gC1,dk,oS1,m,zQ,mC,nT]
  ·obtain⟨p,e,rfl⟩:W (dW (webD w) (.int u.1) f) λp=>p=(.tup (row.map pD),f):=wm hr O;simp only[mN,dS,dU,m2,b1,b2,mV,gC1,dk,oS1,e,gC,lM1]
  ·simp only[mN,dS,dU,m2,b1,b2,mV,mC,gC1,dk,oS1,iI,nT];by_cases h1:1<crowd ws u.1
   ·rw[ak h1,ak (by rw[al];lia)]
   ·rw[aj h1,aj (by rw[al];lia)]
  ·walk_at"w"
 rintro r S ⟨rfl,rfl⟩;generalize o:f++[Ob.dct [(.inr "came",.int u.2.1),(.inr "chalk",.int (if cs.contains u.1 then 1 else 0)),(.inr "doors",.int row.length),(.inr "others",.int (if 1<crowd ws u.1 then 1 else 0))]]=S2;have j:S2[f.length]?=Z (Ob.dct [(.inr "came",.int u.2.1),(.inr "chalk",.int (if cs.contains u.1 then 1 else 0)),(.inr "doors",.int row.length),(.inr "others",.int (if 1<crowd ws u.1 then 1 else 0))]):=by rw[<- o,ee];rfl
 walk_at"w";have n:([D.str "came",D.str "chalk",D.str "doors",D.str "others"]:List D)=[0,1,2,3].map qt:=rfl;rw[iP,n];refine r6 (gI a b c d u.2.1 (if cs.contains u.1 then 1 else 0) row.length (if 1<crowd ws u.1 then 1 else 0)) (λr=>∃x,r=[x,Z (.tup (fv a b c d)),Z (.ref f.length)]) O _ _ ⟨_,O⟩ ?_ ?_
 ·rintro i hi r ⟨x,rfl⟩;refine⟨([Z (qt i),Z (.tup (fv a b c d)),Z (.ref f.length)],S2),O,?_⟩;refine⟨(M,S2),O,O,?_⟩;exact⟨_,vm j hi O O O,O,O,_,O⟩
 ·rintro l _;walk_at"w";refine eG (xs:=[gI a b c d u.2.1 (if cs.contains u.1 then 1 else 0) row.length (if 1<crowd ws u.1 then 1 else 0) 0,gI a b c d u.2.1 (if cs.contains u.1 then 1 else 0) row.length (if 1<crowd ws u.1 then 1 else 0) 1,gI a b c d u.2.1 (if cs.contains u.1 then 1 else 0) row.length (if 1<crowd ws u.1 then 1 else 0) 2,gI a b c d u.2.1 (if cs.contains u.1 then 1 else 0) row.length (if 1<crowd ws u.1 then 1 else 0) 3]) (by rw[ee];rfl) ?_;exact⟨oh,q⟩
noncomputable def pt(b:Bool)(x:Nat):D:=if b=M then .int x else .non
noncomputable def Ji(a b c d:Bool)(x y z w:Nat):D:=.tup [pt a x,pt b y,pt c z,pt d w]
noncomputable def nh:List D:=[.str "leave",.str "mark",.str "wipe"]
noncomputable def lm:List D:=[.non,.int 0,.int 1,.int 2,.int 3]
structure ge (x:D):Prop where
 is:∃m h t,x = .tup [.int (m:Nat),h,t]/\m<4000/\h∈nh/\t∈lm
theorem ge.und{x:D}(h:ge x):x.und 0=M:=by
 obtain⟨m,x,t,rfl,_,h1,h2⟩:=h.is;have b:x.und 0=M:=by simp[nh]at h1;rcases h1 with z|z|z<;>subst z<;>rfl
 have a:t.und 0=M:=by simp[lm]at h2;rcases h2 with z|z|z|z|z<;>subst z<;>rfl
 simp[D.und,D.unds,b,a]
noncomputable def cx(b:Bool)(x:Nat):Nat:=if b=M then x else 0
noncomputable def i7:List Bool->List Nat->Nat
 |b::bs,x::xs=>cx b x*8^bs.length+i7 bs xs
 |_,_=>0
theorem lg:∀{bs:List Bool} {xs:List Nat},(∀x∈xs,x<=7)->i7 bs xs<8^bs.length
 |[],_,_=>by rw[i7];simp;simp
 |b::bs,[],_=>by
  rw[i7]
  ·exact Nat.pos_of_ne_zero (by simp)
  ·simp
 |b::bs,x::xs,h=>by
  have h1:=lg (bs:=bs) λy a=>h y (mC1 _ a);have h2:cx b x<=7:=by unfold cx;split;exact h x mS1;lia
  rw[i7,lC1,Nat.pow_succ];have c:cx b x*8^bs.length<=7*8^bs.length:=dr _ h2;lia
theorem Hg{S:Sto}{n:Nat}{xs ys:List D}:gr S (n+1) (.tup xs) (.tup ys)=nJ (gr S n) xs ys:=by
 rw[gr];simp[d6]
theorem II{S:Sto}{n:Nat}{xs ys:List D}:jJ S (n+1) (.tup xs) (.tup ys)=nQ (gr S n) (jJ S n) xs ys:=by
 rw[jJ];simp[HQ,d6]
theorem Da{S:Sto}{n:Nat}{b:Bool}{x y:Nat}:gr S (n+1) (pt b x) (pt b y)=Z (decide (cx b x=cx b y)):=by
 cases b with
 |false=>rfl
 |true=>
  show Z ((x:Int) == (y:Int))=Z (decide (x=y))
  congr 1
  rw[bS,beq_iff_eq,al];lia
theorem GR{S:Sto}{n:Nat}{b:Bool}{x y:Nat}(h:cx b x≠cx b y):jJ S (n+1) (pt b x) (pt b y)=Z (decide (cx b x<cx b y)):=by
 cases b with
 |false=>exact absurd O h
 |true=>
  show Z (decide ((x:Int)<(y:Int)))=Z (decide (x<y))
  congr 1
  rw[bS,al,al];omega
theorem Hi{A B P u v:Nat}(a:u<P)(hv:v<P):(A*P+u=B*P+v↔A=B/\u=v)/\(A*P+u<B*P+v↔A<B\/(A=B/\u<v)):=by
 rcases Nat.lt_trichotomy A B with h|h|h
 ·have:=dr P (show A+1<=B from h);rw[Nat.succ_mul]at this;constructor<;>lia
 ·subst h;constructor<;>lia
 ·have:=dr P (show B+1<=A from h);rw[Nat.succ_mul]at this;constructor<;>lia
theorem qv{S:Sto}{n:Nat}:∀ {bs:List Bool} {xs ys:List Nat},xs.length=bs.length->ys.length=bs.length->(∀ x∈xs,x<=7)->(∀ y∈ys,y<=7) ->
  nJ (gr S (n+1)) (dw pt bs xs) (dw pt bs ys)=Z (decide (i7 bs xs=i7 bs ys))
 |[],xs,ys,_,_,_,_=>by simp[nJ,i7]
 |b::bs,[],ys,h,_,_,_=>by simp at h
 |b::bs,x::xs,[],_,h,_,_=>by simp at h
 |b::bs,x::xs,y::ys,h1,h2,hx,hy=>by
  have ih:=qv (S:=S) (n:=n) (bs:=bs) (xs:=xs) (ys:=ys) (by simpa using h1) (by simpa using h2) (λz a=>hx z (mC1 _ a)) (λz a=>hy z (mC1 _ a));have b1:=lg (bs:=bs) (xs:=xs) λz a=>hx z (mC1 _ a);have b2:=lg (bs:=bs) (xs:=ys) λz a=>hy z (mC1 _ a);rw[dy,dy,nJ,Da,ih,i7,i7];have c:=(Hi (A:=cx b x) (B:=cx b y) b1 b2).1;rw[oS1,oP1]
  congr 1
  rw[bS,bA1,al,al,al];exact c.symm
theorem zF{S:Sto}{n:Nat}:∀ {bs:List Bool} {xs ys:List Nat},xs.length=bs.length->ys.length=bs.length->(∀ x∈xs,x<=7)->(∀ y∈ys,y<=7) ->
  nQ (gr S (n+1)) (jJ S (n+1)) (dw pt bs xs) (dw pt bs ys)=Z (decide (i7 bs xs<i7 bs ys))
 |[],xs,ys,_,_,_,_=>by simp[nQ,i7]
 |b::bs,[],ys,h,_,_,_=>by simp at h
 |b::bs,x::xs,[],_,h,_,_=>by simp at h
 |b::bs,x::xs,y::ys,h1,h2,hx,hy=>by
  have ih:=zF (S:=S) (n:=n) (bs:=bs) (xs:=xs) (ys:=ys) (by simpa using h1) (by simpa using h2) (λz a=>hx z (mC1 _ a)) (λz a=>hy z (mC1 _ a));have b1:=lg (bs:=bs) (xs:=xs) λz a=>hx z (mC1 _ a);have b2:=lg (bs:=bs) (xs:=ys) λz a=>hy z (mC1 _ a);have c:=(Hi (A:=cx b x) (B:=cx b y) b1 b2).2;rw[dy,dy,nQ,Da,oS1,i7,i7];by_cases z:cx b x=cx b y
  ·rw[ak (ah z),ih]
   congr 1
   rw[bS,al,al];lia
  ·rw[aj (by rw[al];exact z),GR z]
   congr 1
   rw[bS,al,al];lia
structure Ky where
 m:Nat
 x:Nat
 y:Nat
 z:Nat
 w:Nat
structure Ky.Ok (k:Ky):Prop where
 m:k.m<4000
 x:k.x<=4
 y:k.y<=4
 z:k.z<=4
 w:k.w<=4
abbrev E4:=Bool×Bool×Bool×Bool
noncomputable def E4.bs(e:E4):List Bool:=[e.1,e.2.1,e.2.2.1,e.2.2.2]
noncomputable def Ky.xs(k:Ky):List Nat:=[k.x,k.y,k.z,k.w]
noncomputable def C3(b:Bool)(x:Nat):TK:=if b=M then .int x else .non
noncomputable def Ky.sg(k:Ky)(e:E4):D:=Ji e.1 e.2.1 e.2.2.1 e.2.2.2 k.x k.y k.z k.w
noncomputable def Ky.d(k:Ky)(e:E4):D:=.tup [.int k.m,k.sg e]
noncomputable def Ky.tk(k:Ky)(e:E4):TK:=.tup [.int k.m,.tup [C3 e.1 k.x,C3 e.2.1 k.y,C3 e.2.2.1 k.z,C3 e.2.2.2 k.w]]
noncomputable def Ky.code(k:Ky)(e:E4):Nat:=k.m*4096+i7 e.bs k.xs
theorem Ky.keyT(k:Ky)(e:E4):Mi.keyT (k.d e)=Z (k.tk e):=by
 obtain⟨a,b,c,d⟩:=e;cases a<;>cases b<;>cases c<;>cases d<;>rfl
theorem Ky.tkD(k:Ky)(e:E4):Mi.tkD (k.tk e)=k.d e:=(vF (k.keyT e)).1
theorem Ky.sg_zip(k:Ky)(e:E4):k.sg e = .tup (dw pt e.bs k.xs):=rfl
theorem Ky.Ok.all{k:Ky}(h:k.Ok):∀x∈k.xs,x<=7:=by
 intro x a;have:=h.x;have:=h.y;have:=h.z;have:=h.w
 simp[Ky.xs]at a;lia
theorem gn{k:Ky}(h:k.Ok)(e:E4):i7 e.bs k.xs<4096:=lg (bs:=e.bs) h.all
theorem Ky.eq{k l:Ky}{e:E4}{S:Sto}{n:Nat}(hk:k.Ok)(a:l.Ok):gr S (n+3) (k.d e) (l.d e)=Z (decide (k.code e=l.code e)):=by
 have d:gr S (n+2) (.int k.m) (.int l.m)=Z ((k.m:Int) == (l.m:Int)):=rfl;have b:gr S (n+2) (k.sg e) (l.sg e)=Z (decide (i7 e.bs k.xs=i7 e.bs l.xs)):=by rw[Ky.sg_zip,Ky.sg_zip,Hg,qv O O hk.all a.all]
 unfold Ky.d Ky.code;rw[Hg,nJ,d,oS1,nJ,b,nJ];have c:=(Hi (A:=k.m) (B:=l.m) (gn hk e) (gn a e)).1;show Z (((k.m:Int) == (l.m:Int))&&(decide (i7 e.bs k.xs=i7 e.bs l.xs)&&M))=_
 congr 1
 rw[bS,bO,bA1,al,al,beq_iff_eq,c];lia
theorem Ky.lt{k l:Ky}{e:E4}{S:Sto}{n:Nat}(hk:k.Ok)(a:l.Ok):jJ S (n+3) (k.d e) (l.d e)=Z (decide (k.code e<l.code e)):=by
 have c:gr S (n+2) (.int k.m) (.int l.m)=Z ((k.m:Int) == (l.m:Int)):=rfl;have g:jJ S (n+2) (.int k.m) (.int l.m)=Z (decide ((k.m:Int)<(l.m:Int))):=rfl;have f:gr S (n+2) (k.sg e) (l.sg e)=Z (decide (i7 e.bs k.xs=i7 e.bs l.xs)):=by rw[Ky.sg_zip,Ky.sg_zip,Hg,qv O O hk.all a.all]
 have d:jJ S (n+2) (k.sg e) (l.sg e)=Z (decide (i7 e.bs k.xs<i7 e.bs l.xs)):=by rw[Ky.sg_zip,Ky.sg_zip,II,zF O O hk.all a.all]
 unfold Ky.d Ky.code;have h:=(Hi (A:=k.m) (B:=l.m) (gn hk e) (gn a e)).2;rw[II,nQ,c,oS1];by_cases z:k.m=l.m
 ·rw[ak (by rw[beq_iff_eq];lia),nQ,f,oS1];by_cases b:i7 e.bs k.xs=i7 e.bs l.xs
  ·rw[ak (ah b),nQ]
   congr 1
   rw[eq_comm,decide_eq_false_iff_not];lia
  ·rw[aj (by rw[al];exact b),d]
   congr 1
   rw[bS,al,al];lia
 ·rw[aj (by rw[beq_iff_eq];lia),g]
  congr 1
  rw[bS,al,al];lia
theorem Ky.und(k:Ky)(e:E4)(n:Nat):(k.d e).und n=M:=by
 rw[<- k.tkD e];exact tT _
theorem Ky.sgu(k:Ky)(e:E4)(n:Nat):(k.sg e).und n=M:=by
 have:=k.und e n;unfold Ky.d at this;simp only[D.und,D.unds,bO,Bool.true_and]at this;exact this
noncomputable def dO(F:List (TK×D)):Ob:=match F with
 |[]=>.dct []
 |_=>.dcT F
theorem Hl{F:List (TK×D)}(h:F≠[]):dO F = .dcT F:=by
 cases F with
 |nil=>exact absurd O h
 |cons _ _=>rfl
structure RW (e:E4)(F:List (TK×D)):Prop where
 row:∀p∈F,∃k:Ky,k.Ok/\p.1=k.tk e/\ge p.2
 nd:(F.map (·.1)).Nodup
theorem RW.und{e:E4}{F:List (TK×D)}(h:RW e F)(n:Nat):(dO F).und n=M:=by
 have:D.unds n (F.map (·.2))=M:=Mi.eK λp b=>by
  obtain⟨_,_,_,a⟩:=h.row p b;exact fr a.und
 cases F with
 |nil=>rfl
 |cons _ _=>exact this
theorem Gf{e:E4}{F:List (TK×D)}{k:Ky}{x:D}{n:Nat}{S:Sto}(b:S[n]?=Z (dO F))(c:F.length<=100000):i0 (.ref n) (k.d e) x S=Z (.non,S.set n (dO (e6 F (k.tk e) x))):=by
 cases F with
 |nil=>
  have a:S[n]?=Z (.dct []):=b;simp only[i0,a,k.keyT e];rfl
 |cons p F=>
  have a:S[n]?=Z (.dcT (p::F)):=b;rw[Hl DW];simp only[i0,a,k.keyT e,oS1];rw[ak (bJ c (by decide))]
abbrev Rw:=Ky×D
noncomputable def fF(e:E4)(p:Rw):D:=.tup [p.1.d e,p.2]
noncomputable def nI(p:Rw):Prop:=p.1.Ok/\ge p.2
theorem RW.list{e:E4}:∀{F:List (TK×D)},(∀p∈F,∃k:Ky,k.Ok/\p.1=k.tk e/\ge p.2) -> ∃L:List Rw,L.map (λp=>(p.1.tk e,p.2))=F /\ ∀p∈L,nI p
 |[],_=>⟨[],O,λp a=>by cases a⟩
 |x::F,h=>by
  obtain⟨L,h1,h2⟩:=RW.list (F:=F) λp a=>h p (mC1 _ a);obtain⟨k,c,d,b⟩:=h x mS1;refine⟨(k,x.2)::L,by rw[mP1,h1,<- d],λp a=>?_⟩;rcases aF.mp a with z|z
  ·subst z;exact⟨c,b⟩
  ·exact h2 p z
theorem DY(b:Bool)(x:Nat):C3 b x=if b=M then .int (cx b x)else .non:=by unfold C3 cx;cases b<;>rfl
theorem v4{b:Bool}{x y:Nat}(h:C3 b x=C3 b y):cx b x=cx b y:=by
 cases b with
 |false=>rfl
 |true=>
  have h':TK.int (x:Int)=TK.int (y:Int):=h;injection h' with h';exact(by lia:x=y)
theorem Hm(a b c d x y z w:_):i7 [a,b,c,d] [x,y,z,w]=((cx a x*8+cx b y)*8+cx c z)*8+cx d w:=by
 simp only[i7,lC1,bf];lia
theorem uZ{k l:Ky}{e:E4}(hk:k.Ok)(f:l.Ok):k.tk e=l.tk e↔k.code e=l.code e:=by
 obtain⟨a,b,c,d⟩:=e;have j:k.code (a,b,c,d)=k.m*4096+(((cx a k.x*8+cx b k.y)*8+cx c k.z)*8+cx d k.w):=by unfold Ky.code;rw[<- Hm];rfl
 have o:l.code (a,b,c,d)=l.m*4096+(((cx a l.x*8+cx b l.y)*8+cx c l.z)*8+cx d l.w):=by unfold Ky.code;rw[<- Hm];rfl
 have le:∀(b:Bool) (x:Nat),x<=4->cx b x<=4:=λb x h=>by unfold cx;split<;>lia
 rw[j,o];constructor
 ·intro h;unfold Ky.tk at h;injection h with h;injection h with h1 h2;injection h1 with h1;injection h2 with h2 _;injection h2 with h2;injection h2 with i h2;injection h2 with p2 h2;injection h2 with r h2;injection h2 with g _;rw[v4 i,v4 p2,v4 r,v4 g,show k.m=l.m by lia]
 ·intro h;have y:=le a _ hk.x;have w:=le b _ hk.y;have A:=le c _ hk.z;have z:=le d _ hk.w
  have u:=le a _ f.x;have r2:=le b _ f.y;have t:=le c _ f.z;have v:=le d _ f.w
  have s:k.m=l.m:=by lia
  have m:cx a k.x=cx a l.x:=by lia
  have q:cx b k.y=cx b l.y:=by lia
  have p:cx c k.z=cx c l.z:=by lia
  have n:cx d k.w=cx d l.w:=by lia
  unfold Ky.tk;simp only[DY,s,m,q,p,n]
noncomputable def Dj(e:E4)(L:List Rw):Prop:=L.Pairwise λp q=>p.1.code e<q.1.code e
theorem nt{α:Type}{p q:α->Bool}:∀{l:List α},(∀x∈l,p x=q x)->l.find? p=l.find? q
 |[],_=>rfl
 |a::l,h=>by
  rw[bc,bc,h a mS1,nt λx b=>h x (mC1 _ b)]
theorem ik{α:Type}{f:α->Nat}{c:Nat}{a:α}:∀{l:List α},(l.map f).Nodup->((l.find? λx=>decide (f x=c))=Z a↔a∈l/\f a=c)
 |[],_=>by simp
 |b::l,nd=>by
  rw[mP1,aN]at nd;rw[bc];by_cases z:f b=c
  ·rw[ah z];constructor
   ·intro h;cases h;exact⟨mS1,z⟩
   ·rintro⟨h1,h2⟩;rcases aF.mp h1 with y|y
    ·rw[y]
    ·exact absurd (ci.mpr ⟨a,y,h2.trans z.symm⟩) nd.1
  ·rw[ai z];show(l.find? λx=>decide (f x=c))=Z a↔_;rw[ik nd.2];constructor
   ·rintro⟨h1,h2⟩;exact⟨mC1 _ h1,h2⟩
   ·rintro⟨h1,h2⟩;rcases aF.mp h1 with y|y
    ·rw[y]at h2;exact absurd h2 z
    ·exact⟨y,h2⟩
theorem xg{α:Type}{f:α->Nat}{c:Nat}{l m:List α}(p:l.Perm m)(nd:(m.map f).Nodup):(l.find? λx=>decide (f x=c))=m.find? λx=>decide (f x=c):=by
 have b:(l.map f).Nodup:=(p.map f).nodup_iff.mpr nd;apply Option.ext;intro a;rw[ik b,ik nd,p.mem_iff]
theorem Dj.le{e:E4}{L:List Rw}(h:Dj e L)(ok:∀p∈L,nI p){i j:Nat}{p q:Rw}(hi:L[i]?=Z p)(a:L[j]?=Z q)(g:i<=j):p.1.m<=q.1.m/\(i<j->p.1.code e<q.1.code e):=by
 have f:=(ok p (gM1 hi)).1;have d:=(ok q (gM1 a)).1;by_cases z:i=j
 ·subst z;rw[hi]at a;cases a;exact⟨nR1 _,λz=>by lia⟩
 ·obtain⟨h1,b⟩:=gE1.mp hi;obtain⟨h2,c⟩:=gE1.mp a;have:=cw.mp h i j h1 h2 (by lia);rw[b,c]at this;refine⟨?_,λ_=>this⟩;have k:=gn f e;have l:=gn d e;unfold Ky.code at this;lia
theorem IM{e:E4}{L:List Rw}{i:Nat}{p:Rw}{S:Sto}(h:L[i]?=Z p):dW (.tup (L.map (fF e))) (.int (i:Nat)) S=Z (fF e p,S):=by
 obtain⟨x,b,a⟩:=(gy (i:=i) (xs:=L.map (fF e)) (x:=fF e p) (S:=S) (Q:=λx=>x=(fF e p,S)) (by rw[gP1,h];rfl) O);rw[b,a]
theorem IN{e:E4}{p:Rw}{S:Sto}:dW (fF e p) (.int 0) S=Z (p.1.d e,S):=rfl
theorem Kc{e:E4}{p:Rw}{S:Sto}:dW (fF e p) (.int 1) S=Z (p.2,S):=rfl
theorem Js{e:E4}{k:Ky}{S:Sto}:dW (k.d e) (.int 0) S=Z (.int k.m,S):=rfl
theorem Kb{e:E4}{k:Ky}{S:Sto}:dW (k.d e) (.int 1) S=Z (k.sg e,S):=rfl
theorem jX{e:E4}{L:List Rw}(ok:∀p∈L,nI p)(n:Nat):(D.tup (L.map (fF e))).und n=M:=by
 rw[D.und];refine Mi.eK λp a=>?_;have h1:=p.1.und e n;have h2:=fr (n:=n) (ok p a).2.und;simp[fF,D.und,D.unds,h1,h2]
theorem EX{e:E4}{L:List Rw}{S:Sto}:eS (.tup (L.map (fF e))) S=Z (.int L.length,S):=by simp[eS,d6]
theorem CQ{c:FT}{b:FS}{Q:Fl×Ev×Sto->Prop}(I:Nat->Ev->Sto->Prop)(N:Nat)(step:∀k r S,I k r S->W (c r S) fun p=>if p.1=true then k<N/\W (b r p.2) fun q=>q.1 = .nx/\I (k+1) q.2.1 q.2.2 else Q (.nx,r,p.2)):
  ∀(a k:Nat) (r:Ev) (S:Sto),N-k<a->I k r S->W (qM c b a r S) Q
 |0,k,r,S,hf,_=>by lia
 |a+1,k,r,S,hf,hi=>by
  rw[qM];dsimp only;rw[d5];obtain⟨⟨t,n⟩,e,h⟩:=step k r S hi;refine⟨_,e,?_⟩;dsimp only at h ⊢;cases t with
  |true=>
   rw[ak O]at h ⊢;obtain⟨m,⟨f,j,i⟩,l,d,g⟩:=h;dsimp only at d g;subst d;rw[l,oS1];exact CQ I N step a (k+1) j i (by lia) g
  |false=>
   rw[aj (by decide)]at h ⊢;exact eB.mpr h
theorem Cs{e:E4}{L:List Rw}{q:Nat}{S:Sto}{Q:D×Sto->Prop}(d:Dj e L)(ok:∀ p∈L,nI p)(v:L.length<=4000)(h:∀a:Nat,a<=L.length->(∀i p,L[i]?=Z p->i<a->p.1.m<q)->(∀i p,L[i]?=Z p->a<=i->q<=p.1.m)->Q (.int a,S)):W (dX 2 gL [.tup (L.map (fF e)),.int (q:Nat)] S) Q:=by
 refine lP O (by rw[D.unds,jX ok,D.unds,D.und];rfl) ?_;unfold gL;refine nq ?_;unfold nD;generalize s:D.tup (L.map (fF e))=R;refine eF (λr S=>S=[]/\r=[Z R,Z (.int (q:Nat)),Z (.int ((0:Nat):Int)),Y,Y]) ?_ ?_
 ·walk_at"w";rfl
 rintro r l ⟨rfl,rfl⟩;refine eF (λr S=>S=[]/\r=[Z R,Z (.int (q:Nat)),Z (.int ((0:Nat):Int)),Z (.int (L.length:Nat)),Y]) ?_ ?_
 ·subst s
  ((try walk_at"w");repeat(simp only[EX];try walk_at"w"))
  rw[lM1]
 rintro r l ⟨rfl,rfl⟩;refine eF (λr S=>∃(a:Nat) (c:Option D),S=[]/\a<=L.length/\(∀i p,L[i]?=Z p->i<a->p.1.m<q)/\(∀i p,L[i]?=Z p->a<=i->q<=p.1.m)/\r=[Z R,Z (.int (q:Nat)),Z (.int (a:Nat)),Z (.int (a:Nat)),c]) ?_ ?_
 ·refine CQ (λk r S=>∃(a high:Nat) (c:Option D),S=[]/\a<=high/\high<=L.length/\high-a+k<=L.length/\(∀i p,L[i]?=Z p->i<a->p.1.m<q)/\(∀i p,L[i]?=Z p->high<=i->q<=p.1.m)/\r=[Z R,Z (.int (q:Nat)),Z (.int (a:Nat)),Z (.int (high:Nat)),c]) L.length ?_ 100000 0 _ _ (by lia) ⟨0,L.length,_,O,by lia,by lia,by lia,λi p _ z=>by lia,λi p g z=>?_,O⟩
  ·rintro k r S ⟨a,high,c,rfl,h1,h2,n,m,o,rfl⟩;unfold j9;walk_at"w";by_cases z:a<high
   ·rw[ak (by rw[al];lia)];refine⟨by lia,?_⟩;unfold j8;have f:(a+high)/2<L.length:=by lia
    obtain⟨p,g⟩:∃p,L[(a+high)/2]?=some p:=⟨_,gG1 f⟩;have j:nU (.int ((a:Int)+(high:Int))) (.int 2) []=Z (.int (((a+high)/2:Nat):Int),[]):=by
     simp only[nU];rw[ak ⟨by lia,by lia⟩]
     push_cast
     rfl
    subst s
    ((try walk_at"w");repeat(simp only[j,IM g,IN,Js];try walk_at"w"))
    by_cases t:p.1.m<q
    ·rw[ak (by rw[al];lia)];refine⟨(a+high)/2+1,high,_,by lia,h2,by lia,λi u b hi=>?_,o,by push_cast;rfl⟩;exact bJ (d.le ok b g (by lia)).1 t
    ·rw[aj (by rw[al];lia)];refine⟨a,(a+high)/2,_,by lia,by lia,by lia,m,λi u b hi=>?_,O⟩;exact aC (by lia) (d.le ok g b hi).1
   ·rw[aj (by rw[al];lia)];have:a=high:=by lia
    subst this;exact⟨a,_,h2,m,o,O⟩
  ·have:=(gE1.mp g).1;lia
 rintro r l ⟨a,c,rfl,h1,h2,n,rfl⟩;walk_at"w";exact⟨O,h a h1 h2 n⟩
theorem ya{c:FT}{b:FS}{Q:Fl×Ev×Sto->Prop}(I:Nat->Ev->Sto->Prop)(N:Nat)(step:∀k r S,I k r S->W (c r S) fun p=>if p.1=true then k<N/\W (b r p.2) fun q=>(q.1 = .nx/\I (k+1) q.2.1 q.2.2) \/ ∃d,q.1 = .rt d/\Q q else Q (.nx,r,p.2)):
  ∀(a k:Nat) (r:Ev) (S:Sto),N-k<a->I k r S->W (qM c b a r S) Q
 |0,k,r,S,hf,_=>by lia
 |a+1,k,r,S,hf,hi=>by
  rw[qM];dsimp only;rw[d5];obtain⟨⟨t,u⟩,e,h⟩:=step k r S hi;refine⟨_,e,?_⟩;dsimp only at h ⊢;cases t with
  |true=>
   rw[ak O]at h ⊢;obtain⟨s,⟨f,m,l⟩,o,j⟩:=h;rw[o,oS1];rcases j with⟨g,i⟩|⟨d,g,n⟩
   ·dsimp only at g i;subst g;exact ya I N step a (k+1) m l (by lia) i
   ·dsimp only at g;subst g;exact eB.mpr n
  |false=>
   rw[aj (by decide)]at h ⊢;exact eB.mpr h
theorem Hf{k l:Ky}{e:E4}{S:Sto}(hk:k.Ok)(a:l.Ok):oR (k.sg e) (l.sg e) S=Z (.bl (decide (i7 e.bs k.xs=i7 e.bs l.xs)),S):=by
 show(gr S (58+1+1) (k.sg e) (l.sg e)).map _=_;rw[Ky.sg_zip,Ky.sg_zip,Hg,qv O O hk.all a.all];rfl
theorem Dj.nd{e:E4}:∀{L:List Rw},Dj e L->(L.map λp=>p.1.code e).Nodup:=λh=>
 dj.mpr (List.Pairwise.imp (λz=>nN1 z) h)
noncomputable def uG(k:Ky):D:=.tup [.int k.m,.str "leave",.non]
noncomputable def kE(e:E4)(L:List Rw)(k:Ky):D:=((L.find? λp=>decide (p.1.code e=k.code e)).map (·.2)).getD (uG k)
theorem Ax{e:E4}{L:List Rw}{k:Ky}{E:D}{S:Sto}{Q:D×Sto->Prop}(l:Dj e L)(ok:∀ p∈L,nI p)(au:L.length<=4000)(hk:k.Ok)(am:E.und 0=M)(q:Q (kE e L k,S)):W (dX 3 f0 [.tup [E,.tup (L.map (fF e))],.int k.m,k.sg e] S) Q:=by
 refine lP O (by
  have C:=jX (e:=e) ok 0;have r2:=k.sgu e 0;rw[D.und]at C;simp[D.unds,D.und,am,C,r2]) ?_
 unfold f0;refine nq ?_;unfold px;generalize K:D.tup [E,.tup (L.map (fF e))]=ao;refine eF (λr S=>S=[]/\r=[Z ao,Z (.int k.m),Z (k.sg e),Z (.tup (L.map (fF e))),Y]) ?_ ?_
 ·subst K;have F:dW (.tup [E,.tup (L.map (fF e))]) (.int 1) []=Z (.tup (L.map (fF e)),[]):=rfl
  ((try walk_at"w");repeat(simp only[F];try walk_at"w"))
 rintro r N ⟨rfl,rfl⟩;refine eF (λr S=>∃a:Nat,S=[]/\a<=L.length/\(∀i p,L[i]?=Z p->i<a->p.1.m<k.m)/\(∀i p,L[i]?=Z p->a<=i->k.m<=p.1.m)/\r=[Z ao,Z (.int k.m),Z (k.sg e),Z (.tup (L.map (fF e))),Z (.int (a:Nat))]) ?_ ?_
 ·walk_at"w";refine Cs l ok au λa h1 h2 y=>?_;exact⟨a,O,h1,h2,y,O⟩
 rintro r N ⟨a,rfl,h1,h2,y,rfl⟩;have hnd:=l.nd;have g:(∀(i:Nat) (p:Rw),L[i]?=Z p->p.1.code e≠k.code e)->kE e L k=uG k:=λh=>by
  unfold kE;rw[List.find?_eq_none.mpr λp c=>?_]
  ·rfl
  ·obtain⟨i,hi⟩:=br c;rw[al];exact h i p hi
 have o:∀p,p∈L->p.1.m≠k.m->p.1.code e≠k.code e:=λp c u z=>by
  have:=(Hi (A:=p.1.m) (B:=k.m) (gn (ok p c).1 e) (gn hk e)).1.mp z;exact u this.1
 unfold d9;refine d5.mpr ?_;refine ya (λj r S=>S=[]/\a+j<=L.length/\(∀i p,L[i]?=Z p->i<a+j->p.1.code e≠k.code e)/\r=[Z ao,Z (.int k.m),Z (k.sg e),Z (.tup (L.map (fF e))),Z (.int ((a+j:Nat):Int))]) L.length ?_ 100000 0 _ _ (by lia) ⟨O,by lia,λi p c hi=>o p (gM1 c) (by have:=h2 i p c (by lia);lia),O⟩;rintro j r S ⟨rfl,P,s,rfl⟩;unfold lD;by_cases w:a+j<L.length
 ·obtain⟨p,c⟩:∃p,L[a+j]?=some p:=⟨_,gG1 w⟩;have m:=gM1 c
  ((try walk_at"w");repeat(simp only[EX,IM c,IN,Js,lM1];try walk_at"w"))
  rw[ak (by rw[al];lia)];by_cases G:p.1.m=k.m
  ·rw[ak (by rw[beq_iff_eq];lia)];refine⟨by lia,?_⟩;unfold lC
   ((try walk_at"w");repeat(simp only[IM c,IN,Kb,Kc,Hf (ok p m).1 hk];try walk_at"w"))
   have d:p.1.code e=k.code e↔i7 e.bs p.1.xs=i7 e.bs k.xs:=by unfold Ky.code;rw[G];lia
   by_cases hc:i7 e.bs p.1.xs=i7 e.bs k.xs
   ·rw[ak (ah hc)];right;have H:(L.find? λp=>decide (p.1.code e=k.code e))=Z p:=(ik (f:=λp:Rw=>p.1.code e) hnd).mpr ⟨m,d.mpr hc⟩;have I:kE e L k=p.2:=by unfold kE;rw[H];rfl
    rw[I]at q;exact⟨_,O,(ok p m).2.und,q⟩
   ·rw[aj (by rw[al];exact hc)];refine W.of (x:=(.nx,[Z ao,Z (.int k.m),Z (k.sg e),Z (.tup (L.map (fF e))),Z (.int (((a+j:Nat):Int)+1))],[])) O ?_;left;refine⟨O,O,by lia,λi n b hi=>?_,by push_cast;rfl⟩;by_cases t:i=a+j
    ·subst t;rw[c]at b;cases b;exact λz=>hc (d.mp z)
    ·exact s i n b (by lia)
  ·rw [if_neg (by rw [beq_iff_eq];lia)];have v:kE e L k=uG k:=g fun i n b=>by
    by_cases hi:i<a+j
    ·exact s i n b hi
    ·have b1:=y (a+j) p c (by lia);have b2:=(l.le ok c b (by lia)).1;exact o n (gM1 b) (by lia)
   rw[v]at q;exact⟨O,q⟩
 ·((try walk_at"w");repeat(simp only[EX,lM1];try walk_at"w"))
  rw[aj (by rw[al];lia)];have v:kE e L k=uG k:=g λi n b=>by
   have:=(gE1.mp b).1;exact s i n b (by lia)
  rw[v]at q;exact⟨O,q⟩
noncomputable def dm:D->Nat
 | .tup [.int m,_,_]=>m.toNat
 |_=>0
noncomputable def dh:D->Str
 | .tup [_,.str h,_]=>h
 |_=>""
noncomputable def dt:D->Option Nat
 | .tup [_,_,.int t]=>Z t.toNat
 |_=>Y
noncomputable def tD:Option Nat->D
 |none=>.non
 |some t=>.int (t:Nat)
theorem ge.eta{x:D}(h:ge x):x = .tup [.int (dm x:Nat),.str (dh x),tD (dt x)]/\dm x<4000:=by
 obtain⟨m,y,t,rfl,a,h1,h2⟩:=h.is;simp only[nh,aF,bN,or_false]at h1;simp only[lm,aF,bN,or_false]at h2;rcases h1 with e|e|e<;>subst e<;>rcases h2 with e|e|e|e|e<;>subst e<;>exact⟨O,a⟩
noncomputable def eL(w:ew)(u:Wk)(x:D):Wk:=match dt x with
 |some t=>match (w[u.1]?).bind (·[t]?)with
  |some p=>(p.1,p.2+1,dm x)
  |none=>(u.1,u.2.1,dm x)
 |none=>(u.1,u.2.1,dm x)
theorem zP{t:Nat}{S:Sto}:Cn (.int (t:Nat)) .non S=Z (.bl J,S):=rfl
theorem Fc{S:Sto}:Cn .non .non S=Z (.bl M,S):=rfl
theorem wC{w:ew}{u:Wk}{row:List (Nat×Nat)}{x:D}{S:Sto}{Q:D×Sto->Prop}(hr:w[u.1]?=Z row)(hx:ge x)(q:Q (ff (eL w u x),S)):W (dX 3 ii [webD w,ff u,x] S) Q:=by
 refine lP O (by simp[D.unds,fL,hx.und];rfl) ?_;unfold ii;refine nq ?_;unfold pp;have ex:=hx.eta.1;unfold eL at q;simp only[hr,oS1]at q;generalize n:dm x=m at *
 generalize l:dh x=h at *
 generalize o:dt x=t at *
 refine eF (λr V=>V=[]/\r=[Z (webD w),Z (ff u),Z x,Z (.int u.1),Z (.int u.2.1),Z (.int u.2.2),Y,Y,Y,Y,Y]) ?_ ?_
 ·generalize g:ff u=U;have d:U = .tup [.int u.1,.int u.2.1,.int u.2.2]:=g.symm;subst d;walk_at"w"
 rintro r V ⟨rfl,rfl⟩;refine eF (λr V=>V=[]/\r=[Z (webD w),Z (ff u),Z x,Z (.int u.1),Z (.int u.2.1),Z (.int u.2.2),Z (.int (m:Nat)),Z (.str h),Z (tD t),Y,Y]) ?_ ?_
 ·subst ex;walk_at"w"
 rintro r V ⟨rfl,rfl⟩;cases t with
 |none=>
  have b:tD Y = .non:=rfl;rw[b]
  ((try walk_at"w");repeat(simp only[Fc];try walk_at"w"))
  exact⟨O,q⟩
 |some t=>
  have b:tD (Z t) = .int (t:Nat):=rfl;rw[b];have c:∀a,dW (webD w) (.int (u.1:Nat)) a=Z (.tup (row.map pD),a):=λa=>by
   obtain⟨p,e,h⟩:W (dW (webD w) (.int (u.1:Nat)) a) λp=>p=(.tup (row.map pD),a):=wm hr O;rw[e,h]
  dsimp only at q;by_cases j:t<row.length
  ·have f:=gG1 j;rw[f]at q;refine eF (λr V=>V=[]/\r=[Z (webD w),Z (ff u),Z x,Z (.int u.1),Z (.int u.2.1),Z (.int u.2.2),Z (.int (m:Nat)),Z (.str h),Z (.int (t:Nat)),Y,Y]) ?_ ?_
   ·((try walk_at"w");repeat(simp only[zP,c,gC,lM1];try walk_at"w"))
    rw[aj (by rw[al];lia)];trivial
   rintro r V ⟨rfl,rfl⟩;have i:∀a,dW (.tup (row.map pD)) (.int (t:Nat)) a=Z (pD row[t],a):=λa=>by
    obtain⟨p,e,h⟩:W (dW (.tup (row.map pD)) (.int (t:Nat)) a) λp=>p=(pD row[t],a):=gy (by rw[gP1,f];rfl) O;rw[e,h]
   generalize row[t]=p at *
   refine eF (λr V=>V=[]/\r=[Z (webD w),Z (ff u),Z x,Z (.int u.1),Z (.int u.2.1),Z (.int u.2.2),Z (.int (m:Nat)),Z (.str h),Z (.int (t:Nat)),Z (.int p.1),Z (.int p.2)]) ?_ ?_
   ·((try walk_at"w");repeat(simp only[c,i,pD];try walk_at"w"))
   rintro r V ⟨rfl,rfl⟩;walk_at"w";have k:(1:Int)+(p.2:Int)=((p.2+1:Nat):Int):=by lia
   rw[k];exact⟨O,q⟩
  ·rw[b6 (by lia)]at q
   ((try walk_at"w");repeat(simp only[zP,c,gC,lM1];try walk_at"w"))
   rw[ak (by rw[al];lia)];exact⟨O,q⟩
theorem wM{S:Sto}{x n:Nat}{cs:List Nat}(h:S[n]?=Z (.lst (eP cs))):fG (.int x) (.ref n) S=Z (.bl (!cs.contains x),S):=by
 simp only[fG,iC,k9,h,d6,oS1,eO,show(60:Nat)=59+1 from rfl,ux,oP1]
theorem vH{x:D}(h:ge x)(S:Sto):dW x (.int 1) S=Z (.str (dh x),S):=by
 have e:=h.eta.1;generalize dm x=a at e;generalize dt x=c at e;generalize dh x=b at *
 subst e;rfl
theorem vG{u:Wk}{S:Sto}:dW (ff u) (.int 0) S=Z (.int u.1,S):=rfl
theorem qj{u:Wk}{S:Sto}:dW (ff u) (.int 2) S=Z (.int u.2.2,S):=rfl
noncomputable def gP(ws:List Wk)(dd:Wk->D)(h:Str)(r:Nat):Bool:=ws.any λu=>u.1 == r&&dh (dd u) == h
noncomputable def ej(m:Nat)(ws:List Wk)(dd:Wk->D)(cs:List Nat):List Nat:=(af m).filter λr=>gP ws dd "mark" r||(cs.contains r && !gP ws dd "wipe" r)
theorem Et(a b:List Nat):eP a++eP b=eP (a++b):=by simp[eP]
noncomputable def nK(ws:List Wk)(dd:Wk->D)(h:Str):List Nat:=(ws.filter λu=>dh (dd u) == h).map (·.1)
theorem wh{ws:List Wk}{dd:Wk->D}{h:Str}{r:Nat}:r∈nK ws dd h↔gP ws dd h r=M:=by
 unfold nK gP;rw[ci,bT];constructor
 ·rintro⟨u,a,rfl⟩;obtain⟨h1,h2⟩:=aA.mp a;exact⟨u,h1,by simp[h2]⟩
 ·rintro⟨u,a,e⟩;rw[bA1,beq_iff_eq]at e;exact⟨u,aA.mpr ⟨a,e.2⟩,e.1⟩
theorem zY{h:Str}{ws:List Wk}{dd:Wk->D}{n:Nat}{S:Sto}{Q:D×Sto->Prop}{m:FA}{r:Ev}(hd:∀ u∈ws,ge (dd u))(d:ws.length<=8)(a:S[n]? = Z (.lst (ws.map dd)))(hm:m r S=Z ([.tup (eA ws),.ref n],S))(hr:nR 2 [] r=[Y,Y])(q:Q (.ref S.length,S++[.lst (eP (nK ws dd h))])):W (e0 2 [] (AT m) (gT 2 (gCs (gN 0) (gCs (gN 1) gNl))) (mB (m2 (b2 oR) (m2 (b2 dW) (mV 1) (mC (D.int (1)))) (mC (D.str h)))) (eI (m2 (b2 dW) (mV 0) (mC (D.int (0))))) r S) Q:=by
 rw[kQ];refine qC hm a ?_;dsimp only;rw[hr,eA,mo];refine hA (λu:Wk=>dh (dd u) == h) (λu:Wk=>D.int u.1) (λr=>∃x y,r=[x,y]) (gY a) ws _ ⟨_,_,O⟩ ?_ λc _=>?_
 ·rintro u b r ⟨x,y,rfl⟩
  ((try walk_at"w");repeat(simp only[vH (hd u b)];try walk_at"w"))
  refine⟨⟨_,_,O⟩,λ_=>?_⟩
  ((try walk_at"w");repeat(simp only[vG];try walk_at"w"))
 ·have e:(ws.filter λu:Wk=>dh (dd u) == h).map (λu:Wk=>D.int (u.1:Nat))=eP (nK ws dd h):=by unfold eP nK;rw[bv];rfl
  rw[e];have f:=dq (λu:Wk=>dh (dd u) == h) ws;refine⟨ea ?_,q⟩;dsimp only;rw[jC];unfold nK;rw[lM1];lia
theorem xb{m:Nat}{ws:List Wk}{cs:List Nat}{dd:Wk->D}{n:Nat}{S:Sto}{Q:D×Sto->Prop}(hd:∀ u∈ws,ge (dd u))(p:ws.length<=8)(hc:cs.length<=8)(hw:∀ u∈ws,u.1<m)(j:∀ r∈cs,r<m)(k:S[n]? = Z (.lst (ws.map dd)))(l:S.all (Ob.und S.length)=M)(q:Q (.tup (eP (ej m ws dd cs)),S)):W (dX 2 ij [dZ ws cs,.ref n] S) Q:=by
 refine lO O (by simp[D.unds,D.und]) ?_;unfold ij;refine nq ?_;unfold pu;have G:=(gE1.mp k).1;refine eF (λr V=>V=S/\r=[Z (dZ ws cs),Z (.ref n),Z (.tup (eA ws)),Z (.tup (eP cs)),Y,Y,Y]) ?_ ?_
 ·generalize A:dZ ws cs=ao;have o:ao = .tup [.tup (eA ws),.tup (eP cs)]:=A.symm;subst o;walk_at"w"
 rintro r V ⟨y,rfl⟩;subst y;refine eF (λr g=>g=V++[.lst (eP (nK ws dd "mark"))]/\r=[Z (dZ ws cs),Z (.ref n),Z (.tup (eA ws)),Z (.tup (eP cs)),Z (.ref V.length),Y,Y]) ?_ ?_
 ·unfold eh;refine d5.mpr (zY hd p k O O ?_);walk_at"w"
 rintro r a ⟨b,rfl⟩;have C:a[n]?=Z (.lst (ws.map dd)):=by rw[b,gL1 G];exact k
 have v:a[V.length]?=Z (.lst (eP (nK ws dd "mark"))):=by rw[b,ee];rfl
 refine eF (λr g=>g=a++[.lst (eP (nK ws dd "wipe"))]/\r=[Z (dZ ws cs),Z (.ref n),Z (.tup (eA ws)),Z (.tup (eP cs)),Z (.ref V.length),Z (.ref a.length),Y]) ?_ ?_
 ·unfold eh;refine d5.mpr (zY hd p C O O ?_);walk_at"w"
 rintro r i ⟨d,rfl⟩;have s:i[V.length]?=Z (.lst (eP (nK ws dd "mark"))):=by rw[d,gL1 (gE1.mp v).1];exact v
 have E:i[a.length]?=Z (.lst (eP (nK ws dd "wipe"))):=by rw[d,ee];rfl
 refine eF (λr g=>g=i++[.lst (eP (cs.filter λr=> !(nK ws dd "wipe").contains r))]/\r=[Z (dZ ws cs),Z (.ref n),Z (.tup (eA ws)),Z (.tup (eP cs)),Z (.ref V.length),Z (.ref a.length),Z (.ref i.length)]) ?_ ?_
 ·walk_at"w";rw[iP];refine hA (f:=λr:Nat=>D.int r) (λr:Nat=> !(nK ws dd "wipe").contains r) (λr:Nat=>D.int r) (λr=>∃x,r=[x,Z (.ref a.length)]) O cs _ ⟨_,O⟩ ?_ λI _=>?_
  ·rintro u w r ⟨x,rfl⟩
   ((try walk_at"w");repeat(simp only[wM E];try walk_at"w"))
   exact⟨⟨_,O⟩,λ_=>trivial⟩
  ·walk_at"w";have F:=dq (λr:Nat=> !(nK ws dd "wipe").contains r) cs;exact⟨ea (by rw[lM1];lia),O,trivial⟩
 rintro r t ⟨c,rfl⟩;have z:t[V.length]?=Z (.lst (eP (nK ws dd "mark"))):=by rw[c,gL1 (gE1.mp s).1];exact s
 have H:t[i.length]?=Z (.lst (eP (cs.filter λr=> !(nK ws dd "wipe").contains r))):=by rw[c,ee];rfl
 have F:=dq (λr:Nat=> !(nK ws dd "wipe").contains r) cs;have am:(nK ws dd "mark").length<=ws.length:=by unfold nK;rw[lM1];exact dq _ _
 walk_at"w";refine(AL H z).mpr ⟨ea (by rw[jC,jC];lia),?_⟩;rw[Et];refine xF (xs:=cs.filter (λr=> !(nK ws dd "wipe").contains r)++nK ws dd "mark") (m:=m) (f:=λr=>gP ws dd "mark" r||(cs.contains r && !gP ws dd "wipe" r)) (by rw[ee];rfl) (λr=>?_) (by rw[lA1];lia) ?_
 ·have B:(nK ws dd "wipe").contains r=gP ws dd "wipe" r:=by
   rw[bS,cR,wh]
  rw[aG,aA,wh,B];constructor
  ·rintro(⟨h1,h2⟩|h1)
   ·exact⟨j r h1,by rw[cR.mpr h1,h2];simp⟩
   ·refine⟨?_,by rw[h1];rfl⟩;unfold gP at h1;obtain⟨u,w,e⟩:=bT.mp h1;rw[bA1,beq_iff_eq]at e;rw[<- e.1];exact hw u w
  ·rintro⟨_,h⟩;rw[bQ,bA1]at h;rcases h with h|⟨h1,h2⟩
   ·exact .inr h
   ·exact .inl ⟨cR.mp h1,h2⟩
 ·walk_at"w";refine eG (xs:=eP (ej m ws dd cs)) (by rw[g0];rfl) ?_;rw[qq (by rw[D.und];exact qc _) l (by rw[c,d,b];simp only[bI];exact bw _ _)];exact q
theorem BO{m:Nat}{w:ew}{ws:List Wk}{cs:List Nat}{dd:Wk->D}{n:Nat}{S:Sto}{Q:D×Sto->Prop}(h:w.length=m)(hd:∀ u∈ws,ge (dd u))(C:ws.length<=8)(hc:cs.length<=8)(hw:∀ u∈ws,u.1<m)(g:∀ r∈cs,r<m)(f:S[n]? = Z (.lst (ws.map dd)))(b:S.all (Ob.und S.length)=M)(q:Q (dZ (ws.map λu=>eL w u (dd u)) (ej m ws dd cs),S)):W (dX 3 kh [webD w,dZ ws cs,.ref n] S) Q:=by
 refine lO O (by simp[D.unds,D.und]) ?_;unfold kh;refine nq ?_;unfold we;have z:=(gE1.mp f).1;refine eF (λr V=>V=S/\r=[Z (webD w),Z (dZ ws cs),Z (.ref n),Z (.tup (eA ws)),Z (.tup (eP cs)),Y]) ?_ ?_
 ·generalize t:dZ ws cs=ao;have i:ao = .tup [.tup (eA ws),.tup (eP cs)]:=t.symm;subst i;walk_at"w"
 rintro r V ⟨p,rfl⟩;subst p;refine eF (λr s=>s=V++[.lst (eA (ws.map λu=>eL w u (dd u)))]/\r=[Z (webD w),Z (dZ ws cs),Z (.ref n),Z (.tup (eA ws)),Z (.tup (eP cs)),Z (.ref V.length)]) ?_ ?_
 ·unfold eh;refine d5.mpr ?_;rw[kQ];refine qC (xs:=eA ws) (ys:=ws.map dd) (n:=n) O f ?_;dsimp only;rw[eA,mo];refine r6 (λu:Wk=>ff (eL w u (dd u))) (λr=>∃x y,r=[x,y,Z (webD w)]) (gY f) ws _ ⟨_,_,O⟩ ?_ λE _=>?_
  ·rintro u j r ⟨x,y,rfl⟩;obtain⟨row,c⟩:∃row,w[u.1]?=some row:=⟨_,gG1 (by rw[h];exact hw u j)⟩;walk_at"w";refine wC c (hd u j) ?_;exact⟨O,O,_,_,O⟩
  ·have e:ws.map (λu:Wk=>ff (eL w u (dd u)))=eA (ws.map λu=>eL w u (dd u)):=by unfold eA;rw[bv];rfl
   rw[e];refine⟨ea (by dsimp only;rw[jf,lM1];lia),?_⟩;walk_at"w"
 rintro r d ⟨a,rfl⟩;have v:d[n]?=Z (.lst (ws.map dd)):=by rw[a,gL1 z];exact f
 have A:d[V.length]?=Z (.lst (eA (ws.map λu=>eL w u (dd u)))):=by rw[a,ee];rfl
 have B:d.all (Ob.und d.length)=M:=by
  rw[a,dz,bA1,lA1];rw[bD]at b;refine⟨bD.mpr λo k=>gJ (bt _ _) (b o k),?_⟩;rw[bR,Ob.und,hL (jN _)];rfl
 walk_at"w";refine eG A ?_;refine xb hd C hc hw g v B ?_;walk_at"w";have l:D.tup [.tup (eA (ws.map λu=>eL w u (dd u))),.tup (eP (ej m ws dd cs))]=dZ (ws.map λu=>eL w u (dd u)) (ej m ws dd cs):=rfl;rw[l,qq fR b (by rw[a];exact bw _ _)];exact q
noncomputable def eyD(e:E4):D:=.tup (fv e.1 e.2.1 e.2.2.1 e.2.2.2)
theorem kB(e:E4):(eyD e).und 0=M:=by unfold eyD;rw[D.und];exact kA _ _ _ _
noncomputable def mcD(e:E4)(L:List Rw):D:=.tup [eyD e,.tup (L.map (fF e))]
theorem mh{e:E4}{L:List Rw}(ok:∀p∈L,nI p):(mcD e L).und 0=M:=by
 have h1:=kB e;have h2:=jX (e:=e) ok 0;unfold mcD;rw[D.und,D.unds,D.unds,h1,h2];rfl
theorem Aq{e:E4}{L:List Rw}{k:Ky}(ok:∀p∈L,nI p)(hk:k.Ok):ge (kE e L k):=by
 unfold kE;cases h:L.find? λp=>decide (p.1.code e=k.code e)with
 |none=>exact⟨k.m,_,_,O,hk.m,by simp[nh],by simp[lm]⟩
 |some p=>exact(ok p (List.mem_of_find?_eq_some h)).2
noncomputable def ky(w:ew)(ws:List Wk)(cs:List Nat)(u:Wk):Ky:=⟨u.2.2,u.2.1,if cs.contains u.1 then 1 else 0,((w[u.1]?).getD []).length,if 1<crowd ws u.1 then 1 else 0⟩
theorem pR{w:ew}{ws:List Wk}{cs:List Nat}{u:Wk}{row:List (Nat×Nat)}{e:E4}(h:w[u.1]?=Z row):u7 e.1 e.2.1 e.2.2.1 e.2.2.2 ws cs u row=(ky w ws cs u).sg e:=by
 have c:∀b:Bool,((if b=M then 1 else 0:Nat):Int)=if b=M then(1:Int)else 0:=λb=>by cases b<;>rfl
 have a:((if 1<crowd ws u.1 then 1 else 0:Nat):Int)=if 1<crowd ws u.1 then(1:Int)else 0:=by split<;>rfl
 unfold u7 ua Ky.sg Ji ky pt;rw[h];dsimp only;rw[c,a];rfl
structure jc (m:Nat)(w:ew)(ws:List Wk)(cs:List Nat):Prop where
 web:nH m w
 m8:m<=8
 few:ws.length<=8
 cl:cs.length<=8
 wk:∀u∈ws,∃row,w[u.1]?=some row/\u.2.1<=row.length/\u.2.2<4000
 ch:∀r∈cs,r<m
theorem jc.lt{m:Nat}{w:ew}{ws:List Wk}{cs:List Nat}(h:jc m w ws cs):∀u∈ws,u.1<m:=λu b=>by
 obtain⟨a,e,_⟩:=h.wk u b;have:=(gE1.mp e).1;rw[h.web.len]at this;exact this
theorem jc.ky{m:Nat}{w:ew}{ws:List Wk}{cs:List Nat}(h:jc m w ws cs):∀u∈ws,(ky w ws cs u).Ok:=λu b=>by
 obtain⟨a,e,h1,h2⟩:=h.wk u b;have c:=h.web.le a (gM1 e);refine⟨h2,?_,?_,?_,?_⟩
 ·show u.2.1<=4;lia
 ·show(if cs.contains u.1 then 1 else 0)<=4;split<;>lia
 ·show((w[u.1]?).getD []).length<=4;rw[e];exact c
 ·show(if 1<crowd ws u.1 then 1 else 0)<=4;split<;>lia
theorem A5{m:Nat}{w:ew}{ws:List Wk}{cs:List Nat}{e:E4}{S:Sto}{Q:D×Sto->Prop}(h:jc m w ws cs)(q:Q (.ref S.length,S++[.lst (ws.map λu=>(ky w ws cs u).d e)])):W (dX 3 kg [webD w,eyD e,dZ ws cs] S) Q:=by
 refine Hn O (by simp[D.unds,fL,fR,kB]) ?_;unfold kg;refine nq ?_;unfold wd fu;rw[d5,kQ];refine Hy (xs:=eA ws) O ?_;dsimp only;have i:=h.few;rw[eA,Ap];refine r6 (λp:Wk×Nat=>(ky w ws cs p.1).d e) (λr=>∃x y,r=[x,y,Z (webD w),Z (eyD e),Z (dZ ws cs)]) O ws.zipIdx _ ⟨_,_,O⟩ ?_ λg _=>?_
 ·rintro⟨u,k⟩ f r ⟨x,y,rfl⟩;have b:ws[k]?=Z u:=wt f;obtain⟨d,a,_⟩:=h.wk u (gM1 b)
  ((try walk_at"w");repeat(simp only[qj];try walk_at"w"))
  refine Bc b a (by lia) ?_;walk_at"w";rw[pR a];exact⟨O,_,_,O⟩
 ·have c:(ws.zipIdx.map λp:Wk×Nat=>(ky w ws cs p.1).d e)=ws.map λu=>(ky w ws cs u).d e:=tJ (λu=>(ky w ws cs u).d e) ws;rw[c];refine⟨ea (by dsimp only;rw[lM1];lia),?_⟩;walk_at"w";exact⟨_,O,Mi.eK λu _=>Ky.und _ e 0,q⟩
noncomputable def ddW(w:ew)(ws:List Wk)(cs:List Nat)(e:E4)(L:List Rw)(u:Wk):D:=kE e L (ky w ws cs u)
noncomputable def po(m:Nat)(w:ew)(ws:List Wk)(cs:List Nat)(e:E4)(L:List Rw):D:=dZ (ws.map λu=>eL w u (ddW w ws cs e L u)) (ej m ws (ddW w ws cs e L) cs)
theorem Fs{m:Nat}{w:ew}{ws:List Wk}{cs:List Nat}{e:E4}{L:List Rw}{S:Sto}{Q:D×Sto->Prop}(h:jc m w ws cs)(b:Dj e L)(ok:∀p∈L,nI p)(f:L.length<=4000)(q:Q (po m w ws cs e L,S)):W (dX 3 mZ [webD w,mcD e L,dZ ws cs] S) Q:=by
 refine lP O (by simp[D.unds,fL,fR,mh ok]) ?_;unfold mZ
 refine nq ?_;unfold AF
 have j:=h.few;have c:∀u∈ws,ge (ddW w ws cs e L u):=λu a=>Aq ok (h.ky u a);refine eF (λr V=>V=[.lst (ws.map λu=>(ky w ws cs u).d e)]/\r=[Z (webD w),Z (mcD e L),Z (dZ ws cs),Z (.ref 0)]) ?_ ?_
 ·have g:∀S,dW (mcD e L) (.int 0) S=Z (eyD e,S):=λS=>rfl
  ((try walk_at"w");repeat(simp only[g];try walk_at"w"))
  refine A5 h ?_;walk_at"w"
 rintro r V ⟨rfl,rfl⟩;unfold fu;rw[d5];have key:W (e0 2 [1] (iH (mV 3)) (gT 2 (gCs (gN 0) (gCs (gN 1) gNl))) gu (eI (mN (dX 3 f0) (dS (mV 2) (dS (mV 0) (dS (mV 1) dU))))) [Z (webD w),Z (mcD e L),Z (dZ ws cs),Z (.ref 0)] [.lst (ws.map λu=>(ky w ws cs u).d e)]) λp=>p=(.ref 1,[.lst (ws.map λu=>(ky w ws cs u).d e),.lst (ws.map (ddW w ws cs e L))]):=by
  walk_at"w";refine eG (xs:=ws.map λu=>(ky w ws cs u).d e) O ?_;refine r6 (ddW w ws cs e L) (λr=>∃x y,r=[x,y,Z (mcD e L)]) (gY O) ws _ ⟨_,_,O⟩ ?_ λi _=>?_
  ·rintro u a r ⟨x,y,rfl⟩;unfold Ky.d;walk_at"w";refine Ax b ok f (h.ky u a) (kB e) ?_;exact⟨O,O,_,_,O⟩
  ·refine⟨ea (by dsimp only;rw[lM1];lia),?_⟩;walk_at"w"
 obtain⟨p,d,rfl⟩:=key;generalize e0 2 [1] (iH (mV 3)) (gT 2 (gCs (gN 0) (gCs (gN 1) gNl))) gu (eI (mN (dX 3 f0) (dS (mV 2) (dS (mV 0) (dS (mV 1) dU)))))=G at *
 ((try walk_at"w");repeat(simp only[d];try walk_at"w"))
 refine BO h.web.len c h.few h.cl h.lt h.ch (dd:=ddW w ws cs e L) O ?_ ?_
 ·rw[bR,bR,Ob.und,Ob.und,Mi.eK λu _=>Ky.und _ e _,Mi.eK λu a=>fr (c u a).und];rfl
 ·exact⟨fR,q⟩
theorem qo{S:Sto}{n:Nat}{x:Str}:∀a:List Str,AS (gr S (n+1)) (.str x) (a.map D.str)=Z (a.contains x)
 |[]=>rfl
 |c::a=>by
  have d:gr S (n+1) (.str c) (.str x)=Z (c == x):=rfl;have b:(c == x)=(x == c):=by rw[bS,beq_iff_eq,beq_iff_eq];exact eq_comm
  rw[mP1,AS,d,b,qo a,List.contains_cons];rfl
theorem Ce{S:Sto}{x:Str}{n:Nat}{cs:List Str}(h:S[n]?=Z (.lst (cs.map D.str))):i3 (.str x) (.ref n) S=Z (.bl (cs.contains x),S):=by
 simp only[i3,uC,FP,h,d6,oS1,eO,show(60:Nat)=59+1 from rfl,qo,oP1]
theorem ul{S:Sto}{x:Str}{n:Nat}{cs:List Str}(h:S[n]?=Z (.lst (cs.map D.str))):fG (.str x) (.ref n) S=Z (.bl (!cs.contains x),S):=by
 simp only[fG,iC,k9,h,d6,oS1,eO,show(60:Nat)=59+1 from rfl,qo,oP1]
noncomputable def nS(ws:List Wk)(dd:Wk->D)(r:Nat):List Str:=(ws.filter λu=>u.1 == r).map λu=>dh (dd u)
theorem Cg{ws:List Wk}{dd:Wk->D}{r:Nat}{h:Str}:(nS ws dd r).contains h=gP ws dd h r:=by
 unfold nS gP;rw[bS,cR,ci,bT];constructor
 ·rintro⟨u,b,e⟩;obtain⟨h1,h2⟩:=aA.mp b;exact⟨u,h1,by rw[h2,e];simp⟩
 ·rintro⟨u,b,e⟩;rw[bA1,beq_iff_eq (a:=dh (dd u))]at e;exact⟨u,aA.mpr ⟨b,e.1⟩,e.2⟩
theorem pG{ws:List Wk}{cs:List Nat}{S:Sto}:dW (dZ ws cs) (.int 0) S=Z (.tup (eA ws),S):=rfl
theorem Dm{ws:List Wk}{cs:List Nat}{S:Sto}:dW (dZ ws cs) (.int 1) S=Z (.tup (eP cs),S):=rfl
theorem xt{m:Nat}{w:ew}{ws:List Wk}{cs:List Nat}{dd:Wk->D}{n:Nat}{S:Sto}{Q:D×Sto->Prop}(A:w.length=m)(hm:m<=8)(hd:∀ u∈ws,ge (dd u))(X:ws.length<=8)(H:S[n]? = Z (.lst (ws.map dd)))(v:S.all (Ob.und S.length)=M)(q:Q (.tup (eP (ej m ws dd cs)),S)):W (dX 3 fD [webD w,dZ ws cs,.ref n] S) Q:=by
 refine lO O (by simp[D.unds,D.und]) ?_;unfold fD;refine nq ?_;unfold ja;have N:=(gE1.mp H).1;refine eF (λr V=>V=S++[.lst (eP [])]/\r=[Z (webD w),Z (dZ ws cs),Z (.ref n),Z (.ref S.length),Y,Y]) ?_ ?_
 ·walk_at"w";exact⟨O,trivial⟩
 rintro r V ⟨L,rfl⟩;refine eF (λr V=>∃G a c,V=S ++ .lst (eP (ej m ws dd cs))::G/\r=[Z (webD w),Z (dZ ws cs),Z (.ref n),Z (.ref S.length),a,c]) ?_ ?_
 ·((try walk_at"w");repeat(simp only[qi];try walk_at"w"))
  rw[kd,Int.toNat_natCast,A];refine⟨fW (by lia),?_⟩;refine fV (λi r V=>∃G a c,i<=m/\V=S ++ .lst (eP (ej i ws dd cs))::G/\r=[Z (webD w),Z (dZ ws cs),Z (.ref n),Z (.ref S.length),a,c]) _ 0 _ _ ⟨[],_,_,by lia,L,O⟩ (λ_ _ _ _=>rfl) ?_ ?_
  ·rintro i d g r F ⟨G,a,c,hi,rfl,rfl⟩;have t:=(gE1.mp g).1;rw[lM1,dA]at t;rw[bP]at *
   have z:d = .int (i:Nat):=by
    rw[gP1,cN t]at g;exact(Option.some.inj g).symm
   subst z;walk_at"w";unfold ig;have am:(S++Ob.lst (eP (ej i ws dd cs))::G)[n]?=Z (.lst (ws.map dd)):=by rw[gL1 N];exact H
   have K:(S++Ob.lst (eP (ej i ws dd cs))::G)[S.length]?=Z (.lst (eP (ej i ws dd cs))):=by rw[ee];rfl
   refine eF (λr V=>V=S ++ .lst (eP (ej i ws dd cs))::G++[.lst ((nS ws dd i).map D.str)]/\r=[Z (webD w),Z (dZ ws cs),Z (.ref n),Z (.ref S.length),Z (.int (i:Nat)),Z (.ref (S++Ob.lst (eP (ej i ws dd cs))::G).length)]) ?_ ?_
   ·unfold eh;rw[d5,kQ];refine qC (xs:=eA ws) (ys:=ws.map dd) (n:=n) O am ?_;dsimp only;rw[eA,mo];refine hA (λu:Wk=>u.1 == i) (λu:Wk=>D.str (dh (dd u))) (λr=>∃x y,r=[x,y,Z (.int (i:Nat))]) (gY am) ws _ ⟨_,_,O⟩ ?_ λT _=>?_
    ·rintro u R r ⟨x,y,rfl⟩
     ((try walk_at"w");repeat(simp only[vG];try walk_at"w"))
     refine⟨?_,⟨_,_,O⟩,λ_=>?_⟩
     ·rw[bS,beq_iff_eq,beq_iff_eq];lia
     ·((try walk_at"w");repeat(simp only[vH (hd u R)];try walk_at"w"))
    ·have e:(ws.filter λu:Wk=>u.1 == i).map (λu:Wk=>D.str (dh (dd u)))=(nS ws dd i).map D.str:=by unfold nS;rw[bv];rfl
     rw[e];have p:=dq (λu:Wk=>u.1 == i) ws;refine⟨ea (by dsimp only;unfold nS;rw[lM1,lM1];lia),?_⟩;walk_at"w"
   rintro r j ⟨k,rfl⟩;have B:j[(S++Ob.lst (eP (ej i ws dd cs))::G).length]?=Z (.lst ((nS ws dd i).map D.str)):=by rw[k,ee];rfl
   have E:j[S.length]?=Z (.lst (eP (ej i ws dd cs))):=by rw[k,gL1 (gE1.mp K).1];exact K
   have f:j=S++Ob.lst (eP (ej i ws dd cs))::(G++[Ob.lst ((nS ws dd i).map D.str)]):=by rw[k];simp
   have s:j.set S.length (.lst (eP (ej i ws dd cs)++[.int (i:Nat)]))=S++Ob.lst (eP (ej i ws dd cs++[i]))::(G++[Ob.lst ((nS ws dd i).map D.str)]):=by
    rw[f,c6 _ _ (nR1 _),cQ,c7];simp[eP]
   have C:∀b:Bool,(gP ws dd "mark" i||(cs.contains i && !gP ws dd "wipe" i))=b->ej (i+1) ws dd cs=if b=M then ej i ws dd cs++[i]else ej i ws dd cs:=λb P=>by
    unfold ej;rw[List.range_succ,List.filter_append,di,P];cases b<;>simp
   have ao:(ej i ws dd cs).length<=8:=by
    have:=dq (λr=>gP ws dd "mark" r||(cs.contains r && !gP ws dd "wipe" r)) (af i);rw[dA]at this;exact aC this (by lia)
   generalize U:(S++Ob.lst (eP (ej i ws dd cs))::G).length=p at *
   have app:∀ Q':D×Sto->Prop,Q' (.non,S++Ob.lst (eP (ej i ws dd cs++[i]))::(G++[Ob.lst ((nS ws dd i).map D.str)])) ->
     W (oG (b2 jr) (mV 3) (dS (mV 4) dU) [Z (webD w),Z (dZ ws cs),Z (.ref n),Z (.ref S.length),Z (.int (i:Nat)),Z (.ref p)] j) Q':=λQ' au=>by
    refine iG ?_;walk_at"w";refine⟨S.length,_,O,E,?_⟩;refine(lT E).mpr ⟨ea (by rw[jC];lia),?_⟩;rw[s];exact au
   unfold hI;rw[d5]
   ((try walk_at"w");repeat(simp only[Ce B,ul B,Dm,zQ,Cg];try walk_at"w"))
   have o:(gP ws dd "mark" i||(cs.contains i && !gP ws dd "wipe" i))=M->W (oG (b2 jr) (mV 3) (dS (mV 4) dU) [Z (webD w),Z (dZ ws cs),Z (.ref n),Z (.ref S.length),Z (.int (i:Nat)),Z (.ref p)] j) λx=>∃G a c,i+1<=m/\x.2=S++Ob.lst (eP (ej (i+1) ws dd cs))::G/\[Z (webD w),Z (dZ ws cs),Z (D.ref n),Z (.ref S.length),Z (.int (i:Nat)),Z (.ref p)]=[Z (webD w),Z (dZ ws cs),Z (.ref n),Z (.ref S.length),a,c]:=λh=>by
    have h2:=C M h;rw[ak O]at h2;exact app _ ⟨_,_,_,by lia,by rw[h2],O⟩
   have I:(gP ws dd "mark" i||(cs.contains i && !gP ws dd "wipe" i))=J -> ∃G a c,i+1<=m/\j=S++Ob.lst (eP (ej (i+1) ws dd cs))::G/\[Z (webD w),Z (dZ ws cs),Z (D.ref n),Z (.ref S.length),Z (.int (i:Nat)),Z (.ref p)]=[Z (webD w),Z (dZ ws cs),Z (.ref n),Z (.ref S.length),a,c]:=λh=>by
    have h2:=C J h;rw[aj (by decide)]at h2;exact⟨_,_,_,by lia,by rw[h2];exact f,O⟩
   generalize gP ws dd "mark" i=b1 at *
   generalize cs.contains i=b2 at *
   generalize gP ws dd "wipe" i=b3 at *
   cases b1
   ·rw[aj (by decide)];cases b2
    ·rw[aj (by decide)];exact I O
    ·rw[ak O];cases b3
     ·rw[ak (by decide)];exact o O
     ·rw[aj (by decide)];exact I O
   ·rw[ak O];exact o O
  ·rintro r F ⟨G,a,c,hi,rfl,rfl⟩;rw[lM1,dA,bP];exact⟨O,_,_,_,O,O⟩
 rintro r F ⟨G,a,c,l,rfl⟩;walk_at"w";refine eG (xs:=eP (ej m ws dd cs)) (by rw[l,ee];rfl) ?_;rw[qq (by rw[D.und];exact qc _) v (by rw[l];exact bw _ _)];exact q
theorem Cw{F:List (TK×D)}{n:Nat}{S:Sto}(h:S[n]?=Z (dO F)):xm S n=Z F:=by
 unfold xm;rw[h];cases F<;>rfl
structure RL (e:E4)(F:List (TK×D))(L:List Rw):Prop where
 inc:Dj e L
 ok:∀p∈L,nI p
 len:L.length<=4000
 lk:∀k:Ky,k.Ok->d2 F (k.tk e)=(L.find? λp=>decide (p.1.code e=k.code e)).map (·.2)
theorem G6{e:E4}{F:List (TK×D)}{L:List Rw}{k:Ky}{n:Nat}{S:Sto}{a b c:FE}{r:Ev}{Q:D×Sto->Prop}(d:RL e F L)(hk:k.Ok)(ha:a r S=Z (.ref n,S))(f:S[n]?=Z (dO F))(hb:b r S=Z (k.d e,S))(hc:c r S=Z (uG k,S))(q:Q (kE e L k,S)):W (qg a b c r S) Q:=by
 refine W.of (x:=(kE e L k,S)) ?_ q;simp only[qg,ha,hb,hc,oS1,Cw f,k.keyT e];rw[oP1,d.lk k hk];rfl
theorem B3{m:Nat}{w:ew}{ws:List Wk}{cs:List Nat}{e:E4}{F:List (TK×D)}{L:List Rw}{n:Nat}{S:Sto}{Q:D×Sto->Prop}(h:jc m w ws cs)(rl:RL e F L)(hS:S[n]? = some (dO F))(H:S.all (Ob.und S.length)=true)(q:Q (po m w ws cs e L,S)):
  W (dX 4 gl [webD w,eyD e,.ref n,dZ ws cs] S) Q:=by
 refine lO O (by simp[D.unds,D.und]) ?_;unfold gl
 refine nq ?_;unfold lS
 have hn:=(gE1.mp hS).1;have hf:=h.few;have T:∀u∈ws,ge (ddW w ws cs e L u):=λu A=>Aq rl.ok (h.ky u A);have sl:∀a b:Ob,(S++[a,b])[S.length]?=Z a:=λa b=>by rw[ee];rfl
 have I:∀a b:Ob,(S++[a,b])[S.length+1]?=Z b:=λa b=>by rw[g0];rfl
 have st:∀a b c:Ob,(S++[a,b]).set S.length c=S++[c,b]:=λa b c=>by rw[c6 _ _ (nR1 _),cQ];rfl
 have aq:∀a b c:Ob,(S++[a,b]).set (S.length+1) c=S++[a,c]:=λa b c=>by rw[c6 _ _ (by lia),show S.length+1-S.length=1 by lia];rfl
 have hSn:∀a b:Ob,(S++[a,b])[n]?=Z (dO F):=λa b=>by rw[gL1 hn];exact hS
 refine eF (λr V=>V=S++[.lst [],.lst []]/\r=[Z (webD w),Z (eyD e),Z (.ref n),Z (dZ ws cs),Z (.ref S.length),Z (.ref (S.length+1)),Y,Y,Y,Y,Y,Y,Y]) ?_ ?_
 ·walk_at"w"
 rintro r V ⟨rfl,rfl⟩;refine eF (λr V=>∃j x,V=S++[.lst (ws.map (ddW w ws cs e L)),.lst []]/\r=[Z (webD w),Z (eyD e),Z (.ref n),Z (dZ ws cs),Z (.ref S.length),Z (.ref (S.length+1)),j,x,Y,Y,Y,Y,Y]) ?_ ?_
 ·((try walk_at"w");repeat(simp only[pG,gC,jf];try walk_at"w"))
  rw[kd,Int.toNat_natCast];refine⟨fW (by lia),?_⟩;refine fV (λi r V=>∃j x,i<=ws.length/\V=S++[.lst ((ws.take i).map (ddW w ws cs e L)),.lst []]/\r=[Z (webD w),Z (eyD e),Z (.ref n),Z (dZ ws cs),Z (.ref S.length),Z (.ref (S.length+1)),j,x,Y,Y,Y,Y,Y]) _ 0 _ _ ⟨_,_,by lia,O,O⟩ (λ_ _ _ _=>rfl) ?_ ?_
  ·rintro i d y r N ⟨j,x,hi,rfl,rfl⟩;have z:=(gE1.mp y).1;rw[lM1,dA]at z;rw[bP]at *
   have hd':d = .int (i:Nat):=by
    rw[gP1,cN z]at y;exact(Option.some.inj y).symm
   subst hd';walk_at"w";unfold jx;obtain⟨u,A⟩:∃u,ws[i]?=some u:=⟨_,gG1 z⟩;have B:=gM1 A;obtain⟨g,ao,_⟩:=h.wk u B;have P:∀f,dW (.tup (eA ws)) (.int (i:Nat)) f=Z (ff u,f):=λf=>by
    obtain⟨p,e,h⟩:W (dW (.tup (eA ws)) (.int (i:Nat)) f) λp=>p=(ff u,f):=gy (by rw[eA,gP1,A];rfl) O;rw[e,h]
   refine eF (λr V=>V=S++[.lst ((ws.take i).map (ddW w ws cs e L)),.lst []]/\r=[Z (webD w),Z (eyD e),Z (.ref n),Z (dZ ws cs),Z (.ref S.length),Z (.ref (S.length+1)),Z (.int (i:Nat)),Z (.int u.2.2),Y,Y,Y,Y,Y]) ?_ ?_
   ·((try walk_at"w");repeat(simp only[pG,P,qj];try walk_at"w"))
   rintro r N ⟨rfl,rfl⟩;unfold fi;rw[d5];refine iG ?_;walk_at"w";refine⟨S.length,_,O,sl _ _,?_⟩;have es:W (eQ (dS (mV 7) (dS (mN (dX 4 eX) (dS (mV 0) (dS (mV 1) (dS (mV 3) (dS (mV 6) dU))))) dU)) [Z (webD w),Z (eyD e),Z (.ref n),Z (dZ ws cs),Z (.ref S.length),Z (.ref (S.length+1)),Z (.int (i:Nat)),Z (.int u.2.2),Y,Y,Y,Y,Y] (S++[.lst ((ws.take i).map (ddW w ws cs e L)),.lst []])) λp=>p=((ky w ws cs u).d e,S++[.lst ((ws.take i).map (ddW w ws cs e L)),.lst []]):=by
    walk_at"w";refine se A ao (by lia) ?_;walk_at"w";rw[pR ao];rfl
   obtain⟨p,es,rfl⟩:=es;refine G6 (n:=n) (F:=F) (L:=L) (e:=e) (k:=ky w ws cs u) rl (h.ky u B) O (hSn _ _) es O ?_;walk_at"w";refine(lT (sl _ _)).mpr ⟨ea (by rw[lM1,aQ];lia),?_⟩;refine⟨_,_,by lia,?_,O⟩;rw[st,cH,A,cG];rfl
  ·rintro r N ⟨j,x,hi,rfl,rfl⟩;rw[lM1,dA,bP,b4];exact⟨O,_,_,O,O⟩
 rintro r V ⟨j,x,rfl,rfl⟩;refine eF (λr V=>∃j x E C v l s,V=S++[.lst (ws.map (ddW w ws cs e L)),.lst (eA (ws.map λu=>eL w u (ddW w ws cs e L u)))]/\r=[Z (webD w),Z (eyD e),Z (.ref n),Z (dZ ws cs),Z (.ref S.length),Z (.ref (S.length+1)),j,x,E,C,v,l,s]) ?_ ?_
 ·unfold iU;rw[d5];refine qC (xs:=eA ws) (ys:=ws.map (ddW w ws cs e L)) (n:=S.length) O (sl _ _) ?_;dsimp only;have U:tI (eA ws) (ws.map (ddW w ws cs e L))=ws.map λu=>D.tup [ff u,ddW w ws cs e L u]:=mo ws;rw[U];refine fV (λi r V=>∃j x E C v l s,i<=ws.length/\V=S++[.lst (ws.map (ddW w ws cs e L)),.lst (eA ((ws.take i).map λu=>eL w u (ddW w ws cs e L u)))]/\r=[Z (webD w),Z (eyD e),Z (.ref n),Z (dZ ws cs),Z (.ref S.length),Z (.ref (S.length+1)),j,x,E,C,v,l,s]) _ 0 _ _ ⟨_,_,_,_,_,_,_,by lia,O,O⟩ (λ_ _ V ⟨_,_,_,_,_,_,_,_,hv,_⟩=>by rw[hv];exact gY (sl _ _)) ?_ ?_
  ·rintro i d y r N ⟨j,x,E,C,v,l,s,hi,rfl,rfl⟩;have z:=(gE1.mp y).1;rw[lM1]at z;rw[bP]at *
   obtain ⟨u,A⟩:∃ u,ws[i]? = some u:=⟨_,gG1 z⟩;have B:=gM1 A;obtain ⟨g,ao,_⟩:=h.wk u B;rw [gP1,A] at y;obtain rfl:d=D.tup [ff u,ddW w ws cs e L u]:=(Option.some.inj y).symm;have hx:=T u B;have am:eL w u (ddW w ws cs e L u)=match dt (ddW w ws cs e L u) with
     |some t=>match g[t]? with
      |some p=>(p.1,p.2+1,dm (ddW w ws cs e L u))
      |none=>(u.1,u.2.1,dm (ddW w ws cs e L u))
     |none=>(u.1,u.2.1,dm (ddW w ws cs e L u)):=by
    unfold eL;rw[ao];rfl
   have eT:(ws.take (i+1)).map (λu=>eL w u (ddW w ws cs e L u))=(ws.take i).map (λu=>eL w u (ddW w ws cs e L u))++[eL w u (ddW w ws cs e L u)]:=by
    rw[cH,A,cG];rfl
   have ex:=hx.eta.1;generalize hX:ddW w ws cs e L u=X at *
   generalize hm:dm X=dmx at *
   generalize hh:dh X=dhx at *
   generalize ht:dt X=dtx at *
   have P:ff u = .tup [.int u.1,.int u.2.1,.int u.2.2]:=rfl;rw[P,ex];walk_at"w";unfold jw;have K:∀f,dW (webD w) (.int (u.1:Nat)) f=Z (.tup (g.map pD),f):=λf=>by
    obtain⟨p,e,h⟩:W (dW (webD w) (.int (u.1:Nat)) f) λp=>p=(.tup (g.map pD),f):=wm ao O;rw[e,h]
   have lw:((ws.take i).map λu=>eL w u (ddW w ws cs e L u)).length<=8:=by rw[lM1,aQ];lia
   have G:∀(a b:Nat) (j:Option D),eL w u X=(a,b,dmx)->W (fi (oG (b2 jr) (mV 5) (dS (eQ (dS (mV 8) (dS (mV 9) (dS (mV 10) dU)))) dU)) [Z (webD w),Z (eyD e),Z (.ref n),Z (dZ ws cs),Z (.ref S.length),Z (.ref (S.length+1)),j,Z (.int u.2.2),Z (.int (a:Nat)),Z (.int (b:Nat)),Z (.int (dmx:Nat)),Z (.str dhx),Z (tD dtx)] (S++[.lst (ws.map (ddW w ws cs e L)),.lst (eA ((ws.take i).map λu=>eL w u (ddW w ws cs e L u)))])) λq=>q.1 = .nx /\ ∃j x E C v l s,i+1<=ws.length/\q.2.2=S++[.lst (ws.map (ddW w ws cs e L)),.lst (eA ((ws.take (i+1)).map λu=>eL w u (ddW w ws cs e L u)))]/\q.2.1=[Z (webD w),Z (eyD e),Z (.ref n),Z (dZ ws cs),Z (.ref S.length),Z (.ref (S.length+1)),j,x,E,C,v,l,s]:=by
    intro a b j wq;unfold fi;rw[d5];refine iG ?_;walk_at"w";refine⟨S.length+1,_,O,I _ _,?_⟩;refine(lT (I _ _)).mpr ⟨ea (by rw[jf];lia),?_⟩;refine⟨_,_,_,_,_,_,_,by lia,?_,O⟩;rw[aq,eT,wq];simp[eA,ff]
   cases dtx with
   |none=>
    dsimp only at am;refine eF (λr V=>V=S++[.lst (ws.map (ddW w ws cs e L)),.lst (eA ((ws.take i).map λu=>eL w u (ddW w ws cs e L u)))]/\r=[Z (webD w),Z (eyD e),Z (.ref n),Z (dZ ws cs),Z (.ref S.length),Z (.ref (S.length+1)),j,Z (.int u.2.2),Z (.int u.1),Z (.int u.2.1),Z (.int (dmx:Nat)),Z (.str dhx),Z (tD Y)]) ?_ ?_
    ·have au:g9 (tD Y) .non (S++[.lst (ws.map (ddW w ws cs e L)),.lst (eA ((ws.take i).map λu=>eL w u (ddW w ws cs e L u)))])=Z (.bl J,S++[.lst (ws.map (ddW w ws cs e L)),.lst (eA ((ws.take i).map λu=>eL w u (ddW w ws cs e L u)))]):=rfl
     ((try walk_at"w");repeat(simp only[au];try walk_at"w"))
    rintro r V ⟨rfl,rfl⟩;exact G u.1 u.2.1 j am
   |some t=>
    dsimp only at am;have au:∀f,g9 (tD (Z t)) .non f=Z (.bl M,f):=λf=>rfl;have el:∀f,xL (tD (Z t)) (.int (g.length:Nat)) f=Z (.bl (decide ((t:Int)<(g.length:Int))),f):=λf=>rfl;by_cases hl:t<g.length
    ·have eg:=gG1 hl;rw [eg] at am;have R:∀ f,dW (.tup (g.map pD)) (tD (some t)) f=some (pD g[t],f):=fun f=>by
      obtain⟨p,e,h⟩:W (dW (.tup (g.map pD)) (.int (t:Nat)) f) λp=>p=(pD g[t],f):=gy (by rw[gP1,eg];rfl) O;show dW (.tup (g.map pD)) (.int (t:Nat)) f=_;rw[e,h]
     generalize g[t]=p at *
     refine eF (λr V=>V=S++[.lst (ws.map (ddW w ws cs e L)),.lst (eA ((ws.take i).map λu=>eL w u (ddW w ws cs e L u)))]/\r=[Z (webD w),Z (eyD e),Z (.ref n),Z (dZ ws cs),Z (.ref S.length),Z (.ref (S.length+1)),j,Z (.int u.2.2),Z (.int p.1),Z (.int ((p.2+1:Nat):Int)),Z (.int (dmx:Nat)),Z (.str dhx),Z (tD (Z t))]) ?_ ?_
     ·have p0:∀f,dW (pD p) (.int 0) f=Z (.int p.1,f):=λf=>rfl;have p1:∀f,dW (pD p) (.int 1) f=Z (.int p.2,f):=λf=>rfl
      ((try walk_at"w");repeat(simp only[au,K,gC,lM1,el];try walk_at"w"))
      rw[ak (by rw[al];lia)]
      ((try walk_at"w");repeat(simp only[K,R,p0,p1];try walk_at"w"))
      rw[show(1:Int)+(p.2:Int)=((p.2+1:Nat):Int) by lia]
     rintro r V ⟨rfl,rfl⟩;exact G p.1 (p.2+1) j am
    ·rw[b6 (by lia)]at am;refine eF (λr V=>V=S++[.lst (ws.map (ddW w ws cs e L)),.lst (eA ((ws.take i).map λu=>eL w u (ddW w ws cs e L u)))]/\r=[Z (webD w),Z (eyD e),Z (.ref n),Z (dZ ws cs),Z (.ref S.length),Z (.ref (S.length+1)),j,Z (.int u.2.2),Z (.int u.1),Z (.int u.2.1),Z (.int (dmx:Nat)),Z (.str dhx),Z (tD (Z t))]) ?_ ?_
     ·((try walk_at"w");repeat(simp only[au,K,gC,lM1,el];try walk_at"w"))
      rw[aj (by rw[al];lia)];trivial
     rintro r V ⟨rfl,rfl⟩;exact G u.1 u.2.1 j am
  ·rintro r N ⟨j,x,E,C,v,l,s,hi,rfl,rfl⟩;rw[lM1,bP,b4];exact⟨O,_,_,_,_,_,_,_,O,O⟩
 rintro r V ⟨j,x,E,C,v,l,s,rfl,rfl⟩;walk_at"w";refine eG (I _ _) ?_;refine xt (dd:=ddW w ws cs e L) h.web.len h.m8 T h.few (sl _ _) ?_ ?_
 ·rw[dz,bA1,lA1];rw[bD]at H;refine⟨bD.mpr λo ho=>gJ (bt _ _) (H o ho),?_⟩;rw[bR,bR,Ob.und,Ob.und,hL (jN _),Mi.eK λu A=>fr (T u A).und];rfl
 walk_at"w";have R:D.tup [.tup (eA (ws.map λu=>eL w u (ddW w ws cs e L u))),.tup (eP (ej m ws (ddW w ws cs e L) cs))]=po m w ws cs e L:=rfl;rw[R,qq (d:=po m w ws cs e L) fR H (bw _ _)];exact q
noncomputable def pL:List D:=[.non,.int 0,.int 1,.int 2,.int 3,.int 0,.int 1]
noncomputable def ng:List D:=[.str "leave",.str "leave",.str "mark",.str "wipe"]
theorem wB:∀x∈pL,x∈lm:=by
 intro x a;simp only[pL,aF,bN,or_false]at a;rcases a with e|e|e|e|e|e|e<;>subst e<;>simp[lm]
theorem xa:∀x∈ng,x∈nh:=by
 intro x a;simp only[ng,aF,bN,or_false]at a;rcases a with e|e|e|e<;>subst e<;>simp[nh]
theorem Fj{o:Ob}{n:Nat}{T:Sto}{Q:D×Sto->Prop}(ho:fY o n)(hn:n<=2^45)(g:T.all (Ob.und (T.length+1))=M)(q:∀x o',ge x->fY o' (n+5)->Q (x,o'::T)):W (dX 1 gk [.ref 0] (o::T)) Q:=by
 refine wa O O g ?_;unfold gk;refine nq ?_;unfold lR;refine eF (λr S=>∃(t:D) (d:Ob),t∈lm/\fY d (n+1)/\S=d::T/\r=[Z (.ref 0),Z t]) ?_ ?_
 ·walk_at"w";refine fA ho (by lia) (by lia) (by lia) λy b a l=>?_;refine gy (i:=y) (xs:=pL) (x:=pL[y]'(by show y<7;lia)) (gG1 _) ?_;exact⟨_,b,wB _ (bU _),a,O,O⟩
 rintro r S ⟨t,d,h,e,rfl,rfl⟩;walk_at"w";refine fA e (by lia) (by lia) (by lia) λm j c k=>?_;walk_at"w";refine fA c (by lia) (by lia) (by lia) λx b a p=>?_;refine gy (i:=x) (xs:=ng) (x:=ng[x]'(by show x<4;lia)) (gG1 _) ?_;walk_at"w";have f:ge (.tup [.int (m:Nat),ng[x]'(by show x<4;lia),t]):=⟨m,_,_,O,by lia,xa _ (bU _),h⟩;exact⟨_,b,[],by rw[aM],f.und,a.und,q _ b f (a.more (by lia))⟩
structure RN (e:E4)(F:List (TK×D)):Prop where
 row:∀p∈F,∃k:Ky,k.Ok/\p.1=k.tk e/\(ge p.2\/p.2 = .non)
 nd:(F.map (·.1)).Nodup
theorem RN.nil{e:E4}:RN e []:=⟨λp a=>(by cases a),bq⟩
theorem RN.vu{e:E4}{F:List (TK×D)}(h:RN e F){p:TK×D}(hp:p∈F)(n:Nat):p.2.und n=M:=by
 obtain⟨_,_,_,a⟩:=h.row p hp;rcases a with a|a
 ·exact fr a.und
 ·rw[a];rfl
theorem RN.und{e:E4}{F:List (TK×D)}(h:RN e F)(n:Nat):(dO F).und n=M:=by
 have:D.unds n (F.map (·.2))=M:=Mi.eK λp a=>h.vu a n;cases F with
 |nil=>rfl
 |cons _ _=>exact this
theorem RN.put{e:E4}{F:List (TK×D)}{k:Ky}{x:D}(h:RN e F)(hk:k.Ok)(hx:ge x\/x = .non):RN e (e6 F (k.tk e) x):=by
 unfold e6;split
 ·refine⟨λp c=>?_,?_⟩
  ·obtain⟨g,d,rfl⟩:=ci.mp c;obtain⟨l,h1,h2,n⟩:=h.row g d;by_cases z:g.1=k.tk e
   ·rw[ak z];exact⟨l,h1,h2,hx⟩
   ·rw[aj z];exact⟨l,h1,h2,n⟩
  ·rw [bv];have:(F.map ((fun p:TK×D=>p.1)∘fun p=>if p.1=k.tk e then (p.1,x) else p))=F.map (·.1):=by
    apply dg;intro p _;simp only[Function.comp];split<;>rfl
   rw[this];exact h.nd
 ·rename_i i;refine⟨λp c=>?_,?_⟩
  ·rcases aG.mp c with z|z
   ·exact h.row p z
   ·simp at z;subst z;exact⟨k,hk,O,hx⟩
  ·rw[cG,bB];refine⟨h.nd,by simp,λa j b f z=>?_⟩;simp at f;subst f;subst z;obtain⟨p,c,m⟩:=ci.mp j;exact i (bT.mpr ⟨p,c,ah m⟩)
theorem Es{S:Sto}{n:Nat}{F:List (TK×D)}{d:D}{k:TK}(h:S[n]?=Z (dO F))(hk:keyT d=Z k):jk d (.ref n) S=Z (.bl (!(d2 F k).isSome),S):=by
 cases F with
 |nil=>
  have h':S[n]?=Z (.dct []):=h;simp only[jk,h',hk];rfl
 |cons p F=>
  have h':S[n]?=Z (.dcT (p::F)):=h;simp only[jk,fG,h',hk,oP1]
theorem gc_same{n:Nat}{p:D×Sto}(h:p.2.length=n):gc n p=p:=by
 unfold gc;rw[<- h,b4];split<;>rfl
noncomputable def Sub(F F':List (TK×D)):Prop:=∀k d,d2 F k=Z d->d2 F' k=Z d
theorem Sub.refl(F:List (TK×D)):Sub F F:=λ_ _ h=>h
theorem Sub.trans{F G am:List (TK×D)}(a:Sub F G)(b:Sub G am):Sub F am:=λk d h=>b k d (a k d h)
theorem Sub.put{F a:List (TK×D)}{k:TK}{v:D}(s:Sub F a)(h:(d2 F k).isSome=J):Sub F (e6 a k v):=λb d e=>by
 rw[sj];split
 ·rename_i z;subst z;rw[e]at h;cases h
 ·exact s b d e
theorem Bj{F:List (TK×D)}{k:TK}{a b:D}:e6 (e6 F k a) k b=e6 F k b:=by
 by_cases h:(F.any λp=>decide (p.1=k))=M
 ·have h2:((F.map fun p=>if p.1=k then (p.1,a) else p).any fun p=>decide (p.1=k))=true:=by
   obtain⟨p,c,e⟩:=bT.mp h;have e:=of_decide_eq_true e;exact bT.mpr ⟨(p.1,a),ci.mpr ⟨p,c,by rw[ak e]⟩,ah e⟩
  unfold e6;rw[ak h,ak h2,ak h,bv];apply dg;intro p _;simp only[Function.comp];by_cases z:p.1=k
  ·rw[ak z,ak z,ak z]
  ·rw[aj z,aj z]
 ·have h2:((F++[(k,a)]).any fun p=>decide (p.1=k))=true:=bT.mpr ⟨(k,a),mA1 _ (cY.mpr rfl),decide_eq_true rfl⟩;unfold e6;rw [if_neg h,if_neg h,if_pos h2,cG];have e:F.map (fun p=>if p.1=k then (p.1,b) else p)=F:=by
   conv=>rhs;rw[<- List.map_id F]
   apply dg;intro p c;rw[aj λz=>h (bT.mpr ⟨p,c,ah z⟩)];rfl
  rw[e];simp
theorem Ci{m:Nat}{w:ew}{ws:List Wk}{cs:List Nat}{e:E4}{F:List (TK×D)}{o:Ob}{n:Nat}{T:Sto}{Q:D×Sto->Prop}(h:jc m w ws cs)(wq:RN e F)(hT:T.all (Ob.und 0)=true)(ho:fY o n)(hn:n<=2^40)(hl:F.length<=10000)(q:∀f o',RN e f->f.length<=F.length+ws.length->fY o' (n+100)->Sub F f->(∀u∈ws,(d2 f ((ky w ws cs u).tk e)).isSome=true)->Q (.non,o'::dO f::T)):
  W (dX 5 fU [.ref 0,webD w,eyD e,.ref 1,dZ ws cs] (o::dO F::T)) Q:=by
 refine lO O O ?_;unfold fU;refine nq ?_;unfold kM;have hf:=h.few;have V:∀F,RN e F->(dO F::T).all (Ob.und ((dO F::T).length+1))=M:=λF wq=>by
  rw[bR,wq.und,Bool.true_and,bD];exact λx R=>gJ (bi _) (bD.mp hT x R)
 ((try walk_at"w");repeat(simp only[pG,gC,jf];try walk_at"w"))
 rw[kd,Int.toNat_natCast];refine⟨fW (by lia),?_⟩;refine fV (λi r S=>∃f o' aq y6,i<=ws.length/\RN e f/\f.length<=F.length+i/\fY o' (n+10*i)/\Sub F f/\(∀j u,j<i->ws[j]?=Z u->(d2 f ((ky w ws cs u).tk e)).isSome=M)/\S=o'::dO f::T/\r=[Z (.ref 0),Z (webD w),Z (eyD e),Z (.ref 1),Z (dZ ws cs),aq,y6]) _ 0 _ _ ⟨F,o,_,_,by lia,wq,by lia,ho,Sub.refl F,λj u ao _=>by lia,O,O⟩ (λ_ _ _ _=>rfl) ?_ ?_
 ·rintro i d C r S ⟨a,B,aq,y6,hi,s,I,y,b,l,rfl,rfl⟩;have E:=(gE1.mp C).1;rw[lM1,dA]at E;rw[bP]at *
  have X:d = .int (i:Nat):=by
   rw[gP1,cN E]at C;exact(Option.some.inj C).symm
  subst X;walk_at"w";unfold iS;obtain⟨u,G⟩:∃u,ws[i]?=some u:=⟨_,gG1 E⟩;have K:=gM1 G;obtain⟨row,er,_,hmd⟩:=h.wk u K;have hk:=h.ky u K;have eu:∀L,dW (.tup (eA ws)) (.int (i:Nat)) L=Z (ff u,L):=λL=>by
   obtain⟨p,e,h⟩:W (dW (.tup (eA ws)) (.int (i:Nat)) L) λp=>p=(ff u,L):=gy (by rw[eA,gP1,G];rfl) O;rw[e,h]
  refine eF (λr S=>S=B::dO a::T/\r=[Z (.ref 0),Z (webD w),Z (eyD e),Z (.ref 1),Z (dZ ws cs),Z (.int (i:Nat)),Z ((ky w ws cs u).d e)]) ?_ ?_
  ·((try walk_at"w");repeat(simp only[pG,eu,qj];try walk_at"w"))
   refine se G er (by lia) ?_;rw[pR er];walk_at"w";rfl
  rintro r S ⟨rfl,rfl⟩;have U:∀(N:List (TK×D)),(∀k d,d2 a k=Z d->d2 N k=Z d)->(d2 N ((ky w ws cs u).tk e)).isSome=M -> ∀j v,j<i+1->ws[j]?=Z v->(d2 N ((ky w ws cs v).tk e)).isSome=M:=λN h1 h2 j v ao au=>by
   by_cases z:j=i
   ·subst z;rw[G]at au;cases au;exact h2
   ·obtain⟨d,hd⟩:=aP.mp (l j v (by lia) au);rw[h1 _ _ hd];rfl
  have A:=Es (S:=B::dO a::T) (n:=1) (F:=a) O ((ky w ws cs u).keyT e);cases hin:(d2 a ((ky w ws cs u).tk e)).isSome with
  |true=>
   rw[hin]at A
   ((try walk_at"w");repeat(simp only[A];try walk_at"w"))
   exact⟨a,B,_,_,by lia,s,by lia,y.more (by lia),b,U a (λ_ _ h=>h) hin,O,O⟩
  |false=>
   rw[hin]at A;have s1:=Gf (e:=e) (F:=a) (k:=ky w ws cs u) (x:=.non) (n:=1) (S:=B::dO a::T) O (by lia);have H:=s.put hk (x:=.non) (.inr O);have l2:(e6 a ((ky w ws cs u).tk e) D.non).length<=a.length+1:=vd;have g:∀x,(d2 (e6 a ((ky w ws cs u).tk e) x) ((ky w ws cs u).tk e)).isSome=M:=λx=>by rw[sj,ak O];rfl
   have c:∀x,Sub a (e6 a ((ky w ws cs u).tk e) x):=λx=>(Sub.refl a).put hin
   ((try walk_at"w");repeat(simp only[A,s1];try walk_at"w"))
   refine fA y (by lia) (by lia) (by lia) λt o2 am ht=>?_;walk_at"w";split
   ·refine Fj am (by lia) (V _ H) λx o3 R P=>?_;have s2:=Gf (e:=e) (F:=e6 a ((ky w ws cs u).tk e) .non) (k:=ky w ws cs u) (x:=x) (n:=1) (S:=o3::dO (e6 a ((ky w ws cs u).tk e) .non)::T) O (by lia)
    ((try walk_at"w");repeat(simp only[s2];try walk_at"w"))
    have e2:e6 (e6 a ((ky w ws cs u).tk e) .non) ((ky w ws cs u).tk e) x=e6 a ((ky w ws cs u).tk e) x:=Bj;rw[e2];have l3:(e6 a ((ky w ws cs u).tk e) x).length<=a.length+1:=vd;exact⟨_,o3,_,_,by lia,s.put hk (.inl R),by lia,P.more (by lia),b.trans (c x),U _ (c x) (g x),O,O⟩
   ·exact⟨_,o2,_,_,by lia,H,by lia,am.more (by lia),b.trans (c .non),U _ (c .non) (g .non),O,O⟩
 ·rintro r S ⟨a,B,aq,y6,hi,s,I,y,b,l,rfl,rfl⟩;rw[lM1,dA,bP]at *
  have e1:gc (T.length+2) (D.non,B::dO a::T)=(D.non,B::dO a::T):=gc_same O;show Q (gc (T.length+2) (D.non,B::dO a::T));rw[e1];exact q a B s I (y.more (by lia)) b λu G=>by
   obtain⟨j,ao⟩:=br G;exact l j u (gE1.mp ao).1 ao
noncomputable def isT:D->Bool
 | .tup _=>M
 |_=>J
noncomputable def dv(d:D):Option D:=if isT d=M then Z d else Y
noncomputable def fX(F:List (TK×D)):List (TK×D):=F.filter λp=>isT p.2
noncomputable def vf(p:TK×D):D:=.tup [Mi.tkD p.1,p.2]
theorem ge.isT{x:D}(h:ge x):isT x=M:=by
 obtain⟨_,_,_,rfl,_⟩:=h.is;rfl
theorem kn{e:E4}{F:List (TK×D)}(h:RN e F):RW e (fX F):=by
 refine⟨λp d=>?_,List.Sublist.nodup (List.Sublist.map _ List.filter_sublist) h.nd⟩;obtain⟨h1,h2⟩:=aA.mp d;obtain⟨k,b,c,a⟩:=h.row p h1;rcases a with a|a
 ·exact⟨k,b,c,a⟩
 ·rw[a]at h2;cases h2
theorem live_len(F:List (TK×D)):(fX F).length<=F.length:=dq _ _
theorem oI:∀{F:List (TK×D)} (k:TK),(F.map (·.1)).Nodup->d2 (fX F) k=(d2 F k).bind dv
 |[],_,_=>rfl
 |(a,d)::F,k,nd=>by
  rw[mP1,aN]at nd;have ih:=oI (F:=F) k nd.2;unfold fX at ih ⊢;rw[di,eV];by_cases z:a=k
  ·have b:d2 F k=none:=k6 (by
    rw[Bool.eq_false_iff];intro y;obtain⟨p,c,e⟩:=bT.mp y;exact nd.1 (ci.mpr ⟨p,c,(of_decide_eq_true e).trans z.symm⟩))
   rw[b]at ih;rw[ak z];cases hd:isT d with
   |true=>rw[ak O,eV,ak z];simp[dv,hd]
   |false=>rw[aj (by simp),ih];simp[dv,hd]
  ·rw[aj z];cases hd:isT d with
   |true=>rw[ak O,eV,aj z,ih]
   |false=>rw[aj (by simp),ih]
theorem vR:∀(ps acc:List (TK×D)),((acc++ps).map (·.1)).Nodup->ps.foldl (λF p=>e6 F p.1 p.2) acc=acc++ps
 |[],acc,_=>by simp
 |p::ps,acc,nd=>by
  have e:e6 acc p.1 p.2=acc++[p]:=by
   unfold e6;rw[aj];intro y;obtain⟨q,a,e⟩:=bT.mp y;rw[cG,bB]at nd;exact nd.2.2 _ (ci.mpr ⟨q,a,O⟩) _ (ci.mpr ⟨p,mS1,O⟩) (of_decide_eq_true e)
  rw[cb,e,vR ps (acc++[p]) (by rw[bI];exact nd),bI];rfl
theorem oz:∀{F:List (TK×D)},(∀p∈F,Mi.keyT (Mi.tkD p.1)=Z p.1)->iR (F.map vf)=Z F
 |[],_=>rfl
 |p::F,h=>by
  rw[mP1,iR,oz λq a=>h q (mC1 _ a)];have:=h p mS1;simp only[vf,vo,this,oP1,oS1]
theorem RN.key{e:E4}{F:List (TK×D)}(h:RN e F){p:TK×D}(hp:p∈F):Mi.keyT (Mi.tkD p.1)=Z p.1:=by
 obtain⟨k,_,h2,_⟩:=h.row p hp;rw[h2,k.tkD,k.keyT e]
theorem Fk(F:List (TK×D)):Jw F=dO F:=by cases F<;>rfl
theorem Bp{e:E4}{F:List (TK×D)}(h:RN e F)(n:Nat):D.unds n ((fX F).map vf)=M:=Mi.eK λp a=>by
 have a:=(aA.mp a).1;unfold vf;simp only[D.und,D.unds,h.vu a,tT,df]
theorem vC:∀{F:List (TK×D)},(F.map (·.1)).Nodup -> ∀{p:TK×D},p∈F->d2 F p.1=Z p.2
|[],_,_,hp=>by cases hp
|y::F,nd,p,hp=>by
 rw[mP1,aN]at nd;obtain⟨a,b⟩:=y;rw[eV];rcases aF.mp hp with z|z
 ·subst z;rw[ak rfl]
 ·rw[aj (λw=>nd.1 (ci.mpr ⟨p,z,w.symm⟩))];exact vC nd.2 z
theorem vn{e:E4}{F:List (TK×D)}{n:Nat}{r:Ev}{S:Sto}{Q:D×Sto->Prop}(g:RN e F)(v:F.length<=10000)(c:S[n]? = Z (dO F))(hr:r[5]? = Z (Z (.ref n)))(q:Q (.ref S.length,S++[.lst ((fX F).map vf)])):W (lf 1 [5] (mV 5) (gN 0) (mB (m2 (b2 g9) (m2 (b2 dW) (mV 1) (mV 0)) (mC D.non))) (eI (eQ (dS (mV 0) (dS (m2 (b2 dW) (mV 1) (mV 0)) dU)))) r S) Q:=by
 have m:=(gE1.mp c).1;have t:mV 5 r S=Z (.ref n,S):=by simp[mV,hr]
 have b:nR 1 [5] r=[Y,Z (.ref n)]:=by simp[nR,hr]
 have d:(S.set n (.dcF F))[n]?=Z (.dcF F):=by rw[aI m]
 unfold lf;rw[t,oS1];dsimp only;have o:zM (dO F)=Z F:=by cases F<;>rfl
 rw[c,oS1,o,oS1,d5,b];refine hA (f:=λq:TK×D=>Mi.tkD q.1) (λp:TK×D=>isT p.2) vf (λr=>∃z,r=[z,Z (.ref n)]) O F _ ⟨_,O⟩ ?_ λw _=>?_
 ·rintro p j r ⟨z,rfl⟩;have s:dW (.ref n) (Mi.tkD p.1) (S.set n (.dcF F))=some (p.2,S.set n (.dcF F)):=by
   simp only[dW,d];rw[g.key j,oS1,vC g.nd j];rfl
  have u:g9 p.2 .non (S.set n (.dcF F))=Z (.bl (isT p.2),S.set n (.dcF F)):=by
   obtain⟨k,_,_,a⟩:=g.row p j;rcases a with a|a
   ·obtain⟨_,_,_,z,_⟩:=a.is;rw[z];rfl
   ·rw[a];rfl
  ((try walk_at"w");repeat(simp only[s,u];try walk_at"w"))
  exact⟨⟨_,O⟩,λ_=>⟨O,trivial⟩⟩
 ·dsimp only;have l:=live_len F;rw [if_pos (by rw [lM1];exact aC (aC l v) (by decide)),eB,aW,List.set_set];have:S.set n (dO F)=S:=by
   apply b5;intro i;by_cases h:n=i
   ·subst h;rw[aI m,c]
   ·rw[gS1 h]
  rw[this];exact q
theorem Ff{e:E4}{F:List (TK×D)}{n:Nat}{S:Sto}{Q:D×Sto->Prop}(a:RN e F)(d:F.length<=10000)(b:S[n]?=Z (.lst ((fX F).map vf)))(q:Q (.ref S.length,S++[dO (fX F)])):W (nl (.ref n) S) Q:=by
 refine W.of ?_ q;unfold nl;rw[gR b];dsimp only;rw[oz (F:=fX F) λp c=>a.key (aA.mp c).1,oS1,lM1,ak (aC (live_len F) (by lia))];have:lI (fX F)=fX F:=by
  unfold lI;rw[vR _ _ (by rw[c4];exact(kn a).nd),c4]
 rw[this,Fk]
theorem vL{α:Type}{f:α->D}{c:α->Nat}{a:α}:∀ {zs:List α},(∀ b∈zs,jJ [] 51 (f a) (f b)=some (decide (c a<c b)))->(∀ b∈zs,c b≠c a)->zs.Pairwise (fun x y=>c x<c y) ->
  ∃ys:List α,w6 (f a) (zs.map f)=ys.map f/\ys.Perm (a::zs)/\ys.Pairwise (λx y=>c x<c y)
 |[],_,_,_=>⟨[a],O,.refl _,by simp⟩
 |b::zs,h,hn,hp=>by
  rw[cf]at hp;rw[mP1,w6];have j:=h b mS1;unfold IJ;rw[j];by_cases z:c a<c b
  ·rw[ah z,ak (show(Z M == Z M)=M from rfl)];refine⟨a::b::zs,O,.refl _,cf.mpr ⟨λy d=>?_,cf.mpr hp⟩⟩;rcases aF.mp d with rfl|d
   ·exact z
   ·exact bh z (hp.1 y d)
  ·rw[ai z,aj (by decide)];obtain⟨ys,e,i,k⟩:=vL (λx g=>h x (mC1 _ g)) (λx g=>hn x (mC1 _ g)) hp.2;refine⟨b::ys,by rw[e];rfl,(i.cons b).trans (.swap _ _ _),cf.mpr ⟨λy d=>?_,k⟩⟩;rcases aF.mp (i.mem_iff.mp d)with rfl|d
   ·have:=hn b mS1;lia
   ·exact hp.1 y d
theorem rr{α:Type}{f:α->D}{c:α->Nat}:∀ {ks:List α},(∀ a∈ks,∀ b∈ks,jJ [] 51 (f a) (f b)=some (decide (c a<c b)))->(ks.map c).Nodup ->
  ∃zs:List α,jQ (ks.map f)=zs.map f/\zs.Perm ks/\zs.Pairwise (λx y=>c x<c y)/\lA (zs.map f)=M
 |[],_,_=>⟨[],O,.refl _,.nil,O⟩
 |a::ks,h,hn=>by
  rw[mP1,aN]at hn;obtain⟨zs,e,o,r,_⟩:=rr (ks:=ks) (λx j y k=>h x (mC1 _ j) y (mC1 _ k)) hn.2;obtain⟨ys,p,l,i⟩:=vL (a:=a) (zs:=zs) (λb n=>h a mS1 b (mC1 _ (o.mem_iff.mp n))) (λb n z=>hn.1 (ci.mpr ⟨b,o.mem_iff.mp n,z⟩)) r;have g:ys.Perm (a::ks):=l.trans (o.cons a);refine⟨ys,by rw[mP1,jQ,e,p],g,i,?_⟩;have k:∀x∈ys,∀y∈ys,jJ [] 51 (f x) (f y)=Z (decide (c x<c y)):=λx j y k=>h x (g.mem_iff.mp j) y (g.mem_iff.mp k);clear p l g
  induction ys with
  |nil=>rfl
  |cons y ys ih=>
   rw[cf]at i;rw[mP1,lA,ih i.2 λx j z s=>k x (mC1 _ j) z (mC1 _ s),bO,bD];intro d q;obtain⟨x,j,rfl⟩:=ci.mp q;unfold oJ;have m:=i.1 x j;rw[k y mS1 x (mC1 _ j),k x (mC1 _ j) y mS1,ah m,ai (by lia)];rfl
theorem Cv{x:D}{S:Sto}{n:Nat}(h:ge x):gr S (n+3) x x=Z M:=by
 have e:=h.eta.1;generalize dm x=a at e;generalize dh x=b at e;generalize dt x=c at e;subst e;have d:∀i:Int,gr S (n+2) (.int i) (.int i)=Z M:=λi=>by show Z (i == i)=_;simp
 have f:gr S (n+2) (.str b) (.str b)=Z M:=by show Z (b == b)=_;simp
 have g:gr S (n+2) (tD c) (tD c)=Z M:=by
  cases c with
  |none=>rfl
  |some t=>exact d t
 rw[Hg,nJ,d,oS1,nJ,f,oS1,nJ,g,oS1,nJ];rfl
theorem DP{e:E4}{p q:Rw}(hp:nI p)(a:nI q)(h:p.1.code e=q.1.code e->p=q):jJ [] 51 (fF e p) (fF e q)=Z (decide (p.1.code e<q.1.code e)):=by
 unfold fF;rw[II,nQ,Ky.eq (n:=47) hp.1 a.1,oS1];by_cases z:p.1.code e=q.1.code e
 ·rw[ak (ah z),nQ];have:=h z;subst this;rw[Cv (n:=47) hp.2,oS1,ak O,nQ];simp
 ·rw[aj (by rw[al];exact z),Ky.lt (n:=47) hp.1 a.1]
theorem pl_tk:∀k:TK,pl (Mi.tkD k)=M:=λk=>k.rec (motive_1:=λk=>pl (Mi.tkD k)=M) (motive_2:=λks=>md (Mi.hE ks)=M) O (λ_=>rfl) (λ_ ih=>by rw[Mi.tkD,pl];exact ih) O (λ_ _ a b=>by rw[Mi.hE,md,a,b];rfl)
theorem Bu{x:D}(h:ge x):pl x=M:=by
 have e:=h.eta.1;generalize dm x=a at e;generalize dh x=b at e;generalize dt x=c at e;subst e;cases c<;>rfl
theorem vg{α:Type}{f:α->D}:∀{l:List α},(∀x∈l,pl (f x)=M)->md (l.map f)=M
 |[],_=>rfl
 |x::l,h=>by rw[mP1,md,h x mS1,vg λy a=>h y (mC1 _ a)];rfl
theorem uz{e:E4}:∀L:List Rw,∃f,m9 (L.map (fF e))=Z f
 |[]=>⟨_,O⟩
 |p::L=>by
  refine⟨J,?_⟩;have a:∀q:Rw,iY (fF e q)=Z J:=λq=>rfl;rw[mP1,m9,a];dsimp only;rw[ak];rw[bD];intro d b;obtain⟨q,_,rfl⟩:=ci.mp b;rw[a];rfl
theorem mx{e:E4}{F:List (TK×D)}(h:RW e F)(C:F.length<=4000):
  ∃L:List Rw,RL e F L /\ ∀(n:Nat) (S:Sto),S[n]?=Z (.lst (F.map vf))->nj (.ref n) S=Z (.ref S.length,S++[.lst (L.map (fF e))]):=by
 obtain⟨d,l,ok⟩:=RW.list h.row;have m:∀p∈d,p.1.Ok:=λp g=>(ok p g).1;have nd:(d.map λp=>p.1.code e).Nodup:=by
  have:=h.nd;rw[<- l,bv]at this;refine(dj.mpr ((dj.mp this).imp_of_mem λ{a b} i j o z=>?_));exact o ((uZ (m a i) (m b j)).mpr z)
 have inj:∀a∈d,∀b∈d,a.1.code e=b.1.code e->a=b:=λa i b j z=>by
  have B:=(ik (f:=λp:Rw=>p.1.code e) (c:=b.1.code e) (a:=a) nd).mpr ⟨i,z⟩;have s:=(ik (f:=λp:Rw=>p.1.code e) (c:=b.1.code e) (a:=b) nd).mpr ⟨j,O⟩;rw[B]at s;exact Option.some.inj s
 obtain⟨L,u,q,v,x⟩:=rr (f:=fF e) (c:=λp:Rw=>p.1.code e) (ks:=d) (λa i b j=>DP (ok a i) (ok b j) (inj a i b j)) nd;have A:d.length=F.length:=by rw[<- l,lM1]
 have t:∀k:Ky,k.Ok->d2 F (k.tk e)=(L.find? λp=>decide (p.1.code e=k.code e)).map (·.2):=λk y=>by
  have a1:d2 F (k.tk e)=(d.find? λp=>decide (p.1.code e=k.code e)).map (·.2):=by
   rw[<- l];unfold d2;rw[List.find?_map,Option.map_map];have:(d.find? ((λp:TK×D=>decide (p.1=k.tk e))∘λp:Rw=>(p.1.tk e,p.2)))=d.find? λp=>decide (p.1.code e=k.code e):=by
    apply nt;intro p g;simp only[Function.comp];rw[bS,al,al];exact uZ (m p g) y
   rw[this];rfl
  rw[a1,xg (f:=λp:Rw=>p.1.code e) q nd]
 refine⟨L,⟨v,λp g=>ok p (q.mem_iff.mp g),by rw[q.length_eq];lia,t⟩,λn S r=>?_⟩;have ep:F.map vf=d.map (fF e):=by
  rw[<- l,bv];apply dg;intro p _;show D.tup [Mi.tkD (p.1.tk e),p.2]=_;rw[p.1.tkD];rfl
 rw[ep]at r;obtain⟨f,w⟩:=uz (e:=e) d;unfold nj;rw[gR r];dsimp only;have g:md (d.map (fF e))=M:=vg λp g=>by
  unfold fF;rw[pl,md,md,md,Bu (ok p g).2,<- p.1.tkD e,pl_tk];rfl
 rw[w,oS1,u,ak (by rw[g,x,lM1,ah (by lia)];rfl)]
noncomputable def xk(e:E4)(F:List (TK×D))(k:Ky):D:=((d2 F (k.tk e)).bind dv).getD (uG k)
theorem RL.due{e:E4}{F:List (TK×D)}{L:List Rw}(a:RL e (fX F) L)(b:RN e F){k:Ky}(hk:k.Ok):kE e L k=xk e F k:=by
 unfold kE xk;rw[<- a.lk k hk,oI _ b.nd]
theorem zK{F:List (TK×D)}{k:TK}{d:D}(h:d2 F k=Z d):(k,d)∈F:=by
 unfold d2 at h;obtain⟨p,f,e⟩:=oM1.mp h;have c:=List.find?_some f;have g:=List.mem_of_find?_eq_some f;obtain⟨a,b⟩:=p;have c:=of_decide_eq_true c;dsimp only at e c;subst e;subst c;exact g
theorem Ct{e:E4}{F:List (TK×D)}(c:RN e F){k:Ky}(hk:k.Ok):ge (xk e F k):=by
 have b:ge (uG k):=⟨k.m,_,_,O,hk.m,by simp[nh],by simp[lm]⟩;unfold xk;cases h:d2 F (k.tk e)with
 |none=>exact b
 |some d=>
  obtain⟨_,_,_,a⟩:=c.row _ (zK h);rcases a with a|a
  ·rw[oS1,dv,ak a.isT];exact a
  ·dsimp only at a;rw[a];exact b
abbrev Wh:=List Wk×List Nat
noncomputable def gA(a:Wh):D:=dZ a.1 a.2
noncomputable def Hk(w:ew)(e:E4)(F:List (TK×D))(a:Wh)(u:Wk):D:=xk e F (ky w a.1 a.2 u)
noncomputable def jv(m:Nat)(w:ew)(e:E4)(F:List (TK×D))(a:Wh):Wh:=(a.1.map λu=>eL w u (Hk w e F a u),ej m a.1 (Hk w e F a) a.2)
theorem py{α:Type}{p q:α->Bool}:∀{l:List α},(∀x∈l,p x=q x)->l.any p=l.any q
 |[],_=>rfl
 |x::l,h=>by rw[bd,bd,h x mS1,py λy a=>h y (mC1 _ a)]
theorem qy{m:Nat}{ws:List Wk}{f g:Wk->D}{cs:List Nat}(h:∀u∈ws,f u=g u):ej m ws f cs=ej m ws g cs:=by
 have:∀s r,gP ws f s r=gP ws g s r:=λs r=>py λu a=>by rw[h u a]
 unfold ej;simp only[this]
theorem mw{m:Nat}{w:ew}{ws:List Wk}{f g:Wk->D}{cs:List Nat}(h:∀u∈ws,f u=g u):((ws.map λu=>eL w u (f u),ej m ws f cs):Wh)=(ws.map λu=>eL w u (g u),ej m ws g cs):=by
 rw[qy h]
 congr 1
 apply dg;intro u a;rw[h u a]
theorem s0{m:Nat}{w:ew}{e:E4}{F:List (TK×D)}{L:List Rw}{a:Wh}(h:jc m w a.1 a.2)(b:RL e (fX F) L)(d:RN e F):po m w a.1 a.2 e L=gA (jv m w e F a):=by
 have:=mw (m:=m) (w:=w) (ws:=a.1) (cs:=a.2) (f:=ddW w a.1 a.2 e L) (g:=Hk w e F a) λu c=>b.due d (h.ky u c);unfold po gA jv;rw[<- this]
theorem wD{m:Nat}{w:ew}{e:E4}{F c:List (TK×D)}{a:Wh}(s:Sub F c)(h:∀u∈a.1,(d2 F ((ky w a.1 a.2 u).tk e)).isSome=M):jv m w e c a=jv m w e F a:=by
 refine mw λu f=>?_;obtain⟨d,b⟩:=aP.mp (h u f);unfold Hk xk;rw[b,s _ _ b]
theorem xu{m:Nat}{ws:List Wk}{f:Wk->D}{cs:List Nat}(hm:m<=8):(ej m ws f cs).length<=8 /\ ∀r∈ej m ws f cs,r<m:=by
 unfold ej;refine⟨?_,λr a=>aB.mp (aA.mp a).1⟩;refine aC (dq _ _) ?_;rw[dA];exact hm
theorem yr{m:Nat}{w:ew}{ws:List Wk}{cs:List Nat}(h:jc m w ws cs){u:Wk}(f:u∈ws){x:D}(hx:ge x):∃a,w[(eL w u x).1]?=Z a/\(eL w u x).2.1<=a.length/\(eL w u x).2.2<4000:=by
 have c:=hx.eta.2;obtain⟨a,b,h1,h2⟩:=h.wk u f;unfold eL;rw[b];have base:∃a,w[(u.1,u.2.1,dm x).1]?=Z a/\(u.1,u.2.1,dm x).2.1<=a.length/\(u.1,u.2.1,dm x).2.2<4000:=⟨a,b,h1,c⟩;cases dt x with
 |none=>exact base
 |some t=>
  dsimp only[oS1];cases ep:a[t]? with
  |none=>exact base
  |some p=>
   obtain⟨r,d,e⟩:=h.web.to a (gM1 b) p (gM1 ep);exact⟨r,d,e,c⟩
theorem jc.step{m:Nat}{w:ew}{e:E4}{F:List (TK×D)}{a:Wh}(h:jc m w a.1 a.2)(c:RN e F):jc m w (jv m w e F a).1 (jv m w e F a).2:=by
 have hc:=xu (m:=m) (ws:=a.1) (f:=Hk w e F a) (cs:=a.2) h.m8;refine⟨h.web,h.m8,by show(a.1.map _).length<=8;rw[lM1];exact h.few,hc.1,λv d=>?_,hc.2⟩;obtain⟨u,b,rfl⟩:=ci.mp d;exact yr h b (Ct c (h.ky u b))
theorem uU(a:Wh)(n:Nat):(gA a).und n=M:=fr fR
theorem pF(Ws:List Wh)(n:Nat):D.unds n (Ws.map gA)=M:=Mi.eK λa _=>uU a n
structure lZ (m:Nat)(w:ew)(e:E4)(F:List (TK×D))(k:Nat)(Ws:List Wh):Prop where
 ok:∀a∈Ws,jc m w a.1 a.2/\a.1.length=k
 nx:∀(j:Nat) (a b:Wh),Ws[j]?=some a->Ws[j+1]?=some b->b=jv m w e F a /\ ∀u∈a.1,(d2 F ((ky w a.1 a.2 u).tk e)).isSome=true
theorem lZ.more{m:Nat}{w:ew}{e:E4}{F g:List (TK×D)}{k:Nat}{Ws:List Wh}{a:Wh}(h:lZ m w e F k Ws)(s:Sub F g)(i:RN e g)(l:Ws[Ws.length-1]?=Z a)(ha:∀u∈a.1,(d2 g ((ky w a.1 a.2 u).tk e)).isSome=M):lZ m w e g k (Ws++[jv m w e g a]):=by
 have o:=(gE1.mp l).1;have n:=gM1 l;refine⟨λb f=>?_,λj b c f hc=>?_⟩
 ·rcases aG.mp f with f|f
  ·exact h.ok b f
  ·rw[cY.mp f];exact⟨(h.ok a n).1.step i,by show(a.1.map _).length=k;rw[lM1];exact(h.ok a n).2⟩
 ·by_cases z:j+1<Ws.length
  ·rw[gL1 (by lia)]at f;rw[gL1 z]at hc;obtain⟨h1,h2⟩:=h.nx j b c f hc;refine⟨by rw[wD s h2];exact h1,λu r=>?_⟩;obtain⟨d,p⟩:=aP.mp (h2 u r);rw[s _ _ p];rfl
  ·have q:j+1=Ws.length:=by
    have:=(gE1.mp hc).1;rw[lA1,aY]at this;lia
   rw[gL1 (by lia),show j=Ws.length-1 by lia,l]at f;rw[gR1 (by lia),q,cQ]at hc;cases f;have:jv m w e g a=c:=by simpa using hc
   exact⟨this.symm,ha⟩
structure nZ (m:Nat)(rs cs:List Nat):Prop where
 few:rs.length<=8
 cl:cs.length<=8
 rs:∀r∈rs,r<m
 cs:∀r∈cs,r<m
noncomputable def standD(rs cs:List Nat):D:=.tup [.tup (eP rs),.tup (eP cs)]
noncomputable def fI(rs cs:List Nat):Wh:=(rs.map λr=>(r,0,0),cs)
theorem CI{m:Nat}{w:ew}{rs cs:List Nat}(hw:nH m w)(hm:m<=8)(h:nZ m rs cs):jc m w (fI rs cs).1 (fI rs cs).2:=by
 refine⟨hw,hm,by show(rs.map _).length<=8;rw[lM1];exact h.few,h.cl,λu a=>?_,h.cs⟩;obtain⟨r,b,rfl⟩:=ci.mp a;exact⟨_,gG1 (by rw[hw.len];exact h.rs r b),bi _,by show 0<4000;decide⟩
theorem gF(rs cs:List Nat)(n:Nat):(standD rs cs).und n=M:=fr (by simp[standD,D.und,D.unds,qc])
theorem DD{rs cs:List Nat}{S:Sto}:dW (standD rs cs) (.int 0) S=Z (.tup (eP rs),S):=rfl
theorem yt{rs cs:List Nat}{S:Sto}:dW (standD rs cs) (.int 1) S=Z (.tup (eP cs),S):=rfl
theorem wc{rs:List Nat}{S:Sto}{c:Option D}{Q:List D×Ev×Sto->Prop}(h:∀ b,Q (eA (fI rs []).1,b,S)):
  W (fM [] (gN 0) gu (eI (eQ (dS (mV 0) (dS (mC (D.int 0)) (dS (mC (D.int 0)) dU))))) (eP rs) [c] S) Q:=by
 refine r6 (f:=λr:Nat=>D.int r) (λr:Nat=>ff (r,0,0)) (λr=>∃x,r=[x]) O rs _ ⟨_,O⟩ ?_ λb _=>?_
 ·rintro a d r ⟨x,rfl⟩;walk_at"w";exact⟨O,_,O⟩
 ·have e:(rs.map λr:Nat=>ff (r,0,0))=eA (fI rs []).1:=by unfold eA fI;rw[bv];rfl
  rw[e];exact h b
theorem CH{rs cs:List Nat}{S:Sto}{Q:D×Sto->Prop}(b:rs.length<=1000)(q:Q (gA (fI rs cs),S)):W (dX 1 kk [standD rs cs] S) Q:=by
 refine lP O (by rw[D.unds,gF];rfl) ?_;unfold kk;refine nq ?_;unfold wf;refine eF (λr V=>V=[]/\r=[Z (standD rs cs),Z (.tup (eP rs)),Z (.tup (eP cs))]) ?_ ?_
 ·unfold standD;walk_at"w"
 rintro r V ⟨rfl,rfl⟩;walk_at"w";rw[iP];refine wc λc=>?_;have a:(eA (fI rs []).1).length=rs.length:=by rw[jf];exact lM1 _
 walk_at"w";refine⟨ea (by rw[a];lia),?_⟩;refine eG (xs:=eA (fI rs []).1) O ?_;exact⟨uU (fI rs cs) 0,q⟩
theorem Fw{g:G1}{m:FE}{r:Ev}{S:Sto}{Q:D×Sto->Prop}(h:W (m r S) λp=>W (g p.1 p.2) Q):W (mN (b1 g) (dS m dU) r S) Q:=by
 obtain⟨p,e,h⟩:=h;unfold mN dS dU;rw[e];exact h
theorem AK{a:FE}{b:FA}{r:Ev}{S:Sto}{Q:List D×Sto->Prop}(h:W (a r S) λp=>W (b r p.2) λq=>Q (p.1::q.1,q.2)):W (dS a b r S) Q:=by
 obtain⟨p,e,q,c,h⟩:=h;unfold dS;rw[e,oS1,c];exact⟨_,O,h⟩
theorem Hu{S:Sto}(h:S.all (Ob.und 0)=M)(n:Nat):S.all (Ob.und n)=M:=by
 rw[bD]at h ⊢;exact λx a=>gJ (bi _) (h x a)
theorem kZ{e:E4}{F:List (TK×D)}(h:RN e F)(n:Nat):(Ob.lst ((fX F).map vf)).und n=M:=by rw[Ob.und];exact Bp h n
theorem Cu{m:Nat}{w:ew}{e:E4}{rs cs:List Nat}{o:Ob}{n b:Nat}{Q:D×Sto->Prop}(hw:nH m w)(hm:m<=8)(hst:nZ m rs cs)(ho:fY o n)(hn:n<=2^35)(hb:b<=400)(hlim:b*rs.length<=3000)(q:∀F L c o' G,RN e F->RL e (fX F) L->lZ m w e F rs.length c->c.length=b+1->c[0]?=some (fI rs cs)->fY o' (n+100*b)->G.all (Ob.und 0)=true->G[2]?=some (.lst (c.map gA))->Q (.tup [mcD e L,.ref 3],o'::G)):
  W (dX 5 eH [.ref 0,webD w,eyD e,standD rs cs,.int b] [o]) Q:=by
 refine lO O O ?_;unfold eH;refine nq ?_;unfold hC;have R:(eA (fI rs []).1).length=rs.length:=by rw[jf];exact lM1 _
 have hfew:=hst.few;refine eF (λr S=>r=[Z (.ref 0),Z (webD w),Z (eyD e),Z (standD rs cs),Z (.int (b:Nat)),Z (.ref 1),Z (.ref 3),Y,Y,Y]/\S=[o,.dct [],.lst (eA (fI rs []).1),.lst [gA (fI rs cs)]]) ?_ ?_
 ·((try walk_at"w");repeat(simp only[zE,DD,yt];try walk_at"w"))
  rw[iP];refine wc λr'=>?_;walk_at"w";refine⟨ea (by rw[R];lia),?_⟩;refine eG (xs:=eA (fI rs []).1) O ?_
  first|rfl|exact⟨rfl,rfl⟩
 rintro r S ⟨rfl,rfl⟩;refine eF (λr S=>∃F c o' G A v,RN e F/\F.length<=3000/\fY o' (n+100*b)/\lZ m w e F rs.length c/\c.length=b+1/\c[0]?=Z (fI rs cs)/\G.all (Ob.und 0)=M/\S=o'::dO F :: .lst (eA (fI rs []).1) :: .lst (c.map gA)::G/\r=[Z (.ref 0),Z (webD w),Z (eyD e),Z (standD rs cs),Z (.int (b:Nat)),Z (.ref 1),Z (.ref 3),A,v,Y]) ?_ ?_
 ·walk_at"w";rw[kd,Int.toNat_natCast];refine⟨fW (by lia),?_⟩;refine fV (λi r S=>∃F c o' G A v,i<=b/\RN e F/\F.length<=i*rs.length/\fY o' (n+100*i)/\lZ m w e F rs.length c/\c.length=i+1/\c[0]?=Z (fI rs cs)/\G.all (Ob.und 0)=M/\S=o'::dO F :: .lst (eA (fI rs []).1) :: .lst (c.map gA)::G/\r=[Z (.ref 0),Z (webD w),Z (eyD e),Z (standD rs cs),Z (.int (b:Nat)),Z (.ref 1),Z (.ref 3),A,v,Y]) _ 0 _ _ ?_ (λ_ _ _ _=>rfl) ?_ ?_
  ·refine⟨[],[fI rs cs],o,[],Y,Y,bi _,RN.nil,bi _,ho,⟨λa ao=>?_,λj a b ao hb=>?_⟩,O,O,O,O,O⟩
   ·rw[cY.mp ao];exact⟨CI hw hm hst,lM1 _⟩
   ·simp at hb
  ·rintro i d C r S ⟨F,c,U,G,A,v,hi,t,P,l,K,k,p,y,rfl,rfl⟩;have X:=(gE1.mp C).1;rw[lM1,dA]at X;rw[bP]at *
   have hd':d = .int (i:Nat):=by
    rw[gP1,cN X]at C;exact(Option.some.inj C).symm
   subst hd';have hmul:(i+1)*rs.length<=b*rs.length:=dr _ (by lia);have hmul2:(i+1)*rs.length=i*rs.length+rs.length:=by rw[Nat.add_mul,Nat.one_mul]
   obtain⟨a,ao⟩:∃a,c[i]?=some a:=⟨_,gG1 (by lia)⟩;have ham:=gM1 ao;obtain⟨B,hal⟩:=K.ok a ham;have au:(c.map gA)[i]?=Z (gA a):=by rw[gP1,ao];rfl
   walk_at"w";unfold gt;have hX:(Ob.lst (eA (fI rs []).1)).und 0=M:=by rw[Ob.und];exact jN _
   have hY:(Ob.lst (c.map gA)).und 0=M:=by rw[Ob.und];exact pF _ 0
   refine eF (λr S=>∃g H,RN e g/\g.length<=F.length+rs.length/\fY H (n+100*i+100)/\Sub F g/\(∀u∈a.1,(d2 g ((ky w a.1 a.2 u).tk e)).isSome=M)/\S=H::dO g :: .lst (eA (fI rs []).1) :: .lst (c.map gA)::G/\r=[Z (.ref 0),Z (webD w),Z (eyD e),Z (standD rs cs),Z (.int (b:Nat)),Z (.ref 1),Z (.ref 3),Z (.int (i:Nat)),v,Y]) ?_ ?_
   ·walk_at"w";refine tm (i:=i) (xs:=c.map gA) (x:=gA a) O au ?_;walk_at"w";refine Ci (ws:=a.1) (cs:=a.2) (T:=.lst (eA (fI rs []).1) :: .lst (c.map gA)::G) B t (by rw[bR,bR,hX,hY,y];rfl) l (by lia) (by lia) λg H f z s am E=>?_;rw[hal]at z;exact⟨g,H,f,z,s,am,E,O,trivial⟩
   rintro r S ⟨g,H,f,z,s,am,E,rfl,rfl⟩;obtain⟨L2',N,_⟩:=mx (kn f) (aC (live_len g) (by lia));generalize h:H::dO g::Ob.lst (eA (fI rs []).1)::Ob.lst (c.map gA)::G=S2;have g1:S2[1]?=Z (dO g):=by rw[<- h];rfl
   have c2:S2.all (Ob.und 0)=M:=by rw[<- h,bR,bR,bR,bR,s.und,f.und,hX,hY,y];rfl
   refine eF (λr S=>S=S2++[.lst ((fX g).map vf),dO (fX g)]/\r=[Z (.ref 0),Z (webD w),Z (eyD e),Z (standD rs cs),Z (.int (b:Nat)),Z (.ref 1),Z (.ref 3),Z (.int (i:Nat)),Z (.ref (S2.length+1)),Y]) ?_ ?_
   ·unfold eh;refine d5.mpr (Fw (vn f (by lia) g1 O ?_));refine Ff f (by lia) (by rw[ee];rfl) ?_;walk_at"w"
   rintro r S ⟨wq,rfl⟩;have g3:S[S2.length+1]?=Z (dO (fX g)):=by rw[wq,g0];rfl
   have g4:S[3]?=Z (.lst (c.map gA)):=by rw[wq,<- h];rfl
   have c3:S.all (Ob.und 0)=M:=by
    rw[wq,dz,c2,bR,bR,kZ f,(kn f).und];rfl
   unfold fi;rw[d5];refine iG ?_;walk_at"w";refine⟨3,c.map gA,O,g4,?_⟩
   try walk_at"w"
   refine tm (i:=i) (xs:=c.map gA) (x:=gA a) g4 au ?_
   try walk_at"w"
   refine B3 (ws:=a.1) (cs:=a.2) B N g3 (Hu c3 _) ?_;rw[s0 B N f];walk_at"w";refine(lT g4).mpr ⟨ea (by rw[lM1];lia),?_⟩;have I:c[c.length-1]?=Z a:=by rw[k];exact ao
   refine⟨g,c++[jv m w e g a],H,G++[.lst ((fX g).map vf),dO (fX g)],_,_,by lia,f,by lia,s.more (by lia),K.more am f I E,by rw[lA1,k];rfl,?_,?_,?_,O⟩
   ·rw[gL1 (by lia)];exact p
   ·rw[dz,y,bR,bR,kZ f,(kn f).und];rfl
   ·rw[wq,<- h];simp only[bj,c9,c7,cG,mP1,aZ]
  ·rintro r S ⟨F,c,U,G,A,v,hi,t,P,l,K,k,p,y,rfl,rfl⟩;rw[lM1,dA,bP]at *
   exact⟨O,F,c,U,G,_,_,t,by lia,l,K,k,p,y,O,O⟩
 rintro r S ⟨F,c,U,G,A,v,t,P,l,K,k,p,y,rfl,rfl⟩;obtain⟨L,rl,aq⟩:=mx (kn t) (aC (live_len F) (by lia));have hX:(Ob.lst (eA (fI rs []).1)).und 0=M:=by rw[Ob.und];exact jN _
 have hY:(Ob.lst (c.map gA)).und 0=M:=by rw[Ob.und];exact pF _ 0
 generalize h:U::dO F::Ob.lst (eA (fI rs []).1)::Ob.lst (c.map gA)::G=S2;have g1:S2[1]?=Z (dO F):=by rw[<- h];rfl
 refine eF (λr S=>S=S2++[.lst ((fX F).map vf),.lst (L.map (fF e))]/\r=[Z (.ref 0),Z (webD w),Z (eyD e),Z (standD rs cs),Z (.int (b:Nat)),Z (.ref 1),Z (.ref 3),A,v,Z (mcD e L)]) ?_ ?_
 ·unfold eh;refine d5.mpr (AI.mpr (AK ?_));refine W.of (x:=(eyD e,S2)) O ?_;refine AK (Fw (Fw (vn t (by lia) g1 O ?_)));dsimp only;refine W.of (aq S2.length _ (by rw[ee];rfl)) ?_;dsimp only;refine AJ.mpr (eG (xs:=L.map (fF e)) (by rw[ee];rfl) ?_);refine W.of (x:=([],_)) O ?_;refine⟨Jv,?_⟩;refine W.of (x:=_) O ?_;refine⟨O,?_,O⟩;simp
 rintro r S ⟨rfl,rfl⟩;have ur:=jX (e:=e) rl.ok 0;simp only[D.und]at ur;have hg:∀V,gc 1 (D.tup [mcD e L,.ref 3],V)=(D.tup [mcD e L,.ref 3],V):=λV=>by
  unfold gc;rw[aj];simp[D.und,D.unds]
 walk_at"w";show Q (gc 1 (D.tup [mcD e L,.ref 3],_));rw[hg,<- h];refine q F L c U (dO F::Ob.lst (eA (fI rs []).1)::Ob.lst (c.map gA)::(G++[.lst ((fX F).map vf),.lst (L.map (fF e))])) t rl K k p l ?_ O;rw[bR,bR,bR,dz,t.und,hX,hY,y,bR,bR,kZ t,Ob.und,ur];rfl
theorem CM{n k:Nat}{xs:List D}{x:D}{S:Sto}{Q:D×Sto->Prop}(h:S[n]?=Z (.lst xs))(b:xs.length=k+1)(hx:xs[k]?=Z x)(q:Q (x,S)):W (dW (.ref n) (.int (-1)) S) Q:=by
 refine W.of (x:=(x,S)) ?_ q;simp only[dW,lc,Aa,h,d6,tF,vI,oS1];rw[aj (show¬ (0:Int) <= -1 by decide)];have e:((-1:Int)+(xs.length:Int)).toNat=k:=by lia
 have a:((xs.length:Int)+(-1:Int)).toNat=k:=by lia
 rw[ak (by lia)]
 first
  |rw[e,oS1,hx];rfl
  |rw[a,oS1,hx];rfl
  |simp[e,a,hx]
theorem yb{m:Nat}{w:ew}{e:E4}{F:List (TK×D)}{L:List Rw}{rs cs:List Nat}{Ws:List Wh}{b k:Nat}{S:Sto}{Q:D×Sto->Prop}(hst:nZ m rs cs)(v:RN e F)(j:RL e (fX F) L)(s:lZ m w e F k Ws)(h0:Ws[0]? = Z (fI rs cs))(hb:b<Ws.length)(x:b<=400)(q:Q (.tup ((Ws.take (b+1)).map gA),S)):W (dX 4 iT [webD w,mcD e L,standD rs cs,.int b] S) Q:=by
 refine lP O (by simp[D.unds,fL,mh j.ok,gF];rfl) ?_;unfold iT;refine nq ?_;unfold s9;have t:=hst.few;have y:(Ws.take 1).map gA=[gA (fI rs cs)]:=by
  cases Ws with
  |nil=>cases h0
  |cons a Ws=>simp at h0;subst h0;rfl
 refine eF (λr V=>V=[.lst ((Ws.take 1).map gA)]/\r=[Z (webD w),Z (mcD e L),Z (standD rs cs),Z (.int (b:Nat)),Z (.ref 0),Y]) ?_ ?_
 ·walk_at"w";refine CH (by lia) ?_;walk_at"w";exact⟨by rw[y],trivial⟩
 rintro r V ⟨rfl,rfl⟩;refine eF (λr V=>∃g,V=[.lst ((Ws.take (b+1)).map gA)]/\r=[Z (webD w),Z (mcD e L),Z (standD rs cs),Z (.int (b:Nat)),Z (.ref 0),g]) ?_ ?_
 ·walk_at"w";rw[kd,Int.toNat_natCast];refine⟨fW (by lia),?_⟩;refine fV (λi r V=>∃g,i<=b/\V=[.lst ((Ws.take (i+1)).map gA)]/\r=[Z (webD w),Z (mcD e L),Z (standD rs cs),Z (.int (b:Nat)),Z (.ref 0),g]) _ 0 _ _ ⟨_,bi _,O,O⟩ (λ_ _ _ _=>rfl) ?_ ?_
  ·rintro i d p r V ⟨g,hi,rfl,rfl⟩;have l:=(gE1.mp p).1;rw[lM1,dA]at l;rw[bP]at *
   obtain⟨a,n⟩:∃a,Ws[i]?=some a:=⟨_,gG1 (by lia)⟩;obtain⟨c,hc⟩:∃c,Ws[i+1]?=some c:=⟨_,gG1 (by lia)⟩;obtain⟨h,z⟩:=s.ok a (gM1 n);obtain⟨u,_⟩:=s.nx i a c n hc;have f:((Ws.take (i+1)).map gA).length=i+1:=by rw[lM1,aQ];lia
   have o:((Ws.take (i+1)).map gA)[i]?=Z (gA a):=by rw[gP1,aS (by lia),n];rfl
   walk_at"w";unfold mS fi;rw[d5];refine iG ?_;walk_at"w";refine⟨0,_,O,O,?_⟩
   ((try walk_at"w");repeat(simp only[sD];try walk_at"w"))
   refine CM O f o ?_;walk_at"w";refine Fs (ws:=a.1) (cs:=a.2) h j.inc j.ok j.len ?_;rw[s0 h j v,<- u];walk_at"w";refine(lT O).mpr ⟨ea (by rw[f];lia),?_⟩;refine⟨_,by lia,?_,O⟩;rw[cH (i:=i+1),hc,cG];rfl
  ·rintro r V ⟨g,hi,rfl,rfl⟩;rw[lM1,dA,bP];exact⟨O,_,O,O⟩
 rintro r V ⟨g,rfl,rfl⟩;walk_at"w";refine eG (xs:=(Ws.take (b+1)).map gA) O ?_;exact⟨by rw[D.und];exact pF _ 0,q⟩
theorem tS{m:Nat}{w:ew}{a:Wh}(h:jc m w a.1 a.2):t8 (gA a)=M/\nW (gA a)<=60/\AU (gA a)<=9:=by
 have s:=h.few;have p:=h.m8;have i:=h.cl;have c:∀x:Nat,x<4000->t8 (.int (x:Nat))=M:=λx q=>by unfold t8;rw[al];lia
 have j:∀u∈a.1,t8 (ff u)=M:=λu e=>by
  obtain⟨d,g,h1,h2⟩:=h.wk u e;have o:=h.web.le d (gM1 g);have n:=h.lt u e;unfold ff;rw[t8];simp only[nL,bO,bA1];exact⟨c _ (by lia),c _ (by lia),c _ h2⟩
 have a1:=jR (f:=ff) (l:=a.1) j;have a2:=jl (f:=ff) (k:=3) (l:=a.1) λv b=>nR1 _;have a3:=kF (f:=ff) (k:=3) (l:=a.1) λv b=>(by decide:1<=3);have b1:=jR (f:=λr:Nat=>D.int r) (l:=a.2) λv b=>c v (by have:=h.ch v b;lia);have b2:=jl (f:=λr:Nat=>D.int r) (k:=0) (l:=a.2) λv b=>nR1 _;have b3:=kF (f:=λr:Nat=>D.int r) (k:=0) (l:=a.2) λv b=>nR1 _;unfold gA dZ;refine⟨?_,?_,?_⟩
 ·simp only[nL,t8,eA,eP,a1,b1,df]
 ·simp only[kI,nW,eA,eP];lia
 ·simp only[nV,AU,eA,eP];lia
theorem x4{m:Nat}{w:ew}{Ws:List Wh}(h:∀a∈Ws,jc m w a.1 a.2)(c:Ws.length<=500):∃t,∀S,nk (.tup (Ws.map gA)) S=Z (.str t,S):=by
 have a2:=jl (f:=gA) (k:=60) (l:=Ws) λv b=>(tS (h v b)).2.1;have a3:=kF (f:=gA) (k:=9) (l:=Ws) λv b=>(tS (h v b)).2.2;exact Bf (jR λv b=>(tS (h v b)).1) (by lia) (by lia)
theorem IW(xs:List D)(k:Nat):Mi.sT xs Y (Z (k:Int))=xs.take k:=by
 unfold Mi.sT;rw[HT.yD,HT.Bd,bZ,Nat.sub_zero];by_cases h:k<=xs.length
 ·rw[bC h]
 ·rw[Nat.min_eq_right (by lia),b4,ca (by lia)]
theorem Hv{m:FE}{hi:FO}{r:Ev}{S:Sto}{n k:Nat}{xs:List D}{Q:D×Sto->Prop}(hm:m r S=Z (.ref n,S))(a:hi r S=Z (Z (k:Int),S))(h:S[n]?=Z (.lst xs))(q:Q (.ref S.length,S++[.lst (xs.take k)])):W (wS m mX hi r S) Q:=by
 rw[<- IW]at q;refine W.of ?_ q;unfold wS;rw[hm,oS1];dsimp only;rw[show mX r S=Z (Y,S)from rfl,oS1];dsimp only;rw[a,oS1];simp only[yx,gR h,oP1,if_true]
theorem pT{m:Nat}{w:ew}{e:E4}{F:List (TK×D)}{L:List Rw}{rs cs:List Nat}{Ws:List Wh}{b k j:Nat}{S:Sto}{Q:D×Sto->Prop}(hst:nZ m rs cs)(o:RN e F)(r:RL e (fX F) L)(g:lZ m w e F k Ws)(h0:Ws[0]? = Z (fI rs cs))(hb:b<Ws.length)(c:b<=400)(n:S[j]?=Z (.lst (Ws.map gA)))(f:S.all (Ob.und S.length)=M)(q:Q (.bl M,S)):W (dX 5 fm [webD w,mcD e L,standD rs cs,.ref j,.int b] S) Q:=by
 refine lO O (by simp[D.unds,D.und]) ?_;unfold fm;refine nq ?_;unfold kK;obtain⟨t,h⟩:=x4 (m:=m) (w:=w) (Ws:=Ws.take (b+1)) (λa i=>(g.ok a (cO i)).1) (by rw[aQ];lia);have key:W (wS (mV 3) mX (rS (m2 (b2 fS) (mV 4) (mC (D.int 1)))) [Z (webD w),Z (mcD e L),Z (standD rs cs),Z (.ref j),Z (.int (b:Nat))] S) λp=>p=(.ref S.length,S++[.lst ((Ws.take (b+1)).map gA)]):=by
  refine Hv (k:=b+1) O ?_ n ?_
  ·rfl
  ·rw[List.map_take]
 obtain⟨p,s,rfl⟩:=key;generalize wS (mV 3) mX (rS (m2 (b2 fS) (mV 4) (mC (D.int 1))))=ao at *
 walk_at"w";refine yb hst o r g h0 hb c ?_
 ((try walk_at"w");repeat(simp only[h,s];try walk_at"w"))
 refine eG (xs:=(Ws.take (b+1)).map gA) (by rw[ee];rfl) ?_
 ((try walk_at"w");repeat(simp only[h];try walk_at"w"))
 have l:(t == t)=M:=by simp
 rw[l,zZ (d:=.bl M) O f];exact q
theorem Hz{m:FA}{k:Nat}{r:Ev}{S S1:Sto}{Q:D×Sto->Prop}(hm:m r S=Z ([.int (k:Nat)],S1))(hk:k<=1000)(q:Q (.ref S1.length,S1++[.lst (gB 0 k)])):W (zD m r S) Q:=by
 refine W.of ?_ q;unfold zD;rw[hm,oS1];dsimp only;rw[ak (by
  unfold om;simp only[bA1,al];lia),Int.toNat_natCast]
theorem x9{c:FT}{b:FS}{Q:Fl×Ev×Sto->Prop}(I:Nat->Ev->Sto->Prop)(step:∀k r S,I k r S->W (c r S) fun p=>if p.1=true then 0<k/\W (b r p.2) fun q=>q.1 = .nx/\I (k-1) q.2.1 q.2.2 else Q (.nx,r,p.2)):
  ∀(a k:Nat) (r:Ev) (S:Sto),k<a->I k r S->W (qM c b a r S) Q
 |0,k,r,S,hf,_=>by lia
 |a+1,k,r,S,hf,hi=>by
  rw[qM];dsimp only;rw[d5];obtain⟨⟨t,n⟩,e,h⟩:=step k r S hi;refine⟨_,e,?_⟩;dsimp only at h ⊢;cases t with
  |true=>
   rw[ak O]at h ⊢;obtain⟨m,⟨f,j,i⟩,l,d,g⟩:=h;dsimp only at d g;subst d;rw[l,oS1];exact x9 I step a (k-1) j i (by lia) g
  |false=>
   rw[aj (by decide)]at h ⊢;exact eB.mpr h
theorem zo(rs:List Nat)(i:Nat):(eP rs).eraseIdx i=eP (rs.eraseIdx i):=by
 unfold eP;simp[cM,List.map_take,List.map_drop]
theorem tZ{m most n:Nat}{o:Ob}{T:Sto}{Q:D×Sto->Prop}(X:0<m)(hm:m<=8)(wq:0<most)(P:most<=8)(ho:fY o n)(hn:n<=2^40)(U:T.all (Ob.und (T.length+1))=M)(q:∀rs f o',nZ m rs f->rs≠[]->rs.length<=most->fY o' (n+100)->Q (standD rs f,o'::T)):W (dX 3 ft [.ref 0,.int m,.int most] (o::T)) Q:=by
 refine wa O O U ?_;unfold ft;refine nq ?_;unfold iF;have tl:∀(a b:Ob),(a::(T++[b]))[T.length+1]?=Z b:=λa b=>by rw[gC1,ee];rfl
 have ts:∀(a b c:Ob),(a::(T++[b])).set (T.length+1) c=a::(T++[c]):=λa b c=>by rw[c9,c6 _ _ (nR1 _),cQ];rfl
 refine eF (λr V=>V=o::(T++[.lst (eP (af m))])/\r=[Z (.ref 0),Z (.int (m:Nat)),Z (.int (most:Nat)),Z (.ref (T.length+1)),Y]) ?_ ?_
 ·unfold eh;rw[d5];refine Hz (k:=m) (S1:=o::T) O (by lia) ?_;rw[kd];exact W.of O ⟨O,O,O⟩
 rintro r V ⟨rfl,rfl⟩;refine eF (λr V=>∃rs o',rs≠[]/\rs.length<=most/\rs.length<=m/\(∀x∈rs,x<m)/\fY o' (n+50)/\V=o'::(T++[.lst (eP rs)])/\r=[Z (.ref 0),Z (.int (m:Nat)),Z (.int (most:Nat)),Z (.ref (T.length+1)),Y]) ?_ ?_
 ·refine x9 (λk r V=>∃rs o',rs.length=k+1/\k+1<=m/\(∀x∈rs,x<m)/\fY o' (n+2*(m-(k+1)))/\V=o'::(T++[.lst (eP rs)])/\r=[Z (.ref 0),Z (.int (m:Nat)),Z (.int (most:Nat)),Z (.ref (T.length+1)),Y]) ?_ 100000 (m-1) _ _ (by lia) ⟨af m,o,by rw[dA];lia,by lia,λx H=>aB.mp H,ho.more (by lia),O,O⟩;rintro k r V ⟨rs,au,G,aq,l,u,rfl,rfl⟩;unfold gX;walk_at"w";refine eG (tl au (.lst (eP rs))) ?_;walk_at"w";refine fA u (by lia) (by lia) (by lia) λt C h N=>?_;walk_at"w";rw[jC,G];by_cases z:1+t<k+1
  ·rw[ak (by rw[al];push_cast;lia)];refine⟨by lia,?_⟩;unfold gW fi;rw[d5];refine iG ?_;walk_at"w";refine⟨T.length+1,eP rs,O,tl _ _,?_⟩
   try walk_at"w"
   refine eG (tl C (.lst (eP rs))) ?_
   try walk_at"w"
   rw[jC,G];refine fA h (by lia) (by push_cast;lia) (by push_cast;lia) λi p g hi=>?_
   try walk_at"w"
   have B:i<rs.length:=by rw[G];lia
   refine Fv (xs:=eP rs) (x:=.int (rs[i]'(B):Nat)) (tl _ _) (by unfold eP;rw[gP1,gG1 B];rfl) (by lia) ?_;rw[ts,zo];refine⟨rs.eraseIdx i,p,by rw[cJ B];lia,by lia,λx H=>l x (List.mem_of_mem_eraseIdx H),g.more (by lia),O,trivial⟩
  ·rw[aj (by rw[al];push_cast;lia)];exact⟨rs,C,λz=>(by rw[z]at G;cases G),by lia,by lia,l,h.more (by lia),O,trivial⟩
 rintro r V ⟨rs,au,am,s,S,l,u,rfl,rfl⟩;refine eF (λr V=>∃(a:Nat) (o':Ob),a<2/\fY o' (n+51)/\V=o'::(T++[.lst (eP rs)])/\r=[Z (.ref 0),Z (.int (m:Nat)),Z (.int (most:Nat)),Z (.ref (T.length+1)),Z (.int (a:Nat))]) ?_ ?_
 ·walk_at"w";refine fA u (by lia) (by lia) (by lia) λt C h N=>?_;exact⟨t,C,by lia,h,O,O⟩
 rintro r V ⟨a,C,ha,h,rfl,rfl⟩;walk_at"w";refine eG (tl _ _) ?_;walk_at"w";rw[Int.toNat_natCast];refine⟨fW (by lia),?_⟩;refine jj (λi E r V=>∃f p x,i<=m/\E=eP f/\f.length<=i/\(∀y∈f,y<m)/\fY p (n+51+i)/\V=p::(T++[.lst (eP rs)])/\r=[x,Z (.int (a:Nat)),Z (.ref 0)]) _ 0 [] _ _ ⟨[],C,_,bi _,O,nR1 _,λy w=>(by cases w),h,O,O⟩ (λ_ _ _ _ _=>rfl) ?_ ?_
 ·rintro i d v E r V ⟨f,p,x,hi,rfl,I,j,g,rfl,rfl⟩;have A:=(gE1.mp v).1;rw[fB]at A;rw[bP]at *
  have K:d = .int (i:Nat):=by
   rw[kd,gP1,cN A]at v;exact(Option.some.inj v).symm
  subst K;walk_at"w";refine fA g (by lia) (by lia) (by lia) λt ao F N=>?_;have R:∀L,jp (.int (a:Int)) (.int (t:Int)) L=Z (.int ((a:Int)*(t:Int)),L):=λL=>by
   simp only[jp];rw[ak (oD (by lia) (by lia))]
  ((try walk_at"w");repeat(simp only[R];try walk_at"w"))
  split
  ·exact ⟨f++[i],ao,_,by lia,by simp [eP],by rw [lA1];simp;lia,fun y w=>by
    rcases aG.mp w with w|w
    ·exact j y w
    ·rw[cY.mp w];exact A,F.more (by lia),O,O⟩
  ·exact⟨f,ao,_,by lia,O,by lia,j,F.more (by lia),O,O⟩
 ·rintro xs r V ⟨f,p,x,hi,e,I,j,g,rfl,rfl⟩;rw[c4]at e;subst e;rw[fB,bP]at *
  walk_at"w";refine⟨ea (by rw[jC];lia),?_⟩;refine eG (xs:=eP f) (by rw[gC1,g0];rfl) ?_;exact⟨standD rs f,p,[.lst (eP rs),.lst (eP f)],by simp[standD],gF rs f 0,g.und,q rs f p ⟨by lia,by lia,l,j⟩ am s (g.more (by lia))⟩
theorem wj{f:FN}{n h:Nat}{es:List D}{o:Ob}{S:Sto}{Q:D×Sto->Prop}(hn:es.length+1=n)(he:D.unds 0 es=M)(i:S[h]? = Z o)(ho:o.und 0=M)(q:W (dX n f (.ref 0::es) [o]) λp=>∃o' G,p.2=o'::G/\o'.und 0=M/\(if p.1.und 0=M then G=[]/\Q (p.1,S.set h o')else(p.1.mv h S.length).und S.length=J/\Q (p.1.mv h S.length,S.set h o'++G.map (Ob.mv h S.length)))):W (dX n (apart f) (.ref h::es) S) Q:=by
 obtain⟨⟨d,j⟩,e,o',G,g,c,a⟩:=q;dsimp only at g a;subst g;unfold dX at e ⊢;rw[ak (by simpa using hn)]at e ⊢;have b:D.unds 0 (.ref h::es)=J:=by simp[D.unds,D.und]
 unfold lQ;rw[aj (by rw[b];decide)];unfold apart;dsimp only;rw[ak he,i,oS1,ak ho,e,oS1];dsimp only;rw[ak c];cases hd:d.und 0 with
 |true=>
  rw[hd,ak O]at a;rw[ak O,oP1,gc_same (by simp)];exact⟨_,O,a.2⟩
 |false=>
  rw[hd,aj (by decide)]at a;rw[aj (by decide),oP1];have:gc S.length (d.mv h S.length,S.set h o'++G.map (Ob.mv h S.length))=(d.mv h S.length,S.set h o'++G.map (Ob.mv h S.length)):=by
   unfold gc;rw[a.1];rfl
  rw[this];exact⟨_,O,a.2⟩
mutual
theorem mY{h n:Nat}:∀{d:D},d.und 0=M->d.mv h n=d
 | .non,_=>rfl
 | .bl _,_=>rfl
 | .int _,_=>rfl
 | .str _,_=>rfl
 | .tup xs,q=>by rw[D.und]at q;rw[D.mv,mf q]
 | .rol xs,q=>by rw[D.und]at q;rw[D.mv,mf q]
 | .fn _,_=>rfl
 | .ref k,q=>by simp[D.und]at q
theorem mf{h n:Nat}:∀{ds:List D},D.unds 0 ds=M->D.mvs h n ds=ds
 |[],_=>rfl
 |d::ds,q=>by
  rw[D.unds,bA1]at q;rw[D.mvs,mY q.1,mf q.2]
end
theorem zh{h n:Nat}:∀{o:Ob},o.und 0=M->o.mv h n=o
 | .lst xs,q=>by rw[Ob.und]at q;rw[Ob.mv,mf q]
 | .dct xs,q=>by
  rw[Ob.und]at q;rw[Ob.mv]
  congr 1
  induction xs with
  |nil=>rfl
  |cons p xs ih=>rw[mP1,D.unds,bA1]at q;rw[mP1,mY q.1,ih q.2]
 | .dcT xs,q=>by
  rw[Ob.und]at q;rw[Ob.mv]
  congr 1
  induction xs with
  |nil=>rfl
  |cons p xs ih=>rw[mP1,D.unds,bA1]at q;rw[mP1,mY q.1,ih q.2]
 | .dcF xs,q=>by
  rw[Ob.und]at q;rw[Ob.mv]
  congr 1
  induction xs with
  |nil=>rfl
  |cons p xs ih=>rw[mP1,D.unds,bA1]at q;rw[mP1,mY q.1,ih q.2]
 | .iset _,_=>rfl
 | .tst _,_=>rfl
theorem vr{h n:Nat}:∀{G:Sto},G.all (Ob.und 0)=M->G.map (Ob.mv h n)=G
 |[],_=>rfl
 |o::G,q=>by
  rw[bR,bA1]at q;rw[mP1,zh q.1,vr q.2]
structure eZ where
 m:Nat
 w:ew
 e:E4
 F:List (TK×D)
 L:List Rw
 rs:List Nat
 cs:List Nat
 Ws:List Wh
 k:Nat
 j:Nat
 few:Nat
noncomputable def eZ.d(x:eZ):D:=.tup [webD x.w,mcD x.e x.L,standD x.rs x.cs,.ref x.j,.int x.few]
structure eZ.Ok (x:eZ)(S:Sto):Prop where
 st:nZ x.m x.rs x.cs
 hF:RN x.e x.F
 rl:RL x.e (fX x.F) x.L
 wk:lZ x.m x.w x.e x.F x.k x.Ws
 h0:x.Ws[0]?=some (fI x.rs x.cs)
 lt:x.few<x.Ws.length
 le:x.few<=400
 at_:S[x.j]?=some (.lst (x.Ws.map gA))
theorem eZ.Ok.app{x:eZ}{S G:Sto}(h:x.Ok S):x.Ok (S++G):=⟨h.st,h.hF,h.rl,h.wk,h.h0,h.lt,h.le,by rw[gL1 (gE1.mp h.at_).1];exact h.at_⟩
theorem eZ.Ok.tr{x:eZ}{S S':Sto}(h:x.Ok S)(e:S'[x.j]?=S[x.j]?):x.Ok S':=⟨h.st,h.hF,h.rl,h.wk,h.h0,h.lt,h.le,e.trans h.at_⟩
theorem eZ.und{x:eZ}{S:Sto}(h:x.Ok S){n:Nat}(a:x.j<n):x.d.und n=M:=by
 have h1:=fr (n:=n) (fL x.w);have h2:=fr (n:=n) (mh (e:=x.e) h.rl.ok);have b:=gF x.rs x.cs n;simp[eZ.d,D.und,D.unds,h1,h2,b,a]
theorem yG{n:Nat}{xs:List D}{m:FE}{r:Ev}{S:Sto}(hm:m r S=Z (.ref n,S))(h:S[n]?=Z (.lst xs)):oF m (m1 (b1 sD) (mC (D.int 1))) r S=Z (.ref S.length,S++[.lst xs.reverse]):=by
 unfold oF;rw[hm];have a:m1 (b1 sD) (mC (D.int 1)) r S=Z (.int (-1),S):=rfl;simp[a,DR,gR h]
theorem uL{S:Sto}{n k:Nat}(h:S.all (Ob.und n)=M)(hk:n<=k):S.all (Ob.und k)=M:=by
 rw[bD]at h ⊢;exact λx a=>gJ hk (h x a)
theorem wl{S:Sto}{n i:Nat}{o:Ob}(h:S.all (Ob.und n)=M)(ho:o.und n=M):(S.set i o).all (Ob.und n)=M:=by
 rw[bD]at h ⊢;intro x a;rcases List.mem_or_eq_of_mem_set a with z|z
 ·exact h x z
 ·rw[z];exact ho
noncomputable def kl(KS:List eZ):Ob:=.lst (KS.map eZ.d)
structure St (V:Sto)(KS:List eZ)(h:Nat)(o:Ob):Prop where
 l0:V[0]?=some (kl KS)
 hd:V[h]?=some o
 pos:0<h
 cl:V.all (Ob.und V.length)=true
 ks:∀x∈KS,x.Ok V/\0<x.j/\x.j≠h/\x.j<V.length
theorem St.hand{V:Sto}{KS:List eZ}{h:Nat}{o o':Ob}(s:St V KS h o)(ho:o'.und 0=M):St (V.set h o') KS h o':=by
 have e:=(gE1.mp s.hd).1;have g:=s.pos;refine⟨by rw[gS1 (by lia)];exact s.l0,aI e,g,by rw[aW];exact wl s.cl (gJ (bi _) ho),λx f=>?_⟩;obtain⟨a,b,c,d⟩:=s.ks x f;exact⟨a.tr (gS1 (Ne.symm c)),b,c,by rw[aW];exact d⟩
theorem St.more{V G:Sto}{KS:List eZ}{h:Nat}{o:Ob}(s:St V KS h o)(g:G.all (Ob.und 0)=M):St (V++G) KS h o:=by
 have e:=(gE1.mp s.hd).1;have i:=(gE1.mp s.l0).1;refine⟨by rw[gL1 i];exact s.l0,by rw[gL1 e];exact s.hd,s.pos,?_,λx f=>?_⟩
 ·rw[dz,uL s.cl (by rw[lA1];lia),Hu g];rfl
 ·obtain⟨a,b,c,d⟩:=s.ks x f;exact⟨a.app,b,c,by rw[lA1];lia⟩
theorem St.keep{V:Sto}{KS:List eZ}{h:Nat}{o:Ob}{x:eZ}(s:St V KS h o)(hx:x.Ok V)(h1:0<x.j)(h2:x.j≠h):St (V.set 0 (kl (KS++[x]))) (KS++[x]) h o:=by
 have g:=(gE1.mp s.l0).1;have i:=s.pos;have f:=(gE1.mp hx.at_).1;have all:∀y∈KS++[x],y.Ok V/\0<y.j/\y.j≠h/\y.j<V.length:=λy e=>by
  rcases aG.mp e with e|e
  ·exact s.ks y e
  ·rw[cY.mp e];exact⟨hx,h1,h2,f⟩
 refine⟨aI g,by rw[gS1 (by lia)];exact s.hd,i,?_,λy e=>?_⟩
 ·rw[aW];refine wl s.cl ?_;unfold kl;rw[Ob.und];exact Mi.eK λy e=>eZ.und (all y e).1 (all y e).2.2.2
 ·obtain⟨a,b,c,d⟩:=all y e;exact⟨a.tr (gS1 (by lia)),b,c,by rw[aW];exact d⟩
theorem kN{f:FN}{n h:Nat}{es:List D}{o:Ob}{S:Sto}{Q:D×Sto->Prop}(hn:es.length+1=n)(he:D.unds 0 es=M)(b:S[h]? = Z o)(ho:o.und 0=M)(q:W (dX n f (.ref 0::es) [o]) λp=>∃o',p.2=[o']/\o'.und 0=M/\p.1.und 0=M/\Q (p.1,S.set h o')):W (dX n (apart f) (.ref h::es) S) Q:=
 wj hn he b ho (q.mono λp ⟨o',e,h1,h2,a⟩=>⟨o',[],e,h1,by rw[ak h2];exact⟨O,a⟩⟩)
theorem pJ{h n:Nat}{k:Int}{o:Ob}{S:Sto}{Q:D×Sto->Prop}(e:S[h]? = Z o)(ho:fY o n)(hn:n<=2^50)(hk:0<k)(b:k<1073741824)(q:∀(d:Nat) o',fY o' (n+1)->(d:Int)<k->Q (.int d,S.set h o')):W (dX 2 (apart dV) [.ref h,.int k] S) Q:=by
 refine kN O O e ho.und ?_;refine fA ho hn hk b λd o' a c=>?_;exact⟨o',O,a.und,O,q d o' a c⟩
theorem sM{m:Nat}{w:ew}{e:E4}{rs cs:List Nat}{o:Ob}{n b h:Nat}{KS:List eZ}{V:Sto}{Q:D×Sto->Prop}(s:St V KS h o)(hw:nH m w)(hm:m<=8)(hst:nZ m rs cs)(ho:fY o n)(hn:n<=2^35)(hb:b<=400)(d:b*rs.length<=3000)(q:∀F L c o' f,RN e F->RL e (fX F) L->lZ m w e F rs.length c->c.length=b+1->c[0]?=some (fI rs cs)->fY o' (n+100*b)->St f KS h o'->f[V.length+2]?=some (.lst (c.map gA))->Q (.tup [mcD e L,.ref (V.length+2)],f)):
  W (dX 5 (apart eH) [.ref h,webD w,eyD e,standD rs cs,.int b] V) Q:=by
 refine wj O (by simp[D.unds,fL,kB,gF];rfl) s.hd ho.und ?_;refine Cu hw hm hst ho hn hb d λF L c o' G r k l i g a j h2=>?_;refine⟨o',G,O,a.und,?_⟩;have t:(D.tup [mcD e L,.ref 3]).und 0=J:=by simp[D.und,D.unds]
 rw[t,aj (by decide)];have u:=(gE1.mp s.hd).1;have p:(D.tup [mcD e L,.ref 3]).mv h V.length = .tup [mcD e L,.ref (V.length+2)]:=by
  rw[D.mv,D.mvs,D.mvs,D.mvs,mY (mh k.ok)];rfl
 rw[p,vr j];refine⟨by simp[D.und,D.unds],?_⟩;refine q F L c o' (V.set h o'++G) r k l i g a ((s.hand a.und).more j) ?_;rw[gR1 (by rw[aW];lia),aW,show V.length+2-V.length=2 by lia];exact h2
structure tE (V:Sto)(KS:List eZ):Prop where
 l0:V[0]?=some (kl KS)
 cl:V.all (Ob.und V.length)=true
 ks:∀x∈KS,x.Ok V/\0<x.j/\x.j<V.length
theorem St.base{V:Sto}{KS:List eZ}{h:Nat}{o:Ob}(s:St V KS h o):tE V KS:=⟨s.l0,s.cl,λx a=>⟨(s.ks x a).1,(s.ks x a).2.1,(s.ks x a).2.2.2⟩⟩
theorem tE.hand{V:Sto}{KS:List eZ}{o:Ob}(s:tE V KS)(ho:o.und 0=M):St (V++[o]) KS V.length o:=by
 have e:=(gE1.mp s.l0).1;refine⟨by rw[gL1 e];exact s.l0,by rw[ee];rfl,by lia,?_,λx d=>?_⟩
 ·rw[dz,uL s.cl (by rw[lA1];lia),bR,gJ (bi _) ho];rfl
 ·obtain⟨a,b,c⟩:=s.ks x d;exact⟨a.app,b,by lia,by rw[lA1];lia⟩
theorem Ch(ns:List Int)(k:Int)(h0:0<=k)(hk:k<63){S:Sto}{Q:D×Sto->Prop}(q:∀o,fY o 0->Q (.ref S.length,S++[o])):W (dX 2 fC [.rol (ns.map D.int),.int k] S) Q:=by
 obtain⟨g,m,e⟩:=zX ns k h0 hk;refine⟨_,sY (n:=2) e O (by rw[D.unds,D.und,n9];rfl) (by simp[D.und]),?_⟩;have:=q (hnd g m 0) ⟨_,_,_,O,Int.le_refl _,Int.le_refl _⟩;simpa[D.sh,Ob.sh,D.shs,hnd]using this
theorem Fu{m:Nat}(hm:m<=8){rs cs:List Nat}(h:nZ m rs cs):nZ m (af m) cs:=⟨by rw[dA];exact hm,h.cl,λr a=>aB.mp a,h.cs⟩
noncomputable def rT(N:D)(k:Int)(y3 y4 y5 y6 y7 y8 y9:Option D)(y10:Option D):Ev:=[Z N,Z (.ref 0),Z (.int k),y3,y4,y5,y6,y7,y8,y9,y10]
theorem Ds(ns:List Int)(k:Int)(h0:0<=k)(hk:k<63){S:Sto}{KS:List eZ}{y3 y4 y5 y6 y7 y8 y9 y10:Option D}(s:tE S KS)(hKS:KS.length<=50):
  W (pY (rT (.rol (ns.map D.int)) k y3 y4 y5 y6 y7 y8 y9 y10) S) λp=>p.1 = .nx /\ ∃KS' z3 z4 z5 z6 z7 z8 z9,tE p.2.2 KS'/\KS'.length=KS.length+2/\p.2.1=rT (.rol (ns.map D.int)) k z3 z4 z5 z6 z7 z8 z9 y10:=by
 unfold pY;have hN:=λ{S:Sto} {Q} q=>Ch ns k h0 hk (S:=S) (Q:=Q) q;generalize hNe:D.rol (ns.map D.int)=N at *
 have hlt0:=(gE1.mp s.l0).1;refine eF (λr V=>∃o,fY o 0/\St V KS S.length o/\r=rT N k (Z (.ref S.length)) y4 y5 y6 y7 y8 y9 y10) ?_ ?_
 ·unfold rT;walk_at"w";refine hN λo i=>?_;exact⟨o,i,s.hand i.und,O⟩
 rintro r V ⟨o,i,g,rfl⟩;generalize S.length=h at *
 refine eF (λr V=>∃(m:Nat) (w:ew) (e:E4) (o:Ob),0<m/\m<=8/\nH m w/\fY o 200/\St V KS h o/\r=rT N k (Z (.ref h)) (Z (webD w)) (Z (eyD e)) y6 y7 y8 y9 y10) ?_ ?_
 ·unfold rT;walk_at"w";refine kN O O g.hd i.und ?_;refine FW (T:=[]) i (by lia) O λm w y R aq wq f=>?_;refine⟨y,O,f.und,fL w,?_⟩;have n:=g.hand f.und;walk_at"w";refine kN O O n.hd f.und ?_;refine Fd (T:=[]) f (by lia) O λa b c d o3 K=>?_;refine⟨o3,O,K.und,kB (a,b,c,d),?_⟩;have z:=n.hand K.und;exact⟨m,w,(a,b,c,d),o3,R,aq,wq,K.more (by lia),z,O⟩
 rintro r V ⟨m,w,e,o,R,aq,wq,i,g,rfl⟩;refine eF (λr V=>∃(rs u:List Nat) (o:Ob),nZ m rs u/\rs≠[]/\rs.length<=4/\fY o 400/\St V KS h o/\r=rT N k (Z (.ref h)) (Z (webD w)) (Z (eyD e)) (Z (standD rs u)) y7 y8 y9 y10) ?_ ?_
 ·unfold rT
  ((try walk_at"w");repeat(simp only[qi];try walk_at"w"))
  rw[wq.len];refine kN O O g.hd i.und ?_;refine tZ (T:=[]) (most:=4) R aq (by lia) (by lia) i (by lia) O λrs u y A hne hl f=>?_;refine⟨y,O,f.und,gF rs u 0,?_⟩;exact⟨rs,u,y,A,hne,hl,f.more (by lia),g.hand f.und,O⟩
 rintro r V ⟨rs,u,o,A,hne,hrl,i,g,rfl⟩;refine eF (λr V=>∃(b:Nat) (o:Ob),b<=400/\fY o 401/\St V KS h o/\r=rT N k (Z (.ref h)) (Z (webD w)) (Z (eyD e)) (Z (standD rs u)) (Z (.int (b:Nat))) y8 y9 y10) ?_ ?_
 ·unfold rT;walk_at"w";refine pJ g.hd i (by lia) (by lia) (by lia) λt y f ht=>?_;exact⟨t,y,by lia,f,g.hand f.und,O⟩
 rintro r V ⟨b,o,hb,i,g,rfl⟩;refine eF (λr V=>∃(b:Nat) (o:Ob),b<=400/\fY o 402/\St V KS h o/\r=rT N k (Z (.ref h)) (Z (webD w)) (Z (eyD e)) (Z (standD rs u)) (Z (.int (b:Nat))) y8 y9 y10) ?_ ?_
 ·unfold rT;walk_at"w";split
  ·refine pJ g.hd i (by lia) (by lia) (by lia) λt y f ht=>?_;walk_at"w";split
   ·exact⟨400,y,by lia,f,g.hand f.und,O⟩
   ·exact⟨b,y,hb,f,g.hand f.und,O⟩
  ·exact⟨b,o,hb,i.more (by lia),g,O⟩
 rintro r V ⟨b,o,hb,i,g,rfl⟩;have hlim:b*rs.length<=3000:=aC (Nat.mul_le_mul hb hrl) (by decide)
 -- the first walk
 refine eF (λr V=>∃F L l j o,RN e F/\RL e (fX F) L/\lZ m w e F rs.length l/\l.length=b+1/\l[0]?=Z (fI rs u)/\fY o 50000/\St V KS h o/\V[j]?=Z (.lst (l.map gA))/\0<j/\j≠h/\r=rT N k (Z (.ref h)) (Z (webD w)) (Z (eyD e)) (Z (standD rs u)) (Z (.int (b:Nat))) (Z (mcD e L)) (Z (.ref j)) y10) ?_ ?_
 ·unfold rT;walk_at"w";refine sM g wq aq A i (by lia) hb hlim λF L l y V2 I am G B v f n X=>?_;walk_at"w";have hlt:=(gE1.mp g.hd).1;exact⟨F,L,l,_,y,I,am,G,B,v,f.more (by lia),n,X,by lia,by lia,O⟩
 rintro r V ⟨F,L,l,j,o,I,am,G,B,v,i,g,hj,U,C,rfl⟩;refine eF (λr V'=>V'=V/\r=rT N k (Z (.ref h)) (Z (webD w)) (Z (eyD e)) (Z (standD rs u)) (Z (.int (b:Nat))) (Z (mcD e L)) (Z (.ref j)) y10) ?_ ?_
 ·unfold rT;walk_at"w";refine pT A I am G v (by lia) hb hj g.cl ?_;walk_at"w"
 rintro r V' ⟨rfl,rfl⟩;refine eF (λr V=>∃E o,E.length=KS.length+1/\fY o 50001/\St V E h o/\r=rT N k (Z (.ref h)) (Z (webD w)) (Z (eyD e)) (Z (standD rs u)) (Z (.int (b:Nat))) (Z (mcD e L)) (Z (.ref j)) y10) ?_ ?_
 ·unfold rT fi;rw[d5];refine iG ?_;walk_at"w";refine⟨0,_,O,g.l0,?_⟩
  try walk_at"w"
  rw[show((b:Int)+1)=((b+1:Nat):Int) by push_cast;rfl];refine pJ g.hd i (by lia) (by push_cast;lia) (by push_cast;lia) λt y f ht=>?_
  try walk_at"w"
  have n:=g.hand f.und;refine(lT n.l0).mpr ⟨ea (by rw[lM1];lia),?_⟩;have hj2:(V'.set h y)[j]?=Z (.lst (l.map gA)):=by rw[gS1 (Ne.symm C)];exact hj
  have z:=n.keep (x:=⟨m,w,e,F,L,rs,u,l,rs.length,j,t⟩) ⟨A,I,am,G,v,by show t<l.length;push_cast at ht;lia,by show t<=400;push_cast at ht;lia,hj2⟩ U C;unfold kl at z;rw[cG]at z;exact⟨_,y,by rw[lA1];rfl,f,z,trivial⟩
 rintro r V ⟨E,o,hK1,i,g,rfl⟩
 -- a walker in each room
 refine eF (λr V'=>V'=V/\r=rT N k (Z (.ref h)) (Z (webD w)) (Z (eyD e)) (Z (standD (af m) u)) (Z (.int (b:Nat))) (Z (mcD e L)) (Z (.ref j)) y10) ?_ ?_
 ·have et:∀ r V,zB (dS (mN (b1 eS) (dS (mV 4) dU)) dU) (rT N k (some (.ref h)) (some (webD w)) (some (eyD e)) (some (standD rs u)) (some (.int (b:Nat))) (some (mcD e L)) r y10) V=some (.tup (eP (List.range m)),V):=fun r V=>by
   have e1:dS (mN (b1 eS) (dS (mV 4) dU)) dU (rT N k (Z (.ref h)) (Z (webD w)) (Z (eyD e)) (Z (standD rs u)) (Z (.int (b:Nat))) (Z (mcD e L)) r y10) V=Z ([.int (m:Nat)],V):=by
    simp only[rT,dS,dU,mN,mV,b1,gC1,dk,oS1,qi,wq.len]
   unfold zB;rw[e1,oS1];dsimp only;rw[ak (by
    unfold om;simp only[bA1,al];lia),Int.toNat_natCast,kd]
   rfl
  have e2:=et (Z (.ref j)) V;unfold rT at e2 ⊢;generalize zB (dS (mN (b1 eS) (dS (mV 4) dU)) dU)=ao at *
  ((try walk_at"w");repeat(simp only[e2,yt];try walk_at"w"))
  rfl
 rintro r V' ⟨rfl,rfl⟩;have H:=Fu aq A;have au:8*(af m).length<=3000:=by rw[dA];lia
 refine eF (λr V=>∃F L l j o,RN e F/\RL e (fX F) L/\lZ m w e F (af m).length l/\l.length=9/\l[0]?=Z (fI (af m) u)/\fY o 60000/\St V E h o/\V[j]?=Z (.lst (l.map gA))/\0<j/\j≠h/\r=rT N k (Z (.ref h)) (Z (webD w)) (Z (eyD e)) (Z (standD (af m) u)) (Z (.int (b:Nat))) (Z (mcD e L)) (Z (.ref j)) y10) ?_ ?_
 ·unfold rT;walk_at"w";refine sM (b:=8) g wq aq H i (by lia) (by lia) au λF L l y V2 I am G B v f n X=>?_;walk_at"w";have hlt:=(gE1.mp g.hd).1;exact⟨F,L,l,_,y,I,am,G,B,v,f.more (by lia),n,X,by lia,by lia,O⟩
 rintro r V ⟨F,L,l,j,o,I,am,G,B,v,i,g,hj,U,C,rfl⟩;unfold rT fi;rw[d5];refine iG ?_;walk_at"w";refine⟨0,_,O,g.l0,?_⟩
 try walk_at"w"
 refine(lT g.l0).mpr ⟨ea (by rw[lM1];lia),?_⟩;have z:=g.keep (x:=⟨m,w,e,F,L,af m,u,l,(af m).length,j,8⟩) ⟨H,I,am,G,v,by show 8<l.length;lia,by show 8<=400;lia,hj⟩ U C;have P:=z.base;unfold kl at P;rw[cG]at P;exact⟨_,_,_,_,_,_,_,_,P,by rw[lA1,hK1];rfl,O⟩
theorem eZ.few0{x:eZ}{S:Sto}(h:x.Ok S):0<x.Ws.length:=by
 have:=h.lt;lia
theorem CL{N:D}{x:eZ}{S:Sto}{c y3 y4 y5 y6 y7 y8 y9 y10:Option D}{Q:Fl×Ev×Sto->Prop}(h:x.Ok S)(a:S.all (Ob.und S.length)=true)(q:Q (.nx,[some N,some (.ref 0),c,y3,some (webD x.w),y5,some (standD x.rs x.cs),y7,some (mcD x.e x.L),some (.ref x.j),some (.int x.few)],S)):
  W (pX [Z N,Z (.ref 0),c,y3,Z (webD x.w),y5,Z (standD x.rs x.cs),y7,Z (mcD x.e x.L),Z (.ref x.j),Z (.int x.few)] S) Q:=by
 unfold pX;walk_at"w";refine pT h.st h.hF h.rl h.wk h.h0 h.lt h.le h.at_ a ?_;walk_at"w";refine pT (b:=0) h.st h.hF h.rl h.wk h.h0 (eZ.few0 h) (bi _) h.at_ a ?_;walk_at"w";exact q
theorem truth(ns:List Int)(hl:ns.length<=63):∃S,m_law [.rol (ns.map D.int)] []=Z (.bl M,S):=by
 have key:W (m_law [.rol (ns.map D.int)] []) λp=>p.1 = .bl M:=by
  unfold m_law;refine nq ?_;unfold AE;have ht:=λk H hk S KS o m q v l u n z s T=>Ds ns k H hk (S:=S) (KS:=KS) (y3:=o) (y4:=m) (y5:=q) (y6:=v) (y7:=l) (y8:=u) (y9:=n) (y10:=z) s T;generalize aq:D.rol (ns.map D.int)=N at *
  have E:∀S,eS N S=Z (.int ns.length,S):=λS=>by rw[<- aq];simp[eS,d6]
  have b0:tE [kl []] []:=⟨O,O,λx j=>by cases j⟩;refine eF (λr S=>S=[kl []]/\r=[Z N,Z (.ref 0),Y,Y,Y,Y,Y,Y,Y,Y,Y]) ?_ ?_
  ·walk_at"w";exact⟨O,trivial⟩
  rintro r S ⟨rfl,rfl⟩;refine eF (λr S=>∃KS w o m q v l u n,tE S KS/\KS.length<=20/\r=[Z N,Z (.ref 0),w,o,m,q,v,l,u,n,Y]) ?_ ?_
  ·simp only [iU,d5,Df,dS,mN,mC,mV,dU,b1,b2,Ck,Cj,E,eB,oS1,dk,Gi];have hb:∃ t:Nat,t<=4/\(if (if (ns.length:Int)<4 then (ns.length:Int) else 4)>1 then (if (ns.length:Int)<4 then (ns.length:Int) else 4) else 1)=(t:Int):=by
    by_cases h1:(ns.length:Int)<4
    ·rw[ak h1];by_cases h2:(ns.length:Int)>1
     ·rw[ak h2];exact⟨ns.length,by lia,O⟩
     ·rw[aj h2];exact⟨1,by lia,O⟩
    ·rw[aj h1];exact⟨4,by lia,by decide⟩
   obtain⟨t,t1,te⟩:=hb;rw[te,Int.toNat_natCast];refine⟨fW (by lia),?_⟩;refine fV (λi r S=>∃KS w o m q v l u n,i<=t/\tE S KS/\KS.length=2*i/\r=[Z N,Z (.ref 0),w,o,m,q,v,l,u,n,Y]) _ 0 _ _ ⟨[],_,_,_,_,_,_,_,_,bi _,b0,O,O⟩ (λ_ _ _ _=>rfl) ?_ ?_
   ·rintro i d C r S ⟨KS,w,o,m,q,v,l,u,n,hi,y,K,rfl⟩;have P:=(gE1.mp C).1;rw[fB]at P;obtain⟨k,e,X,k1⟩:=r4 (gM1 C);subst e;simp only[gN,c9,c7,eB];refine(ht k X (by lia) S KS o m q v l u n Y y (by lia)).mono ?_;rintro⟨f,r2,A⟩ ⟨hf,au,z3,z4,z5,z6,z7,z8,z9,L,U,hr⟩;exact⟨hf,au,_,_,_,_,_,_,_,_,by lia,L,by lia,hr⟩
   ·rintro r S ⟨KS,w,o,m,q,v,l,u,n,hi,y,K,rfl⟩;rw[fB,bP]at K;exact⟨O,KS,_,_,_,_,_,_,_,_,y,by lia,O⟩
  rintro r S ⟨KS,w,o,m,q,v,l,u,n,y,K,rfl⟩;refine eF (λr S=>True) ?_ λr S _=>?_
  ·have F:oF (mV 1) (m1 (b1 sD) (mC (D.int 1))) [Z N,Z (.ref 0),w,o,m,q,v,l,u,n,Y] S=Z (.ref S.length,S++[.lst (KS.reverse.map eZ.d)]):=by rw[List.map_reverse];exact yG O y.l0
   generalize oF (mV 1) (m1 (b1 sD) (mC (D.int 1)))=ao at *
   have H:=(gE1.mp y.l0).1
   ((try walk_at"w");repeat(simp only[F];try walk_at"w"))
   refine(AL (S:=S++[.lst (KS.reverse.map eZ.d)]) (a:=0) (b:=S.length) (xs:=KS.map eZ.d) (ys:=KS.reverse.map eZ.d) (by rw[gL1 H];exact y.l0) (by rw[ee];rfl)).mpr ⟨ea (by rw[lM1,lM1,cc];lia),?_⟩;generalize B:S++[Ob.lst (KS.reverse.map eZ.d)]=A;have l2:A.length=S.length+1:=by rw[<- B];simp
   rw[<- cG];refine eG (xs:=(KS++KS.reverse).map eZ.d) (by rw[ee];rfl) ?_;have g:∀x∈KS++KS.reverse,x.Ok S/\x.j<S.length:=λx j=>by
    have:x∈KS:=by
     rcases aG.mp j with j|j
     ·exact j
     ·exact cZ.mp j
    obtain⟨a,b,c⟩:=y.ks x this;exact⟨a,c⟩
   have I:(A++[Ob.lst ((KS++KS.reverse).map eZ.d)]).all (Ob.und (A++[Ob.lst ((KS++KS.reverse).map eZ.d)]).length)=M:=by
    have Q:(A++[Ob.lst ((KS++KS.reverse).map eZ.d)]).length=S.length+2:=by rw[lA1,l2];rfl
    rw[Q,<- B,dz,dz,uL y.cl (by lia),bR,bR,Ob.und,Ob.und];rw[Mi.eK λx j=>eZ.und (g x (mA1 _ j)).1 (nL1 (g x (mA1 _ j)).2 (by lia))];rw[Mi.eK λx j=>eZ.und (g x j).1 (nL1 (g x j).2 (by lia))];rfl
   refine fV (λ_ r V=>V=A++[Ob.lst ((KS++KS.reverse).map eZ.d)] /\ ∃w o m q v l u n z,r=[Z N,Z (.ref 0),w,o,m,q,v,l,u,n,z]) _ 0 _ _ ⟨O,_,_,_,_,_,_,_,_,_,O⟩ (λi r V ⟨wq,_⟩=>by rw[wq];exact gY (by rw[ee];rfl)) ?_ ?_
   ·rintro i d C r V ⟨rfl,w,o,m,q,v,l,u,n,z,rfl⟩;rw [gP1] at C;obtain ⟨x,j,rfl⟩:=oM1.mp C;have R:=gM1 j;have am:x.Ok (A++[Ob.lst ((KS++KS.reverse).map eZ.d)]):=by
     have:=((g x R).1.app (G:=[Ob.lst (KS.reverse.map eZ.d)])).app (G:=[Ob.lst ((KS++KS.reverse).map eZ.d)]);rw[B]at this;exact this
    unfold eZ.d;walk_at"w";refine CL (N:=N) (x:=x) (y4:=Y) (y6:=Y) (y8:=Y) (y9:=Y) (y10:=Y) am I ?_;exact⟨O,O,_,_,_,_,_,_,_,_,_,O⟩
   ·rintro r V _;exact⟨O,trivial⟩
  ·simp only[fu,mC,oS1,eB]
 obtain⟨⟨d,S⟩,e,h⟩:=key;dsimp only at h;exact⟨S,by rw[e,h]⟩
end Law
end
open PySem PySem.W PyProof.Rows
def PySem.W.Fast.tw4999061688297468396 := ()
def PySem.W.Fast.tw5741004646648137022 := ()
def PySem.W.Fast.tw692038153526556261 := ()
def PySem.W.Fast.tw11490495611758083818 := ()
def PySem.W.Fast.tw10952992173730377829 := ()
def PySem.W.Fast.tw14581450743447364967 := ()
def PySem.W.Fast.tw797207266609385253 := ()
def PySem.W.Fast.tw12445355992054274995 := ()
def PySem.W.Fast.tw8123735566611741241 := ()
def PySem.W.Fast.tw8427730532448187990 := ()
def PySem.W.Fast.tw8551221025001127378 := ()
def PySem.W.Fast.tw7537683702567123189 := ()
def PySem.W.Fast.tw4318891598507507119 := ()
def PySem.W.Fast.tw14794281728639527909 := ()
def PySem.W.Fast.tw8103771644022490751 := ()
def PySem.W.Fast.tw12355193953682293884 := ()
def PySem.W.Fast.tw17767200751961297477 := ()
def PySem.W.Fast.tw8568238245588563111 := ()
def PySem.W.Fast.tw7953791366081688183 := ()
def PySem.W.Fast.tw3989680893249320897 := ()
def PySem.W.Fast.tw10409416149887591971 := ()
def PySem.W.Fast.tw3642065140959534443 := ()
def PySem.W.Fast.tw7961566579425785501 := ()
def PySem.W.Fast.tw2107801234347726696 := ()
def PySem.W.Fast.tw12547610067552035612 := ()
def PySem.W.Fast.tw15502935095165618860 := ()
def PySem.W.Fast.tw1076456462629169691 := ()
def PySem.W.Fast.tw17690777460726684403 := ()
def PySem.W.Fast.tw4625026211388130844 := ()
def PySem.W.Fast.tw3455010843011753960 := ()
def PySem.W.Fast.tw12224948288365800977 := ()
def PySem.W.Fast.tw15596483287178601411 := ()
def PySem.W.Fast.tw7709587239128205486 := ()
def PySem.W.Fast.tw17797175339239187502 := ()
def PySem.W.Fast.tw11010700299555698822 := ()
def PySem.W.Fast.tw7004518565932087754 := ()
def PySem.W.Fast.tw17580546285605046876 := ()
def PySem.W.Fast.tw17203981645000191606 := ()
def PySem.W.Fast.tw3640332171916727932 := ()
def PySem.W.Fast.tw2288508946567809354 := ()
def PySem.W.Fast.tw4510010588444444597 := ()
def PySem.W.Fast.tw2146043302846292155 := ()
def PySem.W.Fast.tw7487416553920852208 := ()
def PySem.W.Fast.tw12104685067892235426 := ()
def PySem.W.Fast.tw14395185271001827282 := ()
def PySem.W.Fast.tw10506105913295336634 := ()
def PySem.W.Fast.tw9393637155943274064 := ()
def PySem.W.Fast.tw16358539850915413906 := ()
def PySem.W.Fast.tw9611269451072282752 := ()
def PySem.W.Fast.tw1029330900289788169 := ()
def PySem.W.Fast.tw1835681530004249726 := ()
set_option maxRecDepth 100000 in
set_option maxHeartbeats 0 in
theorem PySem.Challenge.cw_ringmeet_k29_walks_by_beats_holds : PySem.Challenge.rw_ringmeet_k29_walks_by_beats.Holds := by
 w_on;refine PySem.W.holds_law (by decide+kernel) fun d=>?_;k_head;(case hw=>w_witness2)
 k_fill
 refine Mi.walk_m (l:=PySem.Challenge.rw_ringmeet_k29_walks_by_beats) (m:=Law.m_law) (k:=6) (x:="_law_script") rfl rfl ⟨rfl,by decide,by decide,rfl⟩ (fun w h Y=>PySem.W.kIn_of Y) Law.truth ?F
 case F=>
  intro w mg f h e G b;refine' Law.all_mk e G b ?a1 ?a2 ?a3 ?a4 ?a5 ?a6 ?a7 ?a8 ?a9 ?a10 ?a11 ?a12 ?a13 ?a14 ?a15 ?a16 ?a17 ?a18 ?a19 ?a20 ?a21 ?a22 ?a23 ?a24 ?a25 ?e_PARTS ?h1 ?h2 ?h5 ?h8 ?h11 ?z
  all_goals try (refine' Mi.Hd ?a ?l ?c ?k;(case a=>k_is);(case l=>k_is);(case c=>k_is);(case k=>k_is))
  (case e_PARTS=>k_is)
  (case h1=>k_is)
  (case h2=>k_is)
  (case h5=>k_is)
  (case h8=>k_is)
  (case h11=>k_is)
  (case z=>exact ⟨by k_is,by k_is,by k_is,by k_is,by k_is,by k_is,by k_is,by k_is,by k_is,by k_is,by k_is,by k_is,by k_is,trivial⟩)

