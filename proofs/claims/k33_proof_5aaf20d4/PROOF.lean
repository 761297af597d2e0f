import PyProof.Rows.All
import Wide.All
import OpenK.AllK
import Wide.FinOn
import Lean
import PyProof.EqAt
import PyProof.EqKinds
import PyProof.TupleCall
import PySem.Challenge.RW_ringmeet_k33_marking_first
set_option Elab.async false
set_option compiler.extract_closed false
set_option linter.all false
set_option maxRecDepth 100000
set_option maxHeartbeats 4000000
open List renaming getElem?_eq_some_iff → gE1, getElem?_append_left → gL1, getElem?_eq_getElem → gG1, mem_of_getElem? → gM1, getElem?_set_ne → gS1, length_append → lA1, length_map → lM1, getElem?_cons_succ → gC1, mem_cons_of_mem → mC1, mem_cons_self → mS1, getElem?_map → gP1, getElem?_append_right → gR1, size_toArray → sT1, map_cons → mP1, length_cons → lC1, length_replicate → lR1, mem_append_right → mA1
open Option renaming bind_eq_some_iff → oB1, map_eq_some_iff → oM1, bind_some → oS1, map_some → oP1
open Nat renaming le_refl → nR1, lt_of_lt_of_le → nL1, ne_of_lt → nN1, ne_of_gt → nG1
open Bool renaming and_eq_true → bA1, false_eq_true → bF1
open Array renaming getElem?_eq_getElem → aG1, getElem?_toList → aT1
open PySem.W renaming Frag → Fg1, nsIn → wN1, keepIn → wK1, codeIn → wC1, fnOf → wF1, mg_of → wM1
open PySem.Heap renaming get?_push_of_some → hP1, get?_push_size → hS1, lt_size → hL1, size_push → hZ1, get?_update_ne → hU1, get?_update_self → hW1
open PySem renaming wpAny_bind → wB1, wpAny_pure → wP1, wpAny_setField_rec → wS1, wpAny_newObj_type → wO1, codeAny_builtin → wD1, wpAny_call_entry → wE1
open List renaming take_nil → av, drop_nil → aw, mem_filter → aA, mem_range → aB, filterMap_cons → aE, mem_cons → aF, mem_append → aG, mem_append_left → aH, getElem?_set_self → aI, mem_filterMap → aL, append_nil → aN, nodup_cons → aO, replicate → aP, length_take → aR, getElem?_replicate → aS, getElem?_take_of_lt → aT, take_sublist → aU, length_drop → aV, length_set → aW, length_singleton → aY, map_nil → aZ, find?_cons → bc, any_cons → bd, length_nil → bf, cons_append → bj, prefix_rfl → bn, nodup_nil → bo, getElem?_of_mem → bq, map_map → bu, prefix_append → bv, nodup_append → bA, all_eq_true → bC, drop_drop → bE, forIn_cons → bF, lookup_cons → bG, append_assoc → bH, getD_eq_getElem?_getD → bK, zipIdx_cons → bL, not_mem_nil → bM, all_cons → bP, any_eq_true → bR, getElem_mem → bS, zip_cons_cons → bT, drop_eq_getElem_cons → bU, cons_prefix_cons → bW, drop_zero → bX, take_length → bY, ext_getElem? → bZ, getElem?_eq_none → b4, findIdx?_eq_some_iff_getElem → b6, take_of_length_le → b8, foldl_cons → b9, pairwise_cons → ca, mem_map → cc, getElem?_toArray → cg, mapM_toArray → cj, all_toArray → ck, length_eq_zero_iff → cm, take_succ → cr, map_append → cu, pairwise_iff_getElem → cw, pairwise_append → cB, getElem?_drop → cC, drop_sublist → cD, pairwise_lt_range → cE, length_eraseIdx_of_lt → cF, take_append_drop → cG, eraseIdx_eq_take_drop_succ → cH, getElem?_range → cI, mem_of_mem_take → cJ, mem_of_mem_drop → cK, contains_iff_mem → cN, forall_mem_nil → cO, perm_append_comm → cP, take_succ_cons → cQ, take_zero → cR, extract_eq_take_drop → cT, mem_singleton → cU, mem_reverse → cV, nil_append → cW, set_append_right → cZ, set_cons_zero → c0, flatten_cons → c5, set_cons_succ → c6, length_pos_iff → c7, flatten_append → c8, take_left → c9, map_congr_left → db, filter_cons → de, pairwise_map → df, getElem?_cons_zero → dg, length_filter_le → di, zipWith → dk, zipWith_cons_cons → dq, mem_of_find?_eq_some → dr, length_range → dw, all_append → dy, mem_flatMap → dz
open Option renaming some → ay, isSome_iff_exists → aQ, isSome_map → bg, getD_some → b7
open Nat renaming lt_irrefl → az, le_trans → aC, le_of_lt → aD, le_succ → aX, le_of_not_lt → a0, lt_trans → bh, zero_le → bi, add_assoc → bm, le_add_right → br, add_sub_cancel_left → bt, not_lt_zero → bw, min_eq_left → bB, lt_succ_self → bD, lt_of_le_of_lt → bI, le_of_succ_le → bJ, lt_or_ge → bV, lt_succ_of_lt → cv, sub_self → cM, zero_add → cY, mul_le_mul_right → dj, lt_succ_of_le → dA
open Array renaming length_toList → aJ, mem_toList_iff → aM, perm_iff_toList_perm → cb, mem_of_getElem? → cf, getElem?_eq_none → cp, toList_push → cq, toList_append → cy, toList_extract → cA, getElem_mem → cS, toList_reverse → cX
open Bool renaming false_ne_true → aK, and_true → bN, or_eq_true → bO, eq_iff_iff → bQ, not_true → b5, not_false → ci, and_self → da
open PySem renaming Value → dB, Shared → dD, Addr → dE, Program → dF, Around → dG, World → dH, mainGlobals → dI, starEach → dJ, sizeLine → dL, wpAny → dM, codeAny → dN, Heap → dP, FuncData → dQ, Stmt → dR, Scope → dS
open Option renaming some → Z, none → Y
open Bool renaming true → M, false → J
theorem Mi.O{α}{a:α}:a=a:=rfl
open Mi (O)
theorem Mi.al{p:Prop}[Decidable p]:(decide p=true)=p:=decide_eq_true_eq
theorem Mi.ak{c:Prop}{h:Decidable c}(a:c){α:Sort _}{t e:α}:ite c t e=t:=if_pos a
theorem Mi.aj{c:Prop}{h:Decidable c}(a:¬c){α:Sort _}{t e:α}:ite c t e=e:=if_neg a
theorem Mi.ai{p:Prop}[Decidable p]:¬p→decide p=false:=decide_eq_false
theorem Mi.ah{p:Prop}[Decidable p]:p→decide p=true:=decide_eq_true
open List renaming range → af
open Mi (al ak aj ai ah)
noncomputable section
namespace L2
open PySem PySem.Spec PyProof.Rows
abbrev Key:=Sum Int Str
noncomputable def pY:Key->dB->Bool
 | .inl k,v=>Value.isInt k v
 | .inr x,v=>Value.isStrOf x v
noncomputable def Kt(w:dH):Key->Int
 | .inl k=>hashInt k
 | .inr x=>hashStr w x
theorem fe:∀{k:Key} {v:dB},pY k v=M->(∃i t,k=Sum.inl i/\v=Value.int i t)\/(∃x t,k=Sum.inr x/\v=Value.str x t)
 | .inl i,v,h=>by
  obtain⟨t,e⟩:=Value.isInt_shape (k:=i) (v:=v) h;exact .inl ⟨i,t,O,e⟩
 | .inr x,v,h=>by
  obtain⟨t,e⟩:=Value.isStrOf_shape (x:=x) (v:=v) h;exact .inr ⟨x,t,O,e⟩
theorem yc(i:Int)(t:Tok):pY (.inl i) (.int i t)=M:=by simp[pY,Value.isInt]
theorem yb(x:Str)(t:Tok):pY (.inr x) (.str x t)=M:=by simp[pY,Value.isStrOf]
theorem GM(a b:Int):decide ((Sum.inl a:Key)=Sum.inl b)=(a == b):=by
 by_cases e:a=b
 ·subst e;simp
 ·have h:¬ (Sum.inl a:Key)=Sum.inl b:=λq=>e (Sum.inl.inj q);rw[ai h];exact(beq_eq_false_iff_ne.mpr e).symm
theorem GI(a b:Str):decide ((Sum.inr a:Key)=Sum.inr b)=decide (a=b):=by
 by_cases e:a=b
 ·subst e;simp
 ·have h:¬ (Sum.inr a:Key)=Sum.inr b:=λq=>e (Sum.inr.inj q);rw[ai h,ai e]
theorem GL(a:Int)(b:Str):decide ((Sum.inl a:Key)=Sum.inr b)=J:=ai (λq=>nomatch q)
theorem GJ(a:Str)(b:Int):decide ((Sum.inr a:Key)=Sum.inl b)=J:=ai (λq=>nomatch q)
noncomputable def fb(prog:dF)(w:dH):PySem.KeyKind prog w Key where
 is:=pY
 hash:=Kt w
 inj:=λv a b ha hb=>by
  rcases fe ha with⟨i,t,rfl,rfl⟩|⟨x,t,rfl,rfl⟩
  ·rcases fe hb with⟨j,u,rfl,e⟩|⟨y,u,rfl,e⟩
   ·injection e with e1 _;rw[e1]
   ·exact nomatch e
  ·rcases fe hb with⟨j,u,rfl,e⟩|⟨y,u,rfl,e⟩
   ·exact nomatch e
   ·injection e with e1 _;rw[e1]
 byValue:=λk v h=>by
  rcases fe h with⟨i,t,rfl,rfl⟩|⟨x,t,rfl,rfl⟩<;>rfl
 pyHash:=λhv h=>by
  rcases fe hv with⟨i,t,rfl,rfl⟩|⟨x,t,rfl,rfl⟩
  ·exact wpAny_pyHash_int h
  ·exact wpAny_pyHash_str h
 eqBool:=λhu hv h=>by
  rcases fe hu with⟨i,t,rfl,rfl⟩|⟨x,t,rfl,rfl⟩
  ·rcases fe hv with⟨j,u,rfl,rfl⟩|⟨y,u,rfl,rfl⟩
   ·rw[GM]at h;exact wpAny_eqBool_int h
   ·rw[GL]at h;exact SeqAt.EqAt.int_str i t y u _ _ _ _ h
  ·rcases fe hv with⟨j,u,rfl,rfl⟩|⟨y,u,rfl,rfl⟩
   ·rw[GJ]at h;exact SeqAt.EqAt.str_int x t j u _ _ _ _ h
   ·rw[GI]at h;exact wpAny_eqBool_str h
 «strs» :=λk x t v h=>by
  rcases fe h with⟨i,u,rfl,e⟩|⟨y,u,rfl,e⟩
  ·exact nomatch e
  ·injection e with e1 _;subst e1;cases v<;>rfl
theorem tf(prog:dF)(w:dH)(i:Int)(t:Tok):(fb prog w).is (.inl i) (.int i t)=M:=yc i t
theorem s9(prog:dF)(w:dH)(x:Str)(t:Tok):(fb prog w).is (.inr x) (.str x t)=M:=yb x t
end L2
namespace L2
open PySem PySem.Spec PyProof.Rows
inductive V where
 |non|bl (b:Bool)|int (i:Int)|str (x:Str)|byt (b:Array UInt8)|flt (b:UInt64)|ref (a:dE)|ty (n:String)
 deriving DecidableEq
def d5:V->dB->Prop
 | .non,u=>u=Value.none
 | .bl b,u=>u=Value.bool b
 | .int i,u=>∃t,u=Value.int i t
 | .str x,u=>∃t,u=Value.str x t
 | .byt b,u=>∃t,u=Value.bytes b t
 | .flt b,u=>∃t,u=Value.float b t
 | .ref a,u=>u=Value.ref a
 | .ty n,u=>u=Value.type n
abbrev ee:List V->List dB->Prop:=Paired d5
theorem ee.length{xs:List V}{a:List dB}(r:ee xs a):xs.length=a.length:=Paired.length r
theorem ee.get:∀{xs:List V} {a:List dB} {i:Nat} {x:V},ee xs a->xs[i]?=Z x -> ∃u,a[i]?=Z u/\d5 x u:=by
 intro xs a i x h e
 induction h generalizing i with
 |nil=>cases e
 |cons r t ih=>cases i with
  |zero=>cases e;exact⟨_,O,r⟩
  |succ i=>exact ih (i:=i) e
theorem ee.set{x:V}{u:dB}(r:d5 x u):∀{xs:List V} {a:List dB} (i:Nat),ee xs a->ee (xs.set i x) (a.set i u):=by
 intro xs a i h
 induction h generalizing i with
 |nil=>exact .nil
 |cons q t ih=>cases i with
  |zero=>exact .cons r t
  |succ i=>exact .cons q (ih i)
theorem ee.append:∀{xs ys:List V} {a ws:List dB},ee xs a->ee ys ws->ee (xs++ys) (a++ws):=by
 intro xs ys a ws h s
 induction h with
 |nil=>exact s
 |cons r t ih=>exact .cons r ih
theorem ee.take:∀{xs:List V} {a:List dB} (n:Nat),ee xs a->ee (xs.take n) (a.take n):=by
 intro xs a n h
 induction h generalizing n with
 |nil=>rw[av,av];exact .nil
 |cons r t ih=>cases n with
  |zero=>exact .nil
  |succ n=>exact .cons r (ih n)
theorem ee.drop:∀{xs:List V} {a:List dB} (n:Nat),ee xs a->ee (xs.drop n) (a.drop n):=by
 intro xs a n h
 induction h generalizing n with
 |nil=>rw[aw,aw];exact .nil
 |cons r t ih=>cases n with
  |zero=>exact .cons r t
  |succ n=>exact ih n
def md:Option V->Option dB->Prop
 |some v,Z u=>d5 v u
 |none,Y=>True
 |_,_=>False
def KV{κ:Type}:List (κ×V)->List (κ×dB)->Prop:=Paired λ(p:κ×V) (q:κ×dB)=>p.1=q.1/\d5 p.2 q.2
noncomputable def kV:Key->V
 | .inl i=>.int i
 | .inr x=>.str x
inductive HO where
 /-- a list -/
 |lst (xs:List V)
 /-- a tuple (never changes) -/
 |tup (xs:List V)
 /-- a dict whose keys are ints and texts; one whose keys are tuples of ints and texts (the empty one is both) -/
 |dK (kvs:List (Key×V))|dT (kvs:List (List Key×V))
 /-- a set of ints: its members, its size -/
 |set (S:Int->Bool) (n:Nat)
 /-- an instance of the class at C, its dict at dx, its attributes -/
 |ins (C dx:dE) (fs:List (Str×V))
 /-- the dict of the instance at x -/
 |own (x:dE)
 /-- the dict of an exception -/
 |xd (fs:List (Str×V))
 /-- a bound method, f of x -/
 |met (f x:dE)
 /-- a range object lo, lo + 1, .. below hi -/
 |rng (lo hi:Int)
 /-- a thing that is known to the object (the script; a dict while a loop walks it): read, never written while it is so -/
 |frz (o:Obj) (u:HO)
 /-- a code object's table -/
 |tbl (ps:Array dB)
 /-- any other thing, by what is true of its one object (a def of one's own: SetO a S n := HO.ext λh => ..) -/
 |ext (φ:dP->Prop)
abbrev Hp:=dE->Option HO
noncomputable def upd(H:Hp)(a:dE)(o:HO):Hp:=λb=>if b=a then Z o else H b
theorem d8{H:Hp}{a:dE}{o:HO}:upd H a o a=Z o:=by unfold upd;rw[ak O]
theorem dY{H:Hp}{a b:dE}{o:HO}(h:b≠a):upd H a o b=H b:=by unfold upd;rw[aj h]
theorem Iu{H:Hp}{a b:dE}{o u:HO}(h:H a=Z o)(h':H b=Z u)(d:o≠u):a≠b:=by
 intro e;subst e;rw[h]at h';exact d (Option.some.inj h')
theorem ew{H:Hp}{a b:dE}{o:HO}(h:H a=Z o)(h':H b=Y):a≠b:=by
 intro e;subst e;rw[h]at h';cases h'
section
variable(P:dF) (w:dH)
def eG(H:Hp)(h:dP)(a:dE):HO->Prop
 | .lst xs=>xs.length<=dL /\ ∃(its:List dB) (n:Nat),ee xs its/\h.get? a=Z {cls:=.type "list",data:=.seq its.toArray n}
 | .tup xs=>xs.length<=dL /\ ∃its:List dB,ee xs its/\IsTup h a its.toArray
 | .dK kvs=>kvs.length<=dL/\(a == sysModules)=J /\ ∃vs,KV kvs vs/\h.DictOf (fb P w) a vs
 | .dT kvs=>kvs.length<=dL/\(a == sysModules)=false /\ ∃ xs:List (List Key×dE×dB),
   Paired (λ(p:List Key×V) (q:List Key×dE×dB)=>p.1=q.1/\H q.2.1=Z (.tup (p.1.map kV))/\d5 p.2 q.2.2) kvs xs /\
   ∃o es ep,h.get? a=Z o/\o.ExactDict/\o.data = .dict es ep/\es.toList=xs.map (entryOfKey (tupleKind (fb P w)))/\(xs.map (·.1)).Nodup
 | .set S n=>h.SetOf (intKind P w) a S n
 | .ins C dx fs=>H dx=some (.own a)/\fs.length<=1000/\dx≠a/\h.get? a=some (PySem.W.instObj C dx) /\
   ∃mA,h.Ns1 dx mA/\(∀f,md (fs.lookup f) (mA f))/\PySem.Within mA (fs.map (·.1))
 | .own _=>∃o,h.get? a=Z o
 | .xd fs=>∃mA,h.Ns1 a mA /\ ∀f,md (fs.lookup f) (mA f)
 | .rng lo hi=>∃t u v,h.get? a=Z {cls:=.type "range",data:=.fields #[.int lo t,.int hi u,.int 1 v]}
 | .frz o u=>h.get? a=Z o/\eG H h a u
 | .tbl ps=>h.get? a=Z {cls:=.none,data:=.fields ps}
 | .met f x=>h.get? a=Z (PySem.W.methodObj (.ref f) (.ref x))
 | .ext φ=>φ h/\(∃o,h.get? a=Z o) /\ ∀h1 h2:dP,φ h1->(∀o,h1.get? a=Z o->h2.get? a=Z o)->φ h2
def km(H:Hp)(h:dP):Prop:=∀a o,H a=Z o->eG P w H h a o
end
section
variable{P:dF}{w:dH}{H H':Hp}{h h':dP}{a:dE}{o:HO}
theorem eG.lt(x:eG P w H h a o):a<h.objs.size:=by
 cases o with
 |lst xs=>obtain⟨_,_,_,_,e⟩:=x;exact hL1 e
 |tup xs=>obtain⟨_,_,_,p⟩:=x;exact p.lt
 |dK kvs=>obtain⟨_,_,_,_,o,_,_,e,_⟩:=x;exact hL1 e
 |dT kvs=>obtain⟨_,_,_,_,o,_,_,e,_⟩:=x;exact hL1 e
 |set S n=>obtain⟨o,_,_,_,e,_⟩:=x;exact hL1 e
 |ins C dx fs=>obtain⟨_,_,_,e,_⟩:=x;exact hL1 e
 |own y=>obtain⟨_,e⟩:=x;exact hL1 e
 |xd fs=>obtain⟨_,⟨_,_,_,e,_⟩,_⟩:=x;exact hL1 e
 |rng lo hi=>obtain⟨_,_,_,e⟩:=x;exact hL1 e
 |frz b u=>obtain⟨e,_⟩:=x;exact hL1 e
 |tbl ps=>exact hL1 (show h.get? a=Z _ from x)
 |met f y=>exact hL1 (show h.get? a=Z _ from x)
 |ext φ=>obtain⟨_,⟨_,e⟩,_⟩:=x;exact hL1 e
theorem Paired.mapP{α β:Type}{F G:α->β->Prop}:∀{l₁:List α} {l₂:List β},Paired F l₁ l₂->(∀a b,F a b->G a b)->Paired G l₁ l₂:=by
 intro a b h f
 induction h with
 |nil=>exact .nil
 |cons r t ih=>exact .cons (f _ _ r) ih
theorem eG.stay(x:eG P w H h a o)(k:∀ b u,(b=a\/H b=Z (.own a))->h.get? b=Z u->h'.get? b=Z u)(ho:∀b,H b=Z (.own a)->H' b=Z (.own a))(ht:∀b xs,H b=Z (.tup xs)->H' b=Z (.tup xs)):eG P w H' h' a o:=by
 induction o with
 |lst xs=>obtain⟨z,i,n,r,e⟩:=x;exact⟨z,i,n,r,k _ _ (.inl O) e⟩
 |tup xs=>obtain⟨z,i,r,g,e,c⟩:=x;exact⟨z,i,r,g,k _ _ (.inl O) e,c⟩
 |dK kvs=>obtain⟨z,y,vs,r,g,es,ep,e,c⟩:=x;exact⟨z,y,vs,r,g,es,ep,k _ _ (.inl O) e,c⟩
 |dT kvs=>
  obtain⟨z,y,xs,r,g,es,ep,e,c⟩:=x;exact⟨z,y,xs,Paired.mapP r λp q z=>⟨z.1,ht _ _ z.2.1,z.2.2⟩,g,es,ep,k _ _ (.inl O) e,c⟩
 |set S n=>obtain⟨g,es,ep,t,e,c⟩:=x;exact⟨g,es,ep,t,k _ _ (.inl O) e,c⟩
 |ins C dx fs=>
  obtain⟨d,z,ne,e,mA,⟨j,es,ep,l,c⟩,r⟩:=x;exact⟨ho _ d,z,ne,k _ _ (.inl O) e,mA,⟨j,es,ep,k _ _ (.inr d) l,c⟩,r⟩
 |own y=>obtain⟨g,e⟩:=x;exact⟨g,k _ _ (.inl O) e⟩
 |xd fs=>obtain⟨mA,⟨j,es,ep,e,c⟩,r⟩:=x;exact⟨mA,⟨j,es,ep,k _ _ (.inl O) e,c⟩,r⟩
 |rng lo hi=>obtain⟨t,u,v,e⟩:=x;exact⟨t,u,v,k _ _ (.inl O) e⟩
 |frz g u ih=>obtain⟨e,q⟩:=x;exact⟨k _ _ (.inl O) e,ih q⟩
 |tbl ps=>
  have e:h.get? a=Z {cls:=.none,data:=.fields ps}:=x;show h'.get? a=Z {cls:=.none,data:=.fields ps};exact k a _ (.inl O) e
 |met f y=>
  have e:h.get? a=Z (PySem.W.methodObj (.ref f) (.ref y)):=x;show h'.get? a=Z (PySem.W.methodObj (.ref f) (.ref y));exact k a _ (.inl O) e
 |ext φ=>obtain⟨p,⟨o,e⟩,st⟩:=x;exact⟨st _ _ p λo q=>k _ _ (.inl O) q,⟨o,k _ _ (.inl O) e⟩,st⟩
theorem km.lt(x:km P w H h)(e:H a=Z o):a<h.objs.size:=(x a o e).lt
theorem km.fresh(x:km P w H h)(e:h.objs.size<=a):H a=Y:=by
 cases q:H a with
 |none=>rfl
 |some u=>exact absurd (nL1 (x.lt q) e) (az _)
theorem km.kept(x:km P w H h)(k:∀b u,h.get? b=Z u->h'.get? b=Z u):km P w H h':=λa o e=>
 (x a o e).stay (λb u _ q=>k b u q) (λ_ q=>q) λ_ _ q=>q
theorem km.laid(x:km P w H h)(k:∀b u,h.get? b=Z u->h'.get? b=Z u)(hp:h.objs.size<=a)(new:eG P w (upd H a o) h' a o):km P w (upd H a o) h':=λb u e=>by
 have d:=x.fresh hp;by_cases f:b=a
 ·subst f;rw[d8]at e;cases e;exact new
 ·rw[dY f]at e;exact(x b u e).stay (λc v _ q=>k c v q) (λc q=>by rw[dY (ew q d)];exact q) λc xs q=>by rw[dY (ew q d)];exact q
end
def Rd(H:Hp)(a:dE)(u:HO):Prop:=H a=Z u \/ ∃o,H a=Z (.frz o u)
theorem Rd.ok{P:dF}{w:dH}{H:Hp}{h:dP}{a:dE}{u:HO}(r:Rd H a u)(x:km P w H h):eG P w H h a u:=by
 rcases r with r|⟨o,r⟩
 ·exact x a u r
 ·obtain⟨_,q⟩:=x a _ r;exact q
def Mut:Option HO->Prop
 |some (.lst _)=>True
 |some (.dK _)=>True
 |some (.dT _)=>True
 |some (.set _ _)=>True
 |some (.ins _ _ _)=>True
 |some (.ext _)=>True
 |_=>False
section
variable{P:dF}{w:dH}{H:Hp}{h h':dP}{x e:dE}{o':HO}
theorem km.write(ok:km P w H h)(mu:Mut (H x))(he:e=x\/H e=Z (.own x))(k:∀ b u,b≠e->h.get? b=Z u->h'.get? b=Z u)(i:∃ u,h'.get? e=Z u)(new:eG P w (upd H x o') h' x o'):km P w (upd H x o') h':=λb u q=>by
 have d:∀c y,H c=Z (.own y)->c≠x:=λc y r z=>by subst z;rw[r]at mu;exact mu
 have f:∀c xs,H c=Z (.tup xs)->c≠x:=λc xs r z=>by subst z;rw[r]at mu;exact mu
 by_cases g:b=x
 ·subst g;rw[d8]at q;cases q;exact new
 ·rw[dY g]at q;by_cases a:b=e
  ·have j:H b=some (.own x):=by
    rcases he with z|z
    ·exact absurd (a.trans z) g
    ·rw[a];exact z
   rw[q]at j;cases j;obtain⟨v,l⟩:=i;exact⟨v,by rw[a];exact l⟩
  ·refine(ok b u q).stay (λc v hc r=>k c v ?_ r) (λc r=>by rw[dY (d c b r)];exact r) λc xs r=>by rw[dY (f c xs r)];exact r
   rcases hc with rfl|hc
   ·exact a
   ·rintro rfl;rcases he with z|z
    ·exact d c b hc z
    ·rw[hc]at z;cases z;exact g O
end
structure Un (fs ex:List dE)(H H':Hp)(h h':dP):Prop where
 keep:∀b o,h.get? b=some o->H b=none->b∉fs->b∉ex->h'.get? b=some o
 slot:∀b o,h.get? b=some o->H b=none->b∈fs->b∉ex -> ∃sl,h'.get? b=some {o with slots:=sl}
 free:∀b o,h.get? b=some o->H b=none->b∉ex->H' b=none
 there:∀b o,h.get? b=some o->b∉ex -> ∃o',h'.get? b=some o'
 tups:∀b xs,H b=some (.tup xs)->H' b=some (.tup xs)
 frzs:∀b o u,H b=some (.frz o u)->H' b=some (.frz o u)
 tbls:∀b ps,H b=some (.tbl ps) -> ∃more,H' b=some (.tbl (ps++more))
section
variable{fs fs' ex ex':List dE}{H H1 H2:Hp}{h h1 h2 h':dP}{a x e:dE}{o:HO}
theorem Un.any(u:Un fs ex H H1 h h1){b:dE}{a:Obj}(q:h.get? b=Z a)(n:H b=Y)(hx:b∉ex):∃d,h1.get? b=Z {a with slots:=d}:=by
 by_cases c:b∈fs
 ·exact u.slot b a q n c hx
 ·exact⟨a.slots,u.keep b a q n c hx⟩
theorem Un.kept(k:∀b u,h.get? b=Z u->h'.get? b=Z u):Un fs ex H H h h':=
 ⟨λb a q _ _ _=>k b a q,λb a q _ _ _=>⟨a.slots,k b a q⟩,λ_ _ _ n _=>n,λb a q _=>⟨a,k b a q⟩,λ_ _ q=>q,λ_ _ _ q=>q,λ_ ps q=>⟨#[],by rw[q];simp⟩⟩
theorem Un.refl:Un fs ex H H h h:=Un.kept λ_ _ q=>q
theorem Un.laid(k:∀b u,h.get? b=Z u->h'.get? b=Z u)(hp:h.objs.size<=a)(hn:H a=Y):Un fs ex H (upd H a o) h h' where
 keep:=λb u q _ _ _=>k b u q
 slot:=λb u q _ _ _=>⟨u.slots,k b u q⟩
 free:=λb u q n _=>by rw[dY (nN1 (nL1 (hL1 q) hp))];exact n
 there:=λb u q _=>⟨u,k b u q⟩
 tups:=λb xs q=>by rw[dY (ew q hn)];exact q
 frzs:=λb u xs q=>by rw[dY (ew q hn)];exact q
 tbls:=λb ps q=>⟨#[],by rw[dY (ew q hn),q];simp⟩
theorem Un.write(mu:Mut (H x))(he:e=x\/H e=Z (.own x))(k:∀b u,b≠e->h.get? b=Z u->h'.get? b=Z u)(c:∃u,h'.get? e=Z u):Un fs ex H (upd H x o) h h':=by
 have f:∀b,H b=Y->b≠x:=λb n z=>by subst z;rw[n]at mu;exact mu
 have g:∀b,H b=Y->b≠e:=λb n z=>by
  subst z;rcases he with r|r
  ·exact f b n r
  ·rw[n]at r;cases r
 have d:∀b u,H b=Z u -> ¬ Mut (Z u)->b≠x:=λb u q nm z=>by subst z;rw[q]at mu;exact nm mu
 refine⟨λb u q n _ _=>k b u (g b n) q,λb u q n _ _=>⟨u.slots,k b u (g b n) q⟩,λb u q n _=>by rw[dY (f b n)];exact n,λb u q _=>?_,
  λb xs q=>by rw[dY (d b _ q λz=>z)];exact q,λb u xs q=>by rw[dY (d b _ q λz=>z)];exact q,λb ps q=>⟨#[],by rw[dY (d b _ q λz=>z),q];simp⟩⟩
 by_cases a:b=e
 ·subst a;exact c
 ·exact⟨u,k b u a q⟩
end
noncomputable def trk(h:dP)(H:Hp):List dE:=(af h.objs.size).filter λa=>(H a).isSome
noncomputable def rL(h:dP)(H:Hp):dP:=PySem.W.hideAll h (trk h H)
theorem yp(h:dP)(H:Hp):(rL h H).objs.size=h.objs.size:=PySem.W.hideAll_size _ _
theorem AT{h:dP}{H:Hp}{b:dE}{o:Obj}(e:h.get? b=Z o)(n:H b=Y):(rL h H).get? b=Z o:=
 PySem.W.hideAll_get _ e λa=>by
  have q:(H b).isSome=M:=(aA.mp a).2;rw[n]at q;simp at q
theorem CN{h:dP}{H:Hp}{b:dE}{o:Obj}(e:(rL h H).get? b=Z o):h.get? b=Z o/\H b=Y:=by
 have a:h.get? b=Z o:=PySem.W.of_hideAll (trk h H) e;refine⟨a,?_⟩;cases q:H b with
 |none=>rfl
 |some x=>
  have c:b∈trk h H:=aA.mpr ⟨aB.mpr (hL1 a),by simp[q]⟩;have z:(rL h H).get? b=Y:=PySem.W.hideAll_none (trk h H) c;rw[z]at e;cases e
noncomputable def D1(g h:dP)(L:dE):List (dE×Obj):=(af h.objs.size).filterMap λa=>if a=L\/(g.get? a).isSome=M then Y else(h.get? a).map λo=>(a,o)
noncomputable def rest(g h:dP)(L d:dE):List (dE×Obj):=(D1 g h L).filter λp=>decide (p.1≠d)
end L2
namespace L2
open PySem PySem.Spec PyProof.Rows
structure Mod (K:Fg1)(mg:Str->Option dB)(base:dP):Prop where
 kin:K.In base
 glob:base.Ns dI mg
 blt:∃mb,base.Ns builtinsNs mb /\ ∀x:Str,x≠"__name__"->mb x=bootBuiltins x
 nolimit:base.NoLimit
structure Cx where
 prog:dF
 w:dH
 K:Fg1
 mg:Str->Option dB
 base:dP
 A:dG
 N:List Str
 s₀:dD
 H₀:Hp
 env:Env
 outer:List Env
 stack:List Env
 ex:List dE
 fn:Str->Bool
 calm:Bool
 pn:List (dE×Obj)
 xe:dB->dD->Prop
noncomputable def frs(l:List Env):List dE:=l.filterMap (·.frame)
abbrev Cx.fs(X:Cx):List dE:=frs X.outer
def Hf(sc:dS)(x:Str):Prop:=sc.names.lookup x=Z .local\/sc.names.lookup x=Z .cell\/sc.names.lookup x=Z .free
def yO(sc:dS)(x:Str):Prop:=sc.names.lookup x=Z .local\/sc.names.lookup x=Z .cell
def KI(env:Env)(h:dP)(m:Str->Option dB)(x:Str)(u:dB):Prop:=
 (env.kindOf x=Z .local/\m x=Z u)\/((env.kindOf x=Z .cell\/env.kindOf x=Z .free) /\ ∃c,env.cells.lookup x=Z c/\h.IsCell c (Z u))
structure Cx.Ok (X:Cx):Prop where
 mod:Mod X.K X.mg X.base
 kind:X.env.scope.kind = .function
 glob:X.env.globals=dI
 blt:X.env.builtins=builtinsNs
 above:X.s₀.heap.objs.size<=X.env.locals
 inj:∀x y c,X.env.cells.lookup x=some c->X.env.cells.lookup y=some c->x=y
 has:∀x,(X.env.kindOf x=some .cell\/X.env.kindOf x=some .free) -> ∃c,X.env.cells.lookup x=some c
 cab:∀x c,X.fn x=true->X.env.cells.lookup x=some c->X.s₀.heap.objs.size<=c
 hd:X.calm=true->X.A.handled=none
 frames:X.A.frames=some X.stack
 stk:X.stack=X.outer\/(X.stack=X.env::X.outer/\X.env.frame=some X.env.locals)
 exf:∀b∈X.ex,b≠X.env.locals /\ ∀x c,X.env.cells.lookup x=some c->c≠b
 bs:∀b o,X.base.get? b=some o->X.s₀.heap.get? b=some o/\X.H₀ b=none
 bsz:X.base.objs.size<=X.s₀.heap.objs.size
 noex:∀b o,X.base.get? b=some o->b∉X.ex
 exfs:∀b∈X.ex,b∉X.fs
 funs:X.s₀.heap.FunFrames X.base X.outer
 frf:∀b∈X.fs,X.H₀ b=none
structure Inv (X:Cx)(ag:List (dE×Obj))(σ:List (Option V))(H:Hp)(s:dD):Prop where
 ok:X.Ok
 os:s.os=X.s₀.os
 bare:AllBare s.gens
 base:Un X.fs X.ex X.H₀ H X.s₀.heap s.heap
 loc:∃m,s.heap.Ns X.env.locals m /\ ∀(i:Nat) (x:Str) (v:V),X.N[i]?=some x->σ[i]?=some (some v)->Hf X.env.scope x -> ∃u,d5 v u/\KI X.env s.heap m x u
 cell:∀x c,X.env.cells.lookup x=some c -> ∃v,s.heap.IsCell c v
 free:H X.env.locals=none
 freeC:∀x c,X.env.cells.lookup x=some c->H c=none
 pin:∀p∈X.pn++ag,s.heap.get? p.1=some p.2/\H p.1=none/\p.1≠X.env.locals/\p.1∉X.fs /\ ∀v,p.2.data ≠ .cell v
 hok:km X.prog X.w H s.heap
 len:σ.length=X.N.length
section
variable{X:Cx}{ag:List (dE×Obj)}{σ:List (Option V)}{H H':Hp}{s:dD}{h':dP}
theorem Cx.Ok.nofr(ok:X.Ok){b:dE}{o:Obj}(e:X.base.get? b=Z o):b∉X.fs:=λa=>by
 have:=(ok.funs.mem a).1;rw[e]at this;cases this
theorem Inv.bs(I:Inv X ag σ H s):∀b o,X.base.get? b=Z o->s.heap.get? b=Z o/\H b=Y:=λb o e=>
 ⟨I.base.keep b o (I.ok.bs b o e).1 (I.ok.bs b o e).2 (I.ok.nofr e) (I.ok.noex b o e),I.base.free b o (I.ok.bs b o e).1 (I.ok.bs b o e).2 (I.ok.noex b o e)⟩
theorem Inv.bk(I:Inv X ag σ H s):∀b o,X.base.get? b=Z o->s.heap.get? b=Z o:=λb o e=>(I.bs b o e).1
theorem Inv.mod(I:Inv X ag σ H s):Mod X.K X.mg X.base:=I.ok.mod
theorem Inv.kIn(I:Inv X ag σ H s):X.K.In s.heap:=I.ok.mod.kin.keeps I.bk
theorem Inv.lt(I:Inv X ag σ H s):X.env.locals<s.heap.objs.size:=let ⟨_,hn,_⟩:=I.loc;hn.lt
theorem Inv.sz(I:Inv X ag σ H s):X.s₀.heap.objs.size<=s.heap.objs.size:=aC I.ok.above (aD I.lt)
theorem Inv.nofs(I:Inv X ag σ H s){a:dE}(h:s.heap.objs.size<=a):a∉X.fs:=λc=>by
 obtain⟨_,o,b,_⟩:=I.ok.funs.mem c;exact absurd (nL1 (hL1 b) (aC I.sz h)) (az _)
theorem Inv.cne(I:Inv X ag σ H s):∀x c,X.env.cells.lookup x=Z c->c≠X.env.locals:=λx c e z=>by
 obtain⟨v,o,d,f⟩:=I.cell x c e;obtain⟨m,⟨o',es,ep,b,a,_⟩,_⟩:=I.loc;rw[z,b]at d;cases d;rw[a]at f;cases f
theorem Inv.funs(I:Inv X ag σ H s):s.heap.FunFrames X.base X.outer:=by
 have all:∀(l:List Env),(∀b∈frs l,b∈X.fs)->X.s₀.heap.FunFrames X.base l->s.heap.FunFrames X.base l:=by
  intro l
  induction l with
  |nil=>intro _ _;trivial
  |cons i r ih=>
   intro f h;obtain⟨m,⟨L,o,a,g,j,n⟩,k⟩:=h;have c:L∈X.fs:=f L (by unfold frs;rw[aE,a];exact mS1);obtain⟨p,e⟩:=I.base.slot L o j (I.ok.frf L c) c λz=>I.ok.exfs L z c;exact⟨m,⟨L,_,a,g,e,n⟩,ih (λb d=>f b (by unfold frs;rw[aE,a];exact mC1 _ d)) k⟩
 exact all X.outer (λ_ d=>d) I.ok.funs
theorem Inv.stack(I:Inv X ag σ H s):s.heap.FunFrames X.base X.stack:=by
 rcases I.ok.stk with e|⟨e,a⟩
 ·rw[e];exact I.funs
 ·rw[e];obtain⟨m,b,_⟩:=I.loc;refine .cons (by rw[I.ok.kind];decide) a b ?_ I.funs;exact Heap.get?_none_of_le (aC I.ok.bsz I.ok.above)
theorem Inv.stkSub(I:Inv X ag σ H s):∀b∈frs X.stack,b∈X.env.locals::X.fs:=λb a=>by
 rcases I.ok.stk with e|⟨e,c⟩
 ·rw[e]at a;exact mC1 _ a
 ·rw[e]at a;unfold frs at a;rw[aE,c]at a;exact a
theorem Inv.stkFree(I:Inv X ag σ H s):∀b∈frs X.stack,H b=Y:=λb a=>by
 rcases aF.mp (I.stkSub b a)with e|a
 ·rw[e];exact I.free
 ·obtain⟨_,o,c,_⟩:=I.ok.funs.mem a;exact I.base.free b o c (I.ok.frf b a) λz=>I.ok.exfs b z a
theorem Inv.step{g':Array GenState}{t':Nat}{d':Drawn}{ch:List dE}(I:Inv X ag σ H s)(h:∀b∈ch,(b∈X.ex\/X.s₀.heap.objs.size<=b)/\b≠X.env.locals/\(∀x c,X.env.cells.lookup x=some c->c≠b) /\ ∀p∈X.pn++ag,p.1≠b)(keep:∀b o,b≠X.env.locals->b∉X.fs->b∉ch->s.heap.get? b=some o->H b=none->h'.get? b=some o)(slot:∀b o,b≠X.env.locals->b∈X.fs->b∉ch->s.heap.get? b=some o->H b=none -> ∃K,h'.get? b=some {o with slots:=K})(f:∀b o,b∉ch->s.heap.get? b=some o->H b=none->H' b=none)(A:∀b o,b∉ch->s.heap.get? b=some o -> ∃o',h'.get? b=some o')(C:∀b xs,H b=some (.tup xs)->H' b=some (.tup xs))(F:∀b o u,H b=some (.frz o u)->H' b=some (.frz o u))(E:∀b ps,H b=some (.tbl ps) -> ∃more,H' b=some (.tbl (ps++more)))(ns:∀m,s.heap.Ns X.env.locals m->h'.Ns X.env.locals m)(L:km X.prog X.w H' h')(hg:AllBare g'):
  Inv X ag σ H' {s with heap:=h',gens:=g',drawn:=d',toks:=t'}:=by
 have G:∀b o,X.s₀.heap.get? b=Z o->b≠X.env.locals:=λb o e=>nN1 (nL1 (hL1 e) I.ok.above);have w:∀b o,X.s₀.heap.get? b=Z o->b∉X.ex->b∉ch:=λb o e a y=>by
  rcases(h b y).1 with z|z
  ·exact a z
  ·exact absurd (nL1 (hL1 e) z) (az _)
 have g:∀x c,X.env.cells.lookup x=Z c -> ∀v,s.heap.IsCell c v->h'.IsCell c v:=λx c e v ⟨o,B,am⟩=>by
  have j:c∉ch:=λz=>(h c z).2.2.1 x c e O;by_cases hc:c∈X.fs
  ·obtain⟨K,q⟩:=slot c o (I.cne x c e) hc j B (I.freeC x c e);exact⟨_,q,am⟩
  ·exact⟨o,keep c o (I.cne x c e) hc j B (I.freeC x c e),am⟩
 refine⟨I.ok,I.os,hg,⟨λb o e n y a=>?_,λb o e n y a=>?_,λb o e n a=>?_,λb o e a=>?_,λb xs e=>C b xs (I.base.tups b xs e),λb o xs e=>F b o xs (I.base.frzs b o xs e),λb ps e=>?_⟩,?_,λx c e=>?_,?_,λx c e=>?_,λp au=>?_,L,I.len⟩
 ·exact keep b o (G b o e) y (w b o e a) (I.base.keep b o e n y a) (I.base.free b o e n a)
 ·obtain⟨K,t⟩:=I.base.slot b o e n y a;obtain⟨ao,D⟩:=slot b _ (G b o e) y (w b o e a) t (I.base.free b o e n a);exact⟨ao,D⟩
 ·obtain⟨o',t⟩:=I.base.there b o e a;exact f b o' (w b o e a) t (I.base.free b o e n a)
 ·obtain⟨o',t⟩:=I.base.there b o e a;exact A b o' (w b o e a) t
 ·obtain⟨m1,t⟩:=I.base.tbls b ps e;obtain⟨m2,D⟩:=E b _ t;exact⟨m1++m2,by rw[D,Array.append_assoc]⟩
 ·obtain⟨m,P,Q⟩:=I.loc;refine⟨m,ns m P,λi x v t D R=>?_⟩;obtain⟨u,r,l⟩:=Q i x v t D R;refine⟨u,r,?_⟩;rcases l with l|⟨k,c,e,z⟩
  ·exact .inl l
  ·exact .inr ⟨k,c,e,g x c e _ z⟩
 ·obtain⟨v,z⟩:=I.cell x c e;exact⟨v,g x c e v z⟩
 ·obtain⟨m,⟨o,_,_,B,_⟩,_⟩:=I.loc;exact f _ o (λz=>(h _ z).2.1 O) B I.free
 ·obtain⟨v,o,B,am⟩:=I.cell x c e;exact f c o (λz=>(h c z).2.2.1 x c e O) B (I.freeC x c e)
 ·obtain⟨e,n,ne,N,d⟩:=I.pin p au;have j:p.1∉ch:=λz=>(h p.1 z).2.2.2 p au O;exact⟨keep p.1 p.2 ne N j e n,f p.1 p.2 j e n,ne,N,d⟩
theorem Inv.un{t':Nat}(I:Inv X ag σ H s)(u:Un X.fs [] H H' s.heap h')(g:km X.prog X.w H' h'):Inv X ag σ H' {s with heap:=h',toks:=t'}:=by
 obtain⟨m,⟨o,es,ep,h,r⟩,_⟩:=id I.loc;obtain⟨l,i⟩:=u.any h I.free (by simp);exact I.step (g':=s.gens) (d':=s.drawn) (ch:=[]) (λ_ z=>nomatch z) (λb o _ f _ e n=>u.keep b o e n f (by simp)) (λb o _ f _ e n=>u.slot b o e n f (by simp)) (λb o _ e n=>u.free b o e n (by simp)) (λb o _ e=>u.there b o e (by simp)) u.tups u.frzs u.tbls (λp j=>by
  obtain⟨o',d,c,a,k⟩:=j;rw[h]at a;cases a;exact⟨_,d,c,i,k⟩) g I.bare
theorem Inv.call{g':Array GenState}{t':Nat}{d':Drawn}{ch:List dE}(I:Inv X ag σ H s)(u:Un (frs X.stack) ch H H' s.heap h')(i:km X.prog X.w H' h')(hg:AllBare g')(a:∀b∈ch,(b∈X.ex\/X.s₀.heap.objs.size<=b)/\b≠X.env.locals/\(∀x c,X.env.cells.lookup x=some c->c≠b) /\ ∀p∈X.pn++ag,p.1≠b):
  Inv X ag σ H' {s with heap:=h',gens:=g',drawn:=d',toks:=t'}:=by
 obtain⟨m,⟨o,es,ep,j,r⟩,_⟩:=id I.loc;obtain⟨t,h⟩:=u.any j I.free λz=>(a _ z).2.1 O;exact I.step (ch:=ch) a (λb o h l hc e n=>u.keep b o e n (λz=>(aF.mp (I.stkSub b z)).elim h l) hc) (λb o _ _ hc e n=>u.any e n hc) (λb o hc e n=>u.free b o e n hc) (λb o hc e=>u.there b o e hc) u.tups u.frzs u.tbls (λv k=>by
  obtain⟨o',g,f,d,q⟩:=k;rw[j]at d;cases d;exact⟨_,g,f,h,q⟩) i hg
theorem Inv.turned{t':Nat}{it:dE}(I:Inv X ag σ H s)(k:∀ b o,b≠it->s.heap.get? b=Z o->h'.get? b=Z o)(hn:H it=Y)(d:it≠X.env.locals)(h1:it∈X.ex\/X.s₀.heap.objs.size<=it)(h2:∀x c,X.env.cells.lookup x=Z c->c≠it)(f:∀p∈X.pn++ag,p.1≠it):Inv X ag σ H {s with heap:=h',toks:=t'}:=by
 have a:∀b u,H b=Z u->b≠it:=λb u e z=>by rw[z,hn]at e;cases e
 refine I.step (g':=s.gens) (d':=s.drawn) (ch:=[it]) (λb i=>?_) (λb o _ _ hc e _=>k b o (λz=>hc (by simp[z])) e) (λb o _ _ hc e _=>⟨o.slots,k b o (λz=>hc (by simp[z])) e⟩) (λ_ _ _ _ n=>n)
  (λb o hc e=>⟨o,k b o (λz=>hc (by simp[z])) e⟩) (λ_ _ e=>e) (λ_ _ _ e=>e) (λb ps e=>⟨#[],by rw[e];simp⟩) (λm g=>?_) (λb u e=>?_) I.bare
 ·have e:b=it:=by simpa using i
  subst e;exact⟨h1,d,h2,f⟩
 ·obtain⟨o,es,ep,h,r⟩:=g;exact⟨o,es,ep,k _ o (Ne.symm d) h,r⟩
 ·refine(I.hok b u e).stay (λc v hc q=>k c v ?_ q) (λ_ q=>q) λ_ _ q=>q;rcases hc with z|z
  ·rw[z];exact a b u e
  ·exact a c _ z
theorem Inv.tok(I:Inv X ag σ H s)(t:Nat):Inv X ag σ H {s with toks:=t}:=I.un (h':=s.heap) (t':=t) Un.refl I.hok
theorem Inv.kept{t':Nat}(I:Inv X ag σ H s)(k:∀b u,s.heap.get? b=Z u->h'.get? b=Z u):Inv X ag σ H {s with heap:=h',toks:=t'}:=I.un (Un.kept k) (I.hok.kept k)
theorem Inv.laid{a:dE}{o:HO}{t':Nat}(I:Inv X ag σ H s)(k:∀ b u,s.heap.get? b=some u->h'.get? b=some u)(hp:s.heap.objs.size<=a)(new:eG X.prog X.w (upd H a o) h' a o):
  Inv X ag σ (upd H a o) {s with heap:=h',toks:=t'}:=I.un (Un.laid k hp (I.hok.fresh hp)) (I.hok.laid k hp new)
theorem Inv.write{x e:dE}{o:HO}{t':Nat}(I:Inv X ag σ H s)(mu:Mut (H x))(he:e=x\/H e=Z (.own x))(k:∀ b u,b≠e->s.heap.get? b=Z u->h'.get? b=Z u)(a:∃ u,h'.get? e=Z u)(new:eG X.prog X.w (upd H x o) h' x o):Inv X ag σ (upd H x o) {s with heap:=h',toks:=t'}:=I.un (Un.write mu he k a) (I.hok.write mu he k a new)
theorem Inv.pins_of{a:List (dE×Obj)}(I:Inv X ag σ H s)(h:∀p∈a,s.heap.get? p.1=Z p.2/\H p.1=Y/\p.1≠X.env.locals/\p.1∉X.fs /\ ∀v,p.2.data ≠ .cell v):Inv X a σ H s:=
 ⟨I.ok,I.os,I.bare,I.base,I.loc,I.cell,I.free,I.freeC,λp b=>(aG.mp b).elim (λz=>I.pin p (aH _ z)) (h p),I.hok,I.len⟩
theorem sZ{N:List Str}(hN:N.Nodup){i j:Nat}{x:Str}(a:N[i]?=Z x)(b:N[j]?=Z x):i=j:=by
 obtain⟨h1,c⟩:=gE1.mp a;obtain⟨h2,d⟩:=gE1.mp b;exact(List.getElem_inj hN).mp (c.trans d.symm)
theorem xA{ao:Model}{A:dG}{E:dB->dD->Prop}{i:Nat}{x:Str}{v:V}{u:dB}{Q:Unit->dD->Prop}(I:Inv X ag σ H s)(hN:X.N.Nodup)(hi:X.N[i]? = Z x)(hx:yO X.env.scope x)(r:d5 v u)(h:∀s',Inv X ag (σ.set i (Z v)) H s'->(∃a,Heap.SameBut a s.heap s'.heap/\(a=X.env.locals\/X.env.cells.lookup x=Z a))->Q () s')(hf:X.fn x=M\/X.env.scope.names.lookup x=Z .local:=by first|exact .inl rfl|exact .inr rfl|assumption):dM ao A (storeName X.env x u) Q E s:=by
 obtain⟨m,wq,hl⟩:=id I.loc;have N:(X.env.scope.kind == .class||(X.env.scope.kind == .module&&X.env.locals != X.env.globals))=J:=by rw[I.ok.kind];rfl
 have B:i<σ.length:=by rw[I.len];exact(gE1.mp hi).1
 have cne:=I.cne;have tracked:∀{a:dE} {h':dP},(∃o,s.heap.get? a=Z o/\H a=Y)->Heap.SameBut a s.heap h'->km X.prog X.w H h':=λ{a h'} ha f b ob e=>by
  obtain⟨_,_,l⟩:=ha;refine(I.hok b ob e).stay (λc au hc q=>(f.2 c ?_).trans q) (λ_ q=>q) λ_ _ q=>q;rintro rfl;rcases hc with rfl|hc
  ·rw[l]at e;cases e
  ·rw[l]at hc;cases hc
 rcases hx with w|w
 ·refine wpAny_storeName_local w wq (λh' R f=>?_) N;obtain⟨oL,_,_,W,_⟩:=id wq;refine h _ ⟨I.ok,I.os,I.bare,⟨λb o e n D hx=>?_,λb o e n D hx=>?_,I.base.free,λb o e hx=>?_,I.base.tups,I.base.frzs,I.base.tbls⟩,⟨_,R,λj y v' g t e3=>?_⟩,λy c e=>?_,I.free,I.freeC,λp aq=>?_,tracked ⟨oL,W,I.free⟩ f,by simpa using I.len⟩ ⟨_,f,.inl O⟩
  ·exact(f.2 b (nN1 (nL1 (hL1 e) I.ok.above))).trans (I.base.keep b o e n D hx)
  ·obtain⟨U,g⟩:=I.base.slot b o e n D hx;exact⟨U,(f.2 b (nN1 (nL1 (hL1 e) I.ok.above))).trans g⟩
  ·obtain⟨o',g⟩:=I.base.there b o e hx;exact⟨o',(f.2 b (nN1 (nL1 (hL1 e) I.ok.above))).trans g⟩
  ·by_cases F:j=i
   ·subst F;rw[hi]at g;cases g;rw[aI B]at t;cases t;exact⟨u,r,.inl ⟨w,by simp⟩⟩
   ·rw[gS1 (Ne.symm F)]at t;obtain⟨u',T,q⟩:=hl j y v' g t e3;refine⟨u',T,?_⟩;rcases q with⟨k,e⟩|⟨k,c,e,z⟩
    ·refine .inl ⟨k,?_⟩;have:y≠x:=λe=>F (sZ hN g (e ▸ hi));simp[this,e]
    ·exact .inr ⟨k,c,e,z.sameBut f (cne y c e)⟩
  ·obtain⟨au,z⟩:=I.cell y c e;exact⟨au,z.sameBut f (cne y c e)⟩
  ·obtain⟨e,n,ne,S,d⟩:=I.pin p aq;exact⟨(f.2 p.1 ne).trans e,n,ne,S,d⟩
 ·have C:X.fn x=true:=by
   rcases hf with z|z
   ·exact z
   ·rw[z]at w;cases w
  obtain⟨c,hc⟩:=I.ok.has x (.inl w);obtain⟨au,z⟩:=I.cell x c hc;refine wpAny_storeName_cell I.ok.kind w hc z (λh' K f=>?_);obtain⟨oc,G,L⟩:=id z;refine h {s with heap:=h'} ⟨I.ok,I.os,I.bare,⟨λb o e n D hx=>?_,λb o e n D hx=>?_,I.base.free,λb o e hx=>?_,I.base.tups,I.base.frzs,I.base.tbls⟩,⟨m,wq.sameBut f (Ne.symm (cne x c hc)),λj y v' g t e3=>?_⟩,λy P e=>?_,I.free,I.freeC,λp aq=>?_,tracked ⟨oc,G,I.freeC x c hc⟩ f,by simpa using I.len⟩ ⟨c,f,.inr hc⟩
  ·exact(f.2 b (nN1 (nL1 (hL1 e) (I.ok.cab x c C hc)))).trans (I.base.keep b o e n D hx)
  ·obtain⟨U,g⟩:=I.base.slot b o e n D hx;exact⟨U,(f.2 b (nN1 (nL1 (hL1 e) (I.ok.cab x c C hc)))).trans g⟩
  ·obtain⟨o',g⟩:=I.base.there b o e hx;exact⟨o',(f.2 b (nN1 (nL1 (hL1 e) (I.ok.cab x c C hc)))).trans g⟩
  ·by_cases F:j=i
   ·subst F;rw[hi]at g;cases g;rw[aI B]at t;cases t;exact⟨u,r,.inr ⟨.inl w,c,hc,K⟩⟩
   ·rw[gS1 (Ne.symm F)]at t;obtain⟨u',T,q⟩:=hl j y v' g t e3;refine⟨u',T,?_⟩;rcases q with q|⟨k,P,e,z'⟩
    ·exact .inl q
    ·refine .inr ⟨k,P,e,z'.sameBut f ?_⟩;rintro rfl;exact F (sZ hN g (I.ok.inj _ _ _ e hc ▸ hi))
  ·by_cases am:P=c
   ·subst am;exact⟨_,K⟩
   ·obtain⟨w2,z2⟩:=I.cell y P e;exact⟨w2,z2.sameBut f am⟩
  ·obtain⟨e,n,ne,S,d⟩:=I.pin p aq;refine⟨(f.2 p.1 ?_).trans e,n,ne,S,d⟩;intro q;rw[q,G]at e;have q':oc=p.2:=Option.some.inj e;exact d au (by rw[<- q'];exact L)
theorem kB{ao:Model}{A:dG}{E:dB->dD->Prop}{i:Nat}{x:Str}{v:V}{u:dB}{Q:Unit->dD->Prop}(I:Inv X ag σ H s)(hN:X.N.Nodup)(hi:X.N[i]? = Z x)(hx:yO X.env.scope x)(r:d5 v u)(h:∀s',Inv X ag (σ.set i (Z v)) H s'->Q () s')(hf:X.fn x=M\/X.env.scope.names.lookup x=Z .local:=by first|exact .inl rfl|exact .inr rfl|assumption):dM ao A (storeName X.env x u) Q E s:=
 xA I hN hi hx r (λs' a _=>h s' a) hf
theorem Inv.call'{s':dD}{ch:List dE}(I:Inv X ag σ H s)(ho:s'.os=s.os)(u:Un (frs X.stack) ch H H' s.heap s'.heap)(d:km X.prog X.w H' s'.heap)(hg:AllBare s'.gens)(a:∀b∈ch,(b∈X.ex\/X.s₀.heap.objs.size<=b)/\b≠X.env.locals/\(∀x c,X.env.cells.lookup x=Z c->c≠b) /\ ∀p∈X.pn++ag,p.1≠b):Inv X ag σ H' s':=by
 obtain⟨h',g,f,h,o'⟩:=s';have e:o'=s.os:=ho;subst e;exact I.call (g':=g) (t':=h) (d':=f) u d hg a
end
abbrev XK:=dB->Option dE->Hp->Prop
abbrev St:=List (Option V)
abbrev VK:=V->Hp->Prop
abbrev TE:=St->Hp->VK->Prop
abbrev TT:=St->Hp->(Bool->Hp->Prop)->Prop
abbrev TA:=St->Hp->(List V->Hp->Prop)->Prop
structure i0 where
 nx:St->Hp->Prop
 rt:VK
 bk:St->Hp->Prop:=λ_ _=>False
 ct:St->Hp->Prop:=λ_ _=>False
abbrev TS:=i0->St->Hp->Prop
def EP(X:Cx)(ag:List (dE×Obj))(σ:St)(Q:VK)(u:dB)(s':dD):Prop:=∃v H',Inv X ag σ H' s'/\d5 v u/\Q v H'
def TP(X:Cx)(ag:List (dE×Obj))(σ:St)(Q:Bool->Hp->Prop)(b:Bool)(s':dD):Prop:=∃H',Inv X ag σ H' s'/\Q b H'
def AP(X:Cx)(ag:List (dE×Obj))(σ:St)(Q:List V->Hp->Prop)(us:List dB)(s':dD):Prop:=∃vs H',Inv X ag σ H' s'/\ee vs us/\Q vs H'
def SP(X:Cx)(ag:List (dE×Obj))(D:i0)(f:Flow)(s':dD):Prop:=
 match f with
 | .next=>∃ σ' H',Inv X ag σ' H' s'/\D.nx σ' H'
 | .brk=>∃ σ' H',Inv X ag σ' H' s'/\D.bk σ' H'
 | .cont=>∃ σ' H',Inv X ag σ' H' s'/\D.ct σ' H'
 | .ret u=>∃v σ' H',Inv X ag σ' H' s'/\d5 v u/\D.rt v H'
def PE(X:Cx)(e:Expr)(t:TE):Prop:=
 ∀(ag:List (dE×Obj)) (s:dD) (σ:St) (H:Hp) (Q:VK),Inv X ag σ H s->t σ H Q->dM (model X.prog X.w) X.A (eval e X.env) (EP X ag σ Q) X.xe s
def PT(X:Cx)(e:Expr)(t:TT):Prop:=
 ∀(ag:List (dE×Obj)) (s:dD) (σ:St) (H:Hp) (Q:Bool->Hp->Prop),Inv X ag σ H s->t σ H Q->dM (model X.prog X.w) X.A (isTrue e X.env (eval e X.env)) (TP X ag σ Q) X.xe s
def PW(X:Cx)(e:Expr)(t:TT):Prop:=
 ∀(whole:Sem dB) (ag:List (dE×Obj)) (s:dD) (σ:St) (H:Hp) (Q:Bool->Hp->Prop),Inv X ag σ H s->t σ H Q->dM (model X.prog X.w) X.A (isTrue e X.env whole) (TP X ag σ Q) X.xe s
theorem PW.pt{X:Cx}{e:Expr}{t:TT}(h:PW X e t):PT X e t:=h _
def PA(X:Cx)(es:List Expr)(t:TA):Prop:=
 ∀(pos:Pos) (ag:List (dE×Obj)) (s:dD) (σ:St) (H:Hp) (Q:List V->Hp->Prop),Inv X ag σ H s->t σ H Q->dM (model X.prog X.w) X.A (spliced (backTo pos (dJ es X.env))) (AP X ag σ Q) X.xe s
def PS(X:Cx)(st:dR)(t:TS):Prop:=
 ∀(ag:List (dE×Obj)) (s:dD) (σ:St) (H:Hp) (D:i0),Inv X ag σ H s->t D σ H->dM (model X.prog X.w) X.A (exec st X.env) (SP X ag D) X.xe s
def uv(X:Cx)(st:List dR)(t:TS):Prop:=
 ∀(ag:List (dE×Obj)) (s:dD) (σ:St) (H:Hp) (D:i0),Inv X ag σ H s->t D σ H->dM (model X.prog X.w) X.A (execs st X.env) (SP X ag D) X.xe s
theorem fh{α:Type}{t:Sem α}{Q b:α->dD->Prop}{ao:Model}{A:dG}{E:dB->dD->Prop}{s:dD}(h:dM ao A t Q E s)(c:∀a s,Q a s->b a s):dM ao A t b E s:=wpAny_mono h c λ_ _ x=>x
end L2
namespace L2
open PySem PySem.Spec PyProof.Rows
section
variable{X:Cx}
theorem LW{a b:Expr}{ta tb:TE}(ha:PE X a ta)(hb:PE X b tb){ag:List (dE×Obj)}{s:dD}{σ:St}{H:Hp}{R:V->V->Hp->Prop}(I:Inv X ag σ H s)(h:ta σ H fun x H1=>tb σ H1 fun y H2=>R x y H2){α:Type}{Q:α->dD->Prop}{f:dB->dB->Sem α}(hf:∀v u e x y H2,Inv X ag σ H2 e->d5 x v->d5 y u->R x y H2->dM (model X.prog X.w) X.A (f v u) Q X.xe e):
  dM (model X.prog X.w) X.A (eval a X.env) (λv d=>dM (model X.prog X.w) X.A (eval b X.env) (λu c=>dM (model X.prog X.w) X.A (f v u) Q X.xe c) X.xe d) X.xe s:=by
 refine fh (ha ag s σ H _ I h) λv l ⟨x,H1,m,g,i⟩=>?_;refine fh (hb ag l σ H1 _ m i) λu e ⟨y,H2,k,r2,j⟩=>?_;exact hf v u e x y H2 k g r2 j
noncomputable def HE(i:Nat):TE:=fun σ H Q=>∃v,σ[i]?=Z (Z v)/\Q v H
noncomputable def tC(v:V):TE:=λ_ H Q=>Q v H
theorem zR {i:Nat}{x:Str}{pos:Pos}(hN:X.N[i]?=Z x)(hv:Hf X.env.scope x)(hd:(x == ("__debug__":Str))=J:=by decide)(hcd:(x == ("__classdict__":Str))=J:=by decide):PE X (.Name x pos) (HE i):=by
 intro ag s σ H Q I h;obtain⟨v,e,h⟩:=h;obtain⟨m,f,j⟩:=I.loc;obtain⟨u,r,l⟩:=j i x v hN e hv;have d:EP X ag σ Q u s:=⟨v,H,I,r,h⟩;rcases l with⟨b,g⟩|⟨b,c,hc,a⟩
 ·exact wpAny_Name (wpAny_loadName_local I.ok.kind b f g d) hd
 ·rcases b with b|b
  ·exact wpAny_Name (wpAny_loadName_cell I.ok.kind b hc a d) hd
  ·exact wpAny_Name (wpAny_loadName_free I.ok.kind b hc a d hcd) hd
theorem FF{i j pos}:PE X (.Constant (.int i) j pos) (tC (.int i)):=λ_ _ _ H _ I h=>wpAny_Constant_int ⟨.int i,H,I.tok _,⟨_,O⟩,h⟩
theorem Ii{b j pos}:PE X (.Constant (.bool b) j pos) (tC (.bl b)):=λ_ _ _ H _ I h=>Constant_bool ⟨.bl b,H,I,O,h⟩
theorem FB{j pos}:PE X (.Constant .none j pos) (tC .non):=λ_ _ _ H _ I h=>Constant_none ⟨.non,H,I,O,h⟩
theorem Fw{x j pos}:PE X (.Constant (.str x) j pos) (tC (.str x)):=λ_ _ _ H _ I h=>Calls.Constant_str ⟨.str x,H,I.tok _,⟨_,O⟩,h⟩
def Gl(X:Cx)(x:Str):Prop:=X.env.kindOf x=Z .globalImplicit
theorem wC {E:dB->dD->Prop}{ag:List (dE×Obj)}{s:dD}{σ:St}{H:Hp}{x:Str}{u:dB}{pos:Pos}{Q:dB->dD->Prop}(I:Inv X ag σ H s)(hg:Gl X x)(hm:X.mg x=some u)(h:Q u s)
  (hd:(x == ("__debug__":Str))=J:=by decide):dM (model X.prog X.w) X.A (eval (.Name x pos) X.env) Q E s:=
 Calls.Name_function_global I.ok.kind hg (Calls.loadGlobal_global (by rw[I.ok.glob];exact I.mod.glob.keeps I.bk) hm h) hd
theorem kb {E:dB->dD->Prop}{ag:List (dE×Obj)}{s:dD}{σ:St}{H:Hp}{x:Str}{u:dB}{pos:Pos}{Q:dB->dD->Prop}(I:Inv X ag σ H s)(hg:Gl X x)(hm:X.mg x=none)(hv:bootBuiltins x=some u)(h:Q u s)
  (hn:x≠"__name__":=by decide) (hd:(x == ("__debug__":Str))=J:=by decide):dM (model X.prog X.w) X.A (eval (.Name x pos) X.env) Q E s:=by
 obtain⟨a,h1,h2⟩:=I.mod.blt;exact Calls.Name_function_global I.ok.kind hg (Calls.loadGlobal_builtin (by rw[I.ok.glob];exact I.mod.glob.keeps I.bk) hm (by rw[I.ok.blt];exact h1.keeps I.bk) ((h2 x hn).trans hv) h) hd
theorem CD {x:Str}{v:V}{u:dB}{pos:Pos}(hg:Gl X x)(hm:X.mg x=Z u)(r:d5 v u)(hd:(x == ("__debug__":Str))=J:=by decide):PE X (.Name x pos) (tC v):=
 λ_ _ _ H _ I h=>wC I hg hm ⟨v,H,I,r,h⟩ hd
theorem CI {x:Str}{v:V}{u:dB}{pos:Pos}(hg:Gl X x)(hm:X.mg x=Y)(hv:bootBuiltins x=Z u)(r:d5 v u)(hn:x≠"__name__":=by decide)(hd:(x == ("__debug__":Str))=J:=by decide):PE X (.Name x pos) (tC v):=
 λ_ _ _ H _ I h=>kb I hg hm hv ⟨v,H,I,r,h⟩ hn hd
variable{a b:Expr}{ta tb:TE}{pos:Pos}
noncomputable def tB(t:TE):TT:=fun σ H Q=>t σ H λx H1=>∃c,x = .bl c/\Q c H1
variable{tA tB':TT}{rest:List Expr}
noncomputable def J9(t u:TT):TT:=fun σ H Q=>t σ H λc H1=>if c=M then u σ H1 Q else Q J H1
noncomputable def Ld(t u:TT):TT:=fun σ H Q=>t σ H λc H1=>if c=M then Q M H1 else u σ H1 Q
noncomputable def JX(t:TT):TT:=fun σ H Q=>t σ H λc H1=>Q (!c) H1
theorem Co(ha:PT X a tA):PW X (.BoolOp .And [a] pos) tA:=by
 intro b ag s σ H Q I h;refine isTrue_and (fh (ha ag s σ H Q I h) λc d e=>?_);cases c with
 |true=>exact isTrue_and_nil e
 |false=>exact e
theorem Fd(ha:PT X a tA):PW X (.BoolOp .Or [a] pos) tA:=by
 intro b ag s σ H Q I h;refine isTrue_or (fh (ha ag s σ H Q I h) λc d e=>?_);cases c with
 |false=>exact isTrue_or_nil e
 |true=>exact e
theorem Fe(ha:PT X a tA)(hb:PW X (.BoolOp .And (b::rest) pos) tB'):PW X (.BoolOp .And (a::b::rest) pos) (J9 tA tB'):=by
 intro g ag s σ H Q I h;refine isTrue_and (fh (ha ag s σ H _ I h) λc f ⟨H1,d,e⟩=>?_);cases c with
 |true=>exact hb g ag f σ H1 Q d e
 |false=>exact⟨H1,d,e⟩
theorem H9(ha:PT X a tA)(hb:PW X (.BoolOp .Or (b::rest) pos) tB'):PW X (.BoolOp .Or (a::b::rest) pos) (Ld tA tB'):=by
 intro g ag s σ H Q I h;refine isTrue_or (fh (ha ag s σ H _ I h) λc f ⟨H1,d,e⟩=>?_);cases c with
 |true=>exact⟨H1,d,e⟩
 |false=>exact hb g ag f σ H1 Q d e
theorem Fg(ha:PT X a tA):PT X (.UnaryOp .Not a pos) (JX tA):=by
 intro ag s σ H Q I h;exact isTrue_not (ha ag s σ H (λc H1=>Q (!c) H1) I h)
noncomputable def HS(ta tb:TE):TE:=fun σ H Q=>ta σ H λx H1=>∃c,x = .bl c/\if c=M then tb σ H1 Q else Q (.bl J) H1
noncomputable def HJ(ta:TE):TE:=fun σ H Q=>ta σ H λx H1=>∃c,x = .bl c/\Q (.bl (!c)) H1
theorem Fy{op}{t:TE}(h:PE X a t):PE X (.BoolOp op [a] pos) t:=λag s σ H Q I b=>BoolOp_one (h ag s σ H Q I b)
theorem FJ(ha:PE X a ta)(hb:PE X (.BoolOp .And (b::rest) pos) tb):PE X (.BoolOp .And (a::b::rest) pos) (HS ta tb):=by
 intro ag s σ H Q I h;refine BoolOp_and (fh (ha ag s σ H _ I h) λv f ⟨x,H1,e,g,d⟩=>?_);obtain⟨c,rfl,d⟩:=d;cases g;refine wpAny_truthy_bool ?_;cases c with
 |true=>exact hb ag f σ H1 Q e d
 |false=>exact⟨.bl J,H1,e,O,d⟩
theorem Fz(ha:PE X a ta):PE X (.UnaryOp .Not a pos) (HJ ta):=by
 intro ag s σ H Q I h;refine UnaryOp_ (fh (ha ag s σ H _ I h) λv f ⟨x,H1,d,e,b⟩=>?_);obtain⟨c,rfl,b⟩:=b;cases e;exact not_of (wpAny_truthy_bool ⟨.bl (!c),H1,d,O,b⟩)
noncomputable def Lf(t:TT)(ta tb:TE):TE:=fun σ H Q=>t σ H λc H1=>if c=M then ta σ H1 Q else tb σ H1 Q
theorem zT{c:Expr}(hc:PT X c tA)(ha:PE X a ta)(hb:PE X b tb):PE X (.IfExp c a b pos) (Lf tA ta tb):=by
 intro ag s σ H Q I h;refine wpAny_IfExp (fh (hc ag s σ H _ I h) λd f ⟨H1,e,g⟩=>?_);cases d with
 |true=>exact ha ag f σ H1 Q e g
 |false=>exact hb ag f σ H1 Q e g
end
end L2
namespace L2
open PySem PySem.Spec PyProof.Rows
def mW(K:Fg1)(H:Hp)(a:dE)(xs:List V):Prop:=
 Rd H a (.lst xs) \/
  ∃(o:Obj) (its:Array dB) (n:Nat),K.lookup a=Z o/\o.cls = .type "list"/\o.dict=Y/\o.data = .seq its n/\its.size<=dL/\ee xs its.toList
def j5(K:Fg1)(H:Hp)(a:dE)(xs:List V):Prop:=
 Rd H a (.tup xs) \/
  ∃(o:Obj) (its:Array dB) (n:Nat),K.lookup a=Z o/\o.cls = .type "tuple"/\o.data = .seq its n/\its.size<=dL/\ee xs its.toList
noncomputable def KE:dB->Option V
 | .none=>Z .non
 | .bool b=>Z (.bl b)
 | .int i _=>Z (.int i)
 | .str x _=>Z (.str x)
 | .bytes b _=>Z (.byt b)
 | .float b _=>Z (.flt b)
 | .ref a=>Z (.ref a)
 | .type n=>Z (.ty n)
 |_=>Y
theorem d5.abs{x:V}{u:dB}(r:d5 x u):KE u=Z x:=by
 cases x with
 |non=>cases r;rfl
 |bl _=>cases r;rfl
 |int _=>obtain⟨t,rfl⟩:=r;rfl
 |str _=>obtain⟨t,rfl⟩:=r;rfl
 |byt _=>obtain⟨t,rfl⟩:=r;rfl
 |flt _=>obtain⟨t,rfl⟩:=r;rfl
 |ref _=>cases r;rfl
 |ty _=>cases r;rfl
theorem d5.inj{x y:V}{u:dB}(r:d5 x u)(q:d5 y u):x=y:=Option.some.inj (r.abs.symm.trans q.abs)
theorem ee.inj:∀{xs ys:List V} {a:List dB},ee xs a->ee ys a->xs=ys:=by
 intro xs ys a h g
 induction h generalizing ys with
 |nil=>cases g;rfl
 |cons r t ih=>cases g with
  |cons c b=>rw[r.inj c,ih b]
section
variable{X:Cx}{ag:List (dE×Obj)}{σ:St}{H:Hp}{s:dD}{a:dE}{xs ys:List V}
theorem mW.of{K:Fg1}(h:H a=Z (.lst xs)):mW K H a xs:=.inl (.inl h)
theorem j5.of{K:Fg1}(h:H a=Z (.tup xs)):j5 K H a xs:=.inl (.inl h)
theorem Inv.list(I:Inv X ag σ H s)(h:mW X.K H a xs):∃b:List dB,ee xs b/\PlainL s.heap a b.toArray/\xs.length<=dL:=by
 rcases h with h|⟨o,b,n,d,hc,f,c,g,r⟩
 ·obtain⟨z,b,n,r,e⟩:=h.ok I.hok;exact⟨b,r,⟨_,n,e,O,O,O⟩,z⟩
 ·refine⟨b.toList,r,⟨o,n,I.kIn a o d,hc,f,by simpa using c⟩,?_⟩;have e:=r.length;simp only[aJ]at e;lia
theorem Inv.tuple(I:Inv X ag σ H s)(h:j5 X.K H a xs):∃b:List dB,ee xs b/\IsTup s.heap a b.toArray/\xs.length<=dL:=by
 rcases h with h|⟨o,b,n,d,hc,c,f,r⟩
 ·obtain⟨z,b,r,p⟩:=h.ok I.hok;exact⟨b,r,p,z⟩
 ·refine⟨b.toList,r,⟨o,I.kIn a o d,hc,n,by simpa using c⟩,?_⟩;have e:=r.length;simp only[aJ]at e;lia
theorem Inv.list_inj(I:Inv X ag σ H s)(h:mW X.K H a xs)(h':mW X.K H a ys):xs=ys:=by
 obtain⟨b,r,⟨o,n,e,_,_,d⟩,_⟩:=I.list h;obtain⟨its',i,⟨o',j,c,_,_,f⟩,_⟩:=I.list h';rw[e]at c;cases c;rw[d]at f;injection f with g _;have:b=its':=by simpa using congrArg Array.toList g
 subst this;exact r.inj i
theorem Inv.tuple_inj(I:Inv X ag σ H s)(h:j5 X.K H a xs)(h':j5 X.K H a ys):xs=ys:=by
 obtain⟨b,r,⟨o,e,_,n,d⟩,_⟩:=I.tuple h;obtain⟨its',i,⟨o',c,_,j,f⟩,_⟩:=I.tuple h';rw[e]at c;cases c;rw[d]at f;injection f with g _;have:b=its':=by simpa using congrArg Array.toList g
 subst this;exact r.inj i
end
abbrev Cx.wish(X:Cx)(E:dB->dD->Prop):Cx:={X with xe:=E}
abbrev Cx.nox(X:Cx):Cx:=X.wish λ_ _=>False
theorem Cx.Ok.wish{X:Cx}(ok:X.Ok)(E:dB->dD->Prop):(X.wish E).Ok:=
 ⟨ok.mod,ok.kind,ok.glob,ok.blt,ok.above,ok.inj,ok.has,ok.cab,ok.hd,ok.frames,ok.stk,ok.exf,ok.bs,ok.bsz,ok.noex,ok.exfs,ok.funs,ok.frf⟩
theorem Cx.Ok.unwish{X:Cx}{E:dB->dD->Prop}(ok:(X.wish E).Ok):X.Ok:=
 ⟨ok.mod,ok.kind,ok.glob,ok.blt,ok.above,ok.inj,ok.has,ok.cab,ok.hd,ok.frames,ok.stk,ok.exf,ok.bs,ok.bsz,ok.noex,ok.exfs,ok.funs,ok.frf⟩
section
variable{X:Cx}{ag:List (dE×Obj)}{σ:St}{H:Hp}{s:dD}{E:dB->dD->Prop}
theorem Inv.wish(I:Inv X ag σ H s)(E:dB->dD->Prop):Inv (X.wish E) ag σ H s:=⟨I.ok.wish E,I.os,I.bare,I.base,I.loc,I.cell,I.free,I.freeC,I.pin,I.hok,I.len⟩
theorem Inv.unwish(I:Inv (X.wish E) ag σ H s):Inv X ag σ H s:=⟨I.ok.unwish,I.os,I.bare,I.base,I.loc,I.cell,I.free,I.freeC,I.pin,I.hok,I.len⟩
theorem SP.unwish{D:i0}{f:Flow}{s':dD}(h:SP (X.wish E) ag D f s'):SP X ag D f s':=by
 cases f with
 |next=>obtain⟨a,H',I,q⟩:=h;exact⟨a,H',I.unwish,q⟩
 |brk=>obtain⟨a,H',I,q⟩:=h;exact⟨a,H',I.unwish,q⟩
 |cont=>obtain⟨a,H',I,q⟩:=h;exact⟨a,H',I.unwish,q⟩
 |ret u=>obtain⟨v,a,H',I,r,q⟩:=h;exact⟨v,a,H',I.unwish,r,q⟩
theorem uv.nox{st:List dR}{t:TS}(h:uv X.nox st t):uv X st t:=λag s σ H D I a=>
 wpAny_mono (h ag s σ H D (I.wish _) a) (λ_ _ q=>q.unwish) λ_ _ z=>False.elim z
end
section
variable{X:Cx}{st:dR}{rest:List dR}{t u:TS}{e:Expr}{te:TE}{pos:Pos}
noncomputable def HK:TS:=λD σ H=>D.nx σ H
noncomputable def JU(t u:TS):TS:=λD σ H=>t {D with nx:=u D} σ H
theorem Ct:uv X [] HK:=λ_ _ σ H _ I h=>wpAny_execs_nil ⟨σ,H,I,h⟩
theorem zG(h1:PS X st t)(h2:uv X rest u):uv X (st::rest) (JU t u):=by
 intro ag s σ H D I h;refine wpAny_execs_cons (fh (h1 ag s σ H {D with nx:=u D} I h) λf c q=>?_);cases f with
 |next=>
  obtain⟨a,H',b,q⟩:=q;exact h2 ag c a H' D b q
 |ret v=>exact q
 |brk=>exact q
 |cont=>exact q
theorem Cs(h1:PS X st t):uv X [st] t:=by
 intro ag s σ H D I h;refine wpAny_execs_cons (fh (h1 ag s σ H D I h) λf a q=>?_);cases f with
 |next=>exact wpAny_execs_nil q
 |ret v=>exact q
 |brk=>exact q
 |cont=>exact q
theorem Inv.quiet{ag:List (dE×Obj)}{σ:St}{H:Hp}{s:dD}(I:Inv X ag σ H s):interactive X.env=J:=by simp[interactive,I.ok.kind]
noncomputable def HN(te:TE):TS:=λD σ H=>te σ H λ_ H1=>D.nx σ H1
theorem Cu(he:PE X e te)(hs:swapsWith e Y pos.line X.env=pure J:=by rfl):PS X (.Expr e pos) (HN te):=by
 intro ag s σ H D I h;exact wpAny_Expr_any (fh (he ag s σ H _ I h) λv c ⟨x,H1,a,d,b⟩=>⟨σ,H1,a,b⟩) I.quiet hs
noncomputable def JV(te:TE):TS:=λD σ H=>te σ H D.rt
theorem Fj(he:PE X e te):PS X (.Return (Z e) pos) (JV te):=by
 intro ag s σ H D I h;exact wpAny_Return_some (fh (he ag s σ H _ I h) λv d ⟨x,H1,a,c,b⟩=>⟨x,σ,H1,a,c,b⟩)
noncomputable def J7(c:TT)(t u:TS):TS:=λD σ H=>c σ H λb H1=>if b=M then t D σ H1 else u D σ H1
theorem Ib{c:Expr}{a b:List dR}{tc:TT}(hc:PT X c tc)(ha:uv X a t)(hb:uv X b u):PS X (.If c a b pos) (J7 tc t u):=by
 intro ag s σ H D I h;refine wpAny_If (fh (hc ag s σ H _ I h) λd f ⟨H1,e,g⟩=>?_);cases d with
 |true=>exact ha ag f σ H1 D e g
 |false=>exact hb ag f σ H1 D e g
end
abbrev TG:=V->St->Hp->(St->Hp->Prop)->Prop
abbrev Eu:=List V->St->Hp->(St->Hp->Prop)->Prop
def PG(X:Cx)(target:Expr)(t:TG):Prop:=
 ∀(ag:List (dE×Obj)) (s:dD) (σ:St) (H:Hp) (v:V) (u:dB) (Q:St->Hp->Prop),Inv X ag σ H s->d5 v u->t v σ H Q ->
  dM (model X.prog X.w) X.A (assign target X.env u) (λ_ s'=>∃ σ' H',Inv X ag σ' H' s'/\Q σ' H') X.xe s
def Hj(X:Cx)(ts:List Expr)(t:Eu):Prop:=
 ∀(ag:List (dE×Obj)) (s:dD) (σ:St) (H:Hp) (vs:List V) (us:List dB) (Q:St->Hp->Prop),Inv X ag σ H s->ee vs us->t vs σ H Q ->
  dM (model X.prog X.w) X.A (assignInOrder ((assignEach ts X.env).map (·.2)) us) (λ_ s'=>∃ σ' H',Inv X ag σ' H' s'/\Q σ' H') X.xe s
abbrev Hg:=V->V->V->Hp->(Hp->Prop)->Prop
def vM(X:Cx)(t:Hg):Prop:=
 ∀(ag:List (dE×Obj)) (s:dD) (σ:St) (H:Hp) (o i v:V) (ov iv u:dB) (Q:Hp->Prop),Inv X ag σ H s->d5 o ov->d5 i iv->d5 v u->t o i v H Q ->
  dM (model X.prog X.w) X.A (setItem ov iv u) (λ_ s'=>∃H',Inv X ag σ H' s'/\Q H') X.xe s
section
variable{X:Cx}{pos:Pos}
noncomputable def wR(i:Nat):TG:=λv σ H Q=>Q (σ.set i (Z v)) H
theorem wd{i:Nat}{x:Str}(hN:X.N.Nodup)(hi:X.N[i]?=Z x)(hx:yO X.env.scope x)(hf:X.fn x=M\/X.env.scope.names.lookup x=Z .local:=by first|exact .inl rfl|exact .inr rfl|assumption):PG X (.Name x pos) (wR i):=by
 intro ag s σ H v u Q I r h;exact wpAny_assign_Name (kB I hN hi hx r (λs' a=>⟨_,H,a,h⟩) hf)
noncomputable def Kx:Eu:=λvs σ H Q=>vs=[]/\Q σ H
noncomputable def IT(t:TG)(u:Eu):Eu:=λvs σ H Q=>∃v r,vs=v::r/\t v σ H fun σ' H'=>u r σ' H' Q
theorem CC:Hj X [] Kx:=by
 intro ag s σ H vs a Q I r h;obtain⟨e,h⟩:=h;subst e;cases r;exact assignInOrder_nil ⟨σ,H,I,h⟩
theorem zQ{e:Expr}{es:List Expr}{t:TG}{u:Eu}(h1:PG X e t)(h2:Hj X es u)(hs:(assignEach (e::es) X.env).map (·.2)=assign e X.env::(assignEach es X.env).map (·.2):=by rfl):Hj X (e::es) (IT t u):=by
 intro ag s σ H vs i Q I r h;obtain⟨v,j,d,h⟩:=h;subst d;cases r with
 |cons r c=>
  rw[hs];refine assignInOrder_cons (fh (h1 ag s σ H _ _ _ I r h) λ_ f ⟨a,H1,g,b⟩=>?_);exact h2 ag f a H1 _ _ Q g c b
noncomputable def gTup(K:Fg1)(n:Nat)(t:Eu):TG:=λv σ H Q=>∃a xs,v = .ref a/\j5 K H a xs/\xs.length=n/\t xs σ H Q
theorem Ft{es:List Expr}{k:Nat}{t:Eu}{n:Nat}(hc:X.calm=M)(h:Hj X es t)(hn:(assignEach es X.env).length=n:=by rfl)(hst:(assignEach es X.env).findIdx? (·.1)=Y:=by rfl):PG X (.Tuple es k pos) (gTup X.K n t):=by
 intro ag s σ H v u Q I r c;obtain⟨a,xs,l,i,m,c⟩:=c;subst l;cases r;obtain⟨f,d,p,q⟩:=I.tuple i;refine assign_Tuple_tuple (I.ok.hd hc) p (by simp[hn,<- m,d.length]) hst λh' g=>?_;have j:Inv X ag σ H {s with heap:=h'}:=I.kept (t':=s.toks) λb o e=>g b o (nN1 (hL1 e)) e;exact h ag _ σ H xs _ Q j (by simpa using d) c
noncomputable def gSub(to ti:TE)(t:Hg):TG:=λv σ H Q=>to σ H λo H1=>ti σ H1 λi H2=>t o i v H2 λH3=>Q σ H3
theorem Fu{o i:Expr}{to ti:TE}{t:Hg}(ho:PE X o to)(hi:PE X i ti)(hs:vM X t)(ha:∀v,assign (.Subscript o i pos) X.env v=(do
   let a<-holding [v] (eval o X.env)
   let b<-holding [v,a] (eval i X.env)
   standAt pos
   holding [v,a,b] (setItem a b v)
   release [v,a,b] []):=by intro _;rfl):PG X (.Subscript o i pos) (gSub to ti t):=by
 intro ag s σ H v u Q I r h;rw[ha];refine wB1 (wpAny_holding (fh (ho ag s σ H _ I h) λa d ⟨x,H1,m,g,f⟩=>?_));refine wB1 (wpAny_holding (fh (hi ag d σ H1 _ m f) λb e ⟨y,H2,k,r2,j⟩=>?_));refine wB1 (wpAny_standAt (wB1 (wpAny_holding (fh (hs ag e σ H2 x y v a b u _ k g r2 r j) λ_ p ⟨n,c,l⟩=>?_))));exact wpAny_release ⟨σ,n,c,l⟩
noncomputable def zo(te:TE)(g:TG):TS:=λD σ H=>te σ H λx H1=>g x σ H1 D.nx
theorem Fn{tg e:Expr}{te:TE}{g:TG}(he:PE X e te)(hg:PG X tg g)(hs:swapsWithSole [tg] e pos.line X.env=pure J:=by rfl)(hw:swappedStores [tg] e X.env=pure Y:=by rfl)(h1:(assignEach [tg] X.env).map (·.2)=[assign tg X.env]:=by rfl):PS X (.Assign [tg] e pos) (zo te g):=by
 intro ag s σ H D I h;refine wpAny_Assign_stores (fh (he ag s σ H _ I h) λv c ⟨x,H1,d,b,a⟩=>?_) hs hw;rw[h1];exact fh (hg ag c σ H1 x v _ d b a) λ_ f q=>q
theorem Fi{i:Nat}{x:Str}{e:Expr}{te:TE}{pos':Pos}(hN:X.N.Nodup)(hi:X.N[i]? = some x)(hx:yO X.env.scope x)(he:PE X e te)(hs:swapsWith e (some (.Name x pos')) pos.line X.env=pure false:=by rfl)(hf:X.fn x=true\/X.env.scope.names.lookup x=some .local:=by first | exact .inl rfl | exact .inr rfl | assumption):
  PS X (.Assign [.Name x pos'] e pos) (zo te (wR i)):=by
 intro ag s σ H D I h;refine wpAny_Assign_Name (fh (he ag s σ H _ I h) λv g ⟨y,H1,d,b,a⟩=>?_) hs;exact kB d hN hi hx b (λf c=>⟨_,H1,c,a⟩) hf
noncomputable def JW(i j:Nat)(ta:TA):TS:=λD σ H=>ta σ H λvs H1=>∃v w,vs=[v,w]/\D.nx ((σ.set i (Z v)).set j (Z w)) H1
theorem Fk{i j:Nat}{x y:Str}{a b:Expr}{ta:TA}{g f pt:Pos}{kt k2 pt2}(hc:X.calm=true)(hN:X.N.Nodup)(hi:X.N[i]? = some x)(G:X.N[j]? = some y)(l:i≠j)(hx:X.env.scope.names.lookup x=some .local)(hy:X.env.scope.names.lookup y=some .local)(ha:PA X [a,b] ta)(hw:swappedStores [.Tuple [.Name x g,.Name y f] kt pt] (.Tuple [a,b] k2 pt2) X.env=pure (some [x,y]))(hs:swapsWithSole [.Tuple [.Name x g,.Name y f] kt pt] (.Tuple [a,b] k2 pt2) pos.line X.env=pure false:=by rfl):
  PS X (.Assign [.Tuple [.Name x g,.Name y f] kt pt] (.Tuple [a,b] k2 pt2) pos) (JW i j ta):=by
 intro ag s σ H D I h;rw[exec_Assign_arm];refine wB1 (wpAny_standAt ?_);rw[hs];refine wB1 (wP1 ?_);rw[aj (by decide)];refine wB1 (Tuple_ (fh (ha _ ag s σ H _ I h) λam d ⟨vs,H1,K,E,k⟩=>?_));obtain⟨v,w,t,k⟩:=k;subst t;obtain⟨c,u2,rfl,C,m⟩:∃c u2,am=[c,u2]/\d5 v c/\d5 w u2:=by
  cases E with
  |cons p q=>
   cases q with
   |cons F A=>
    cases A;exact⟨_,_,O,p,F⟩
 refine wO1 ?_ (by show 2<=dL;decide);have B:Inv X ag σ H1 {d with heap:=d.heap.push {cls:=.type "tuple",data:=.seq [c,u2].toArray}}:=K.kept (t':=d.toks) λb o e=>hP1 _ e;rw[hw];refine wB1 (wP1 ?_);show dM (model X.prog X.w) X.A (do rule "assign.swapped-stores";let items<-unpackItems (.ref d.heap.objs.size) 2 Y;assignInOrder [λv=>bindName X.env y v,λv=>bindName X.env x v] items.reverse;pure Flow.next) _ _ _;refine wB1 (wpAny_rule (wB1 (unpackItems_tuple (items:= #[c,u2]) (I.ok.hd hc) (IsTup.new d.heap _) λh' n=>?_)));have u:=B.kept (h':=h') (t':=d.toks) λb o e=>n b o (nN1 (hL1 e)) e;show dM _ _ (assignInOrder [λv=>bindName X.env y v,λv=>bindName X.env x v] [u2,c] >>= λ_=>pure Flow.next) _ _ _;refine wB1 (assignInOrder_cons (wpAny_bindName (kB u hN G (.inl hy) m (λao z=>?_) (.inr hy))));refine assignInOrder_cons (wpAny_bindName (kB z hN hi (.inl hx) C (λL r=>assignInOrder_nil (wP1 ?_)) (.inr hx)));rw[List.set_comm _ _ (Ne.symm l)]at r;exact⟨_,H1,r,k⟩
noncomputable def zk(c:TT)(tb:TS):TS:=λD σ H=>∃W:Nat->St->Hp->Prop,(∃m,W m σ H) /\ ∀m σ H,W m σ H ->
 c σ H λb H1=>if b=M then∃N:St->Hp->Prop,(∀ σ' H',N σ' H' -> ∃m',m'<m/\W m' σ' H')/\tb {D with nx:=N,ct:=N,bk:=D.nx} σ H1 else D.nx σ H1
theorem zI{c:Expr}{e:List dR}{tc:TT}{tb:TS}(hp:PassesOwn (model X.prog X.w) X.A X.env X.xe)(hc:PT X c tc)(hb:uv X e tb):PS X (.While c e [] pos) (zk tc tb):=by
 intro ag s σ H D I h;obtain⟨W,⟨y,w⟩,g⟩:=h;refine wpAny_While (codeAny_whileLoop (λn s'=>∃i H',Inv X ag i H' s'/\W n i H') ?_ y ⟨σ,H,I,w⟩);rintro n z ⟨d,H1,B,x⟩;refine wpAny_passesOwn hp (fh (hc ag z d H1 _ B (g n d H1 x)) λb A ⟨H2,t,k⟩=>?_);cases b with
 |true=>
  obtain⟨N,u,k⟩:=k;rw[ak O];refine wpAny_passesOwn hp (fh (hb ag A d H2 _ t k) λf C l=>?_);cases f with
  |next=>
   obtain⟨a,j,m,o⟩:=l;obtain⟨r,p,q⟩:=u a j o;exact⟨r,p,a,j,m,q⟩
  |cont=>
   obtain⟨a,j,m,o⟩:=l;obtain⟨r,p,q⟩:=u a j o;exact⟨r,p,a,j,m,q⟩
  |brk=>exact l
  |ret v=>exact l
 |false=>
  rw[aj aK];exact wpAny_execs_nil ⟨d,H2,t,k⟩
end
structure It where
 go:Nat->Hp->Prop
 yld:Nat->Hp->V->Hp->Prop
 stop:Nat->Hp->Prop
def jP(X:Cx)(ag:List (dE×Obj))(H:Hp)(b:dE):Prop:=
 H b=Y/\b≠X.env.locals/\b∉X.fs/\(b∈X.ex\/X.s₀.heap.objs.size<=b)/\(∀x c,X.env.cells.lookup x=Z c->c≠b) /\ ∀p∈X.pn++ag,p.1≠b
theorem Inv.fpOk{X:Cx}{ag:List (dE×Obj)}{σ:St}{H H':Hp}{s:dD}{b:dE}(I:Inv X ag σ H s)(hb:s.heap.objs.size<=b)(hn:H' b=Y):jP X ag H' b:=by
 refine⟨hn,nG1 (nL1 I.lt hb),I.nofs hb,.inr (aC I.sz hb),λx c e z=>?_,λp a z=>?_⟩
 ·obtain⟨v,q⟩:=I.cell x c e;exact absurd (nL1 q.lt (by rw[z];exact hb)) (az _)
 ·exact absurd (nL1 (hL1 (I.pin p a).1) (by rw[z];exact hb)) (az _)
structure vI (P:dF)(w:dH)(K:Fg1)(tg:Expr)(am:It)(fp:List dE)(it:dE)(tn:Nat->dP->Prop):Prop where
 mem:it∈fp
 obj:∀i h,tn i h -> ∀b∈fp,∃o,h.get? b=some o /\ ∀v,o.data ≠ .cell v
 keep:∀i h h',tn i h->(∀b∈fp,∀o,h.get? b=some o->h'.get? b=some o)->tn i h'
 item:∀(X:Cx),X.prog=P->X.w=w->X.K=K->X.calm=true -> ∀(i:Nat) (ag:List (dE×Obj)) (s:dD) (σ:St) (H:Hp) (E:dB->dD->Prop),Inv X ag σ H s->(∀b∈fp,jP X ag H b)->tn i s.heap->am.go i H ->
  dM (model P w) X.A (pyNext (.ref it)) (λr s1=>∃u,r=some u /\
   dM (model P w) X.A (letOwnedTupleGo tg (.ref it) u) (λ_ s2=>∃x H',Inv X ag σ H' s2/\d5 x u/\am.yld i H x H'/\tn (i+1) s2.heap /\ ∀b∈fp,H' b=none) E s1) E s
 done:∀(X:Cx),X.prog=P->X.w=w->X.K=K->X.calm=true -> ∀(i:Nat) (ag:List (dE×Obj)) (s:dD) (σ:St) (H:Hp) (E:dB->dD->Prop),Inv X ag σ H s->(∀b∈fp,jP X ag H b)->tn i s.heap->am.stop i H ->
  dM (model P w) X.A (pyNext (.ref it)) (λr s1=>r=none/\Inv X ag σ H s1) E s
 self:∀(A:dG) (i:Nat) (s:dD) (Q:dB->dD->Prop) (E:dB->dD->Prop),tn i s.heap->Q (.ref it) s->dM (model P w) A (pyIter (.ref it)) Q E s
abbrev TI:=St->Hp->(It->Hp->Prop)->Prop
def K6(X:Cx)(ag:List (dE×Obj))(σ:St)(tg:Expr)(R:It->Hp->Prop)(itv:dB)(s2:dD):Prop:=
 ∃(it:dE) (fp:List dE) (tn:Nat->dP->Prop) (am:It) (H':Hp),itv = .ref it/\Inv X ag σ H' s2/\vI X.prog X.w X.K tg am fp it tn/\tn 0 s2.heap/\(∀b∈fp,jP X ag H' b)/\R am H'
def PI(X:Cx)(tg iter:Expr)(wi:TI):Prop:=
 ∀(ag:List (dE×Obj)) (s:dD) (σ:St) (H:Hp) (R:It->Hp->Prop),Inv X ag σ H s->wi σ H R ->
  dM (model X.prog X.w) X.A (eval iter X.env) (λv s1=>dM (model X.prog X.w) X.A (pyIter v) (K6 X ag σ tg R) X.xe s1) X.xe s
theorem wP {ao:Model}{A:dG}{E:dB->dD->Prop}{s:dD}{tg:Expr}{it:dE}{u:dB}{o:Obj}{n:String}{vs:Array dB}{Q:Unit->dD->Prop}(ho:s.heap.get? it=some o)(hc:o.cls = .type n)(hd:o.data = .fields vs)
   (hn:["enumerate","zip","dict_itemiterator","dict_reverseitemiterator","odict_iterator","itertools.zip_longest","itertools.pairwise"].contains n=J) (a:Q () s):dM ao A (letOwnedTupleGo tg (.ref it) u) Q E s:=by
 unfold letOwnedTupleGo;cases tg <;> first
   |exact wP1 a
   | (cases u<;>first
       |exact wP1 a
       | (refine wB1 (wpAny_load ho ?_)
          rw[hc,hd];show dM ao A (if(["enumerate","zip","dict_itemiterator","dict_reverseitemiterator","odict_iterator","itertools.zip_longest","itertools.pairwise"].contains n&&vs[0]? == Z (rawInt _))=M then _ else _) Q E s;rw[aj (by intro h;rw[hn,Bool.false_and]at h;cases h)];exact wP1 a))
noncomputable def La(K:Fg1)(a:dE):It:=
 ⟨λi H=>∃xs x,mW K H a xs/\xs[i]?=Z x,λi H x H'=>H'=H /\ ∀xs,mW K H a xs->xs[i]?=Z x,λi H=>∃xs,mW K H a xs/\xs.length<=i⟩
noncomputable def K9(K:Fg1)(a:dE):It:=
 ⟨λi H=>∃xs x,j5 K H a xs/\xs[i]?=Z x,λi H x H'=>H'=H /\ ∀xs,j5 K H a xs->xs[i]?=Z x,λi H=>∃xs,j5 K H a xs/\xs.length<=i⟩
noncomputable def Jr(lo:Int)(n:Nat):It:=⟨λi _=>i<n,λi H x H'=>H'=H/\x = .int (lo+i),λi _=>n<=i⟩
theorem xw{P:dF}{w:dH}{K:Fg1}{tg:Expr}(a it:dE):vI P w K tg (La K a) [it] it (λi h=>h.IsListIter it a i) where
 mem:=by simp
 obj:=λi h st b f=>by
  have e:b=it:=by simpa using f
  subst e;obtain⟨o,e,c,d⟩:=st;exact⟨o,e,λv z=>by rw[d]at z;cases z⟩
 keep:=λi h h' st k=>st.at λo e=>k it (by simp) o e
 item:=by
  intro X F D m hc i ag s σ H E I j st B;subst F D m;obtain⟨xs,x,g,y⟩:=B;obtain⟨n,r,p,au⟩:=I.list g;obtain⟨u,Q,am⟩:=r.get y;obtain⟨A,t,N,C,l,q⟩:=j it (by simp);refine wpAny_pyNext_list_item st p.isList (x:=u) (by simpa using Q) λh' st' ao=>?_;have R:Inv X ag σ H {s with heap:=h'}:=I.turned (t':=s.toks) (λb o f e=>(ao.2 b f).trans e) A t C l q;obtain⟨o,e,c,d⟩:=id st';exact⟨u,O,wP (s:={s with heap:=h'}) e c d (by decide) ⟨x,H,R,am,⟨O,λys G=>by rw[I.list_inj G g];exact y⟩,st',λb f=>(j b f).1⟩⟩
 done:=by
  intro X F D m hc i ag s σ H E I j st B;subst F D m;obtain⟨xs,g,y⟩:=B;obtain⟨n,r,p,au⟩:=I.list g;obtain⟨A,t,N,C,l,q⟩:=j it (by simp);have S:=r.length;exact wpAny_pyNext_list_end (I.ok.hd hc) st p.isList (by simp;lia) λh' L=>⟨O,I.turned (t':=s.toks) (λb o f e=>L b o f e) A t C l q⟩
 self:=λ_ _ _ _ _ st h=>wpAny_pyIter_listiter st h
theorem uG{P:dF}{w:dH}{K:Fg1}{tg:Expr}(a it:dE):vI P w K tg (K9 K a) [it] it (λi h=>h.IsTupleIter it a i) where
 mem:=by simp
 obj:=λi h st b g=>by
  have e:b=it:=by simpa using g
  subst e;obtain⟨o,e,c,d⟩:=st;exact⟨o,e,λv z=>by rw[d]at z;cases z⟩
 keep:=λi h h' st k=>st.at λo e=>k it (by simp) o e
 item:=by
  intro X F D n hc i ag s σ H E I l st B;subst F D n;obtain⟨xs,x,j,y⟩:=B;obtain⟨f,r,p,au⟩:=I.tuple j;obtain⟨u,Q,am⟩:=r.get y;obtain⟨A,t,N,C,m,q⟩:=l it (by simp);refine wpAny_pyNext_tuple_item st (show s.heap.IsTuple a f.toArray from p) (x:=u) (by simpa using Q) λh' st' ao=>?_;have R:Inv X ag σ H {s with heap:=h'}:=I.turned (t':=s.toks) (λb o g e=>(ao.2 b g).trans e) A t C m q;obtain⟨o,e,c,d⟩:=id st';exact⟨u,O,wP (s:={s with heap:=h'}) e c d (by decide) ⟨x,H,R,am,⟨O,λys G=>by rw[I.tuple_inj G j];exact y⟩,st',λb g=>(l b g).1⟩⟩
 done:=by
  intro X F D n hc i ag s σ H E I l st B;subst F D n;obtain⟨xs,j,y⟩:=B;obtain⟨f,r,p,au⟩:=I.tuple j;obtain⟨A,t,N,C,m,q⟩:=l it (by simp);have S:=r.length;exact wpAny_pyNext_tuple_end (I.ok.hd hc) st (show s.heap.IsTuple a f.toArray from p) (by simp;lia) λh' L=>⟨O,I.turned (t':=s.toks) (λb o g e=>L b o g e) A t C m q⟩
 self:=λ_ _ _ _ _ st h=>wpAny_pyIter_tupleiter st h
theorem uH{P:dF}{w:dH}{K:Fg1}{tg:Expr}(it:dE)(lo:Int)(n:Nat):vI P w K tg (Jr lo n) [it] it (λi h=>IsRangeIter h it (lo+(i:Nat)*1) ((n:Int)-(i:Nat)) 1) where
 mem:=by simp
 obj:=λi h st b a=>by
  have e:b=it:=by simpa using a
  subst e;exact⟨_,st,λv z=>by
   have x:Data.fields _=Data.cell v:=z;cases x⟩
 keep:=λi h h' st k=>k it (by simp) _ st
 item:=by
  intro X r p l hc i ag s σ H E I c st m;subst r p l;obtain⟨g,q,y,f,d,j⟩:=c it (by simp);have W:=Walks.range (prog:=X.prog) (w:=X.w) (I.ok.hd hc) it lo 1 n;refine W.item i s _ _ m st λv h' tk A st' u=>?_;obtain⟨t,rfl⟩:=A;have B:Inv X ag σ H {s with heap:=h',toks:=tk}:=I.turned (λb o a e=>u b o (by simpa using a) e) g q f d j;refine⟨_,O,wP (s:={s with heap:=h',toks:=tk}) (n:="range_iterator") st' O O (by decide) ⟨.int (lo+i),H,B,⟨t,?_⟩,⟨O,O⟩,st',λb a=>(c b a).1⟩⟩;rw[Int.mul_one]
 done:=by
  intro X r p l hc i ag s σ H E I c st m;subst r p l;obtain⟨g,q,y,f,d,j⟩:=c it (by simp);exact wpAny_pyNext_range_end (I.ok.hd hc) st (by have:n<=i:=m;lia) λh' C=>⟨O,I.turned (t':=s.toks) (λb o a e=>C b o a e) g q f d j⟩
 self:=λ_ _ _ _ _ st h=>wpAny_pyIter_rangeiter st h
end L2
namespace L2
open PySem PySem.Spec PyProof.Rows
section
variable{X:Cx}{tg:Expr}
noncomputable def IN(K:Fg1)(tl:TE):TI:=fun σ H R=>tl σ H λx H1=>∃a,x = .ref a/\(∃xs,mW K H1 a xs)/\R (La K a) H1
noncomputable def Kw(K:Fg1)(tl:TE):TI:=fun σ H R=>tl σ H λx H1=>∃a,x = .ref a/\(∃xs,j5 K H1 a xs)/\R (K9 K a) H1
theorem CB{l:Expr}{tl:TE}(i:PE X l tl):PI X tg l (IN X.K tl):=by
 intro ag s σ H R I h;refine fh (i ag s σ H _ I h) λv d ⟨x,H1,c,k,j⟩=>?_;obtain⟨a,e,⟨xs,g⟩,q⟩:=j;subst e;cases k;obtain⟨f,r,p,n⟩:=c.list g;refine wpAny_pyIter_list p.isList ?_;refine⟨d.heap.objs.size,[d.heap.objs.size],_,_,H1,O,c.kept (t':=d.toks) λb o e=>hP1 _ e,xw a _,⟨_,hS1 _ O,O,O⟩,λb m=>?_,q⟩;have e:b=d.heap.objs.size:=by simpa using m
 subst e;exact c.fpOk (nR1 _) (c.hok.fresh (nR1 _))
theorem Fq{l:Expr}{tl:TE}(i:PE X l tl):PI X tg l (Kw X.K tl):=by
 intro ag s σ H R I h;refine fh (i ag s σ H _ I h) λv c ⟨x,H1,d,k,j⟩=>?_;obtain⟨a,e,⟨xs,g⟩,q⟩:=j;subst e;cases k;obtain⟨f,r,p,n⟩:=d.tuple g;refine wpAny_pyIter_tuple (show c.heap.IsTuple a f.toArray from p) ?_;refine⟨c.heap.objs.size,[c.heap.objs.size],_,_,H1,O,d.kept (t':=c.toks) λb o e=>hP1 _ e,uG a _,⟨_,hS1 _ O,O,O⟩,λb m=>?_,q⟩;have e:b=c.heap.objs.size:=by simpa using m
 subst e;exact d.fpOk (nR1 _) (d.hok.fresh (nR1 _))
theorem sJ{ag:List (dE×Obj)}{σ:St}{H:Hp}{s:dD}{R:It->Hp->Prop}{E:dB->dD->Prop}{lo hi:Int}{t u v:Tok}{tk:Nat}(I:Inv X ag σ H s)(h1: -(2^62)<=lo)(h2:lo<2^62)(c: -(2^62)<=hi)(f:hi<2^62)(q:R (Jr lo (hi-lo).toNat) H):dM (model X.prog X.w) X.A (pyIter (.ref s.heap.objs.size)) (K6 X ag σ tg R) E {s with heap:=s.heap.push {cls:=.type "range",data:=.fields #[.int lo t,.int hi u,.int 1 v]},toks:=tk}:=by
 refine wpAny_pyIter_range (IsRange.new ..) (small_one h1 h2 c f) ?_;have a:Inv X ag σ H {s with heap:=s.heap.push {cls:=.type "range",data:=.fields #[.int lo t,.int hi u,.int 1 v]},toks:=tk}:=I.kept λb o e=>hP1 _ e;refine⟨(s.heap.push {cls:=.type "range",data:=.fields #[.int lo t,.int hi u,.int 1 v]}).objs.size,[(s.heap.push {cls:=.type "range",data:=.fields #[.int lo t,.int hi u,.int 1 v]}).objs.size],_,_,H,O,
  a.kept (t':=tk) λb o e=>hP1 _ e,uH _ lo (hi-lo).toNat,?_,λb g=>?_,q⟩
 ·have h:lo+((0:Nat):Int)*1=lo:=by simp
  have d:(((hi-lo).toNat:Nat):Int)-((0:Nat):Int)=Builtin.Range.rangeSize lo hi 1:=by rw[rangeSize_one];split<;>lia
  show IsRangeIter _ _ (lo+((0:Nat):Int)*1) ((((hi-lo).toNat:Nat):Int)-((0:Nat):Int)) 1;rw[h,d];exact hS1 _ O
 ·have e:b=(s.heap.push {cls:=.type "range",data:=.fields #[.int lo t,.int hi u,.int 1 v]}).objs.size:=by simpa using g
  subst e;exact a.fpOk (nR1 _) (a.hok.fresh (nR1 _))
noncomputable def IL(ta:TA):TI:=fun σ H R=>ta σ H λvs H1=>∃j:Int,vs=[.int j] /\ -(2^62)<=j/\j<2^62/\R (Jr 0 j.toNat) H1
noncomputable def IK(ta:TA):TI:=fun σ H R=>ta σ H λvs H1=>∃i j:Int,vs=[.int i,.int j]/\(-(2^62)<=i/\i<2^62 /\ -(2^62)<=j/\j<2^62)/\R (Jr i (j-i).toNat) H1
theorem xN {a:Expr}{ta:TA}{p pos:Pos}(hg:Gl X "range")(hm:X.mg "range"=Y)(ha:PA X [a] ta)(hs:dJ [a] X.env=[(J,eval a X.env)]:=by rfl):PI X tg (.Call (.Name "range" p) [a] [] pos) (IL ta):=by
 intro ag s σ H R I h;refine Call_ (kb I hg hm boot_range (PyProof.Rows.callWith_type1 (fh (ha pos ag s σ H _ I h) λi k ⟨vs,H1,g,c,b⟩=>?_) hs O));obtain⟨j,e,b,d,q⟩:=b;subst e;cases c with
 |cons r f=>
  cases f;obtain⟨t,rfl⟩:=r;exact call_range_1 (sJ g (by lia) (by lia) b d (by simpa using q))
theorem xM {a b:Expr}{ta:TA}{p pos:Pos}(hg:Gl X "range")(hm:X.mg "range"=none)(ha:PA X [a,b] ta)(hs:dJ [a,b] X.env=[(false,eval a X.env),(false,eval b X.env)]:=by rfl)(hs2:dJ [b] X.env=[(false,eval b X.env)]:=by rfl):
  PI X tg (.Call (.Name "range" p) [a,b] [] pos) (IK ta):=by
 intro ag s σ H R I h;refine Call_ (kb I hg hm boot_range (PyProof.Rows.callWith_type1 (fh (ha pos ag s σ H _ I h) λo u ⟨vs,H1,l,g,c⟩=>?_) (by rw[hs,hs2]) (by rw[hs2];rfl)));obtain⟨i,j,e,⟨c,k,m,f⟩,q⟩:=c;subst e;cases g with
 |cons r d=>
  cases d with
  |cons n d=>
   cases d;obtain⟨t,rfl⟩:=r;obtain⟨v,rfl⟩:=n;exact call_range_2 (sJ l c k m f q)
noncomputable def HM(wi:TI)(g:TG)(tb:TS):TS:=λD σ H=>wi σ H λam H1=>∃W:Nat->Nat->St->Hp->Prop,(∃m,W 0 m σ H1) /\ ∀i m σ H,W i m σ H ->
 (am.stop i H/\D.nx σ H)\/(am.go i H /\ ∃N:St->Hp->Prop,(∀ σ' H',N σ' H' -> ∃m',m'<m/\W (i+1) m' σ' H') /\ ∀x H',am.yld i H x H'->g x σ H' fun σ2 H2=>tb {D with nx:=N,ct:=N,bk:=D.nx} σ2 H2)
noncomputable def nR(fp:List dE)(h:dP):List (dE×Obj):=fp.filterMap λb=>(h.get? b).map λo=>(b,o)
theorem iQ{a:List dE}{h:dP}{b:dE}{o:Obj}(hb:b∈a)(e:h.get? b=Z o):(b,o)∈nR a h:=aL.mpr ⟨b,hb,by rw[e];rfl⟩
theorem xT{a:List dE}{h:dP}{p:dE×Obj}(hp:p∈nR a h):p.1∈a/\h.get? p.1=Z p.2:=by
 obtain⟨b,d,e⟩:=aL.mp hp;cases q:h.get? b with
 |none=>rw[q]at e;cases e
 |some o=>
  rw[q]at e;have c:(b,o)=p:=Option.some.inj e;subst c;exact⟨d,q⟩
theorem Inv.pinned{ag:List (dE×Obj)}{σ:St}{H:Hp}{s:dD}{a:List dE}(I:Inv X ag σ H s)(hf:∀b∈a,jP X ag H b)(ho:∀b∈a,∃o,s.heap.get? b=Z o /\ ∀v,o.data ≠ .cell v):Inv X (ag++nR a s.heap) σ H s:=
 I.pins_of λp i=>(aG.mp i).elim (λz=>I.pin p (mA1 _ z)) λz=>by
  obtain⟨f,e⟩:=xT z;obtain⟨g,j,h,_⟩:=hf p.1 f;obtain⟨o,c,d⟩:=ho p.1 f;rw[e]at c;cases c;exact⟨e,g,j,h,d⟩
theorem Inv.unpinned{ag pl:List (dE×Obj)}{σ:St}{H:Hp}{s:dD}(I:Inv X (ag++pl) σ H s):Inv X ag σ H s:=I.pins_of λp a=>I.pin p (mA1 _ (aH _ a))
theorem Fm{iter:Expr}{w:List dR}{wq:TI}{g:TG}{tb:TS}{pos:Pos}(hp:PassesOwn (model X.prog X.w) X.A X.env X.xe)(hc:X.calm=M)(hi:PI X tg iter wq)(hg:PG X tg g)(hb:uv X w tb)(hs:∀x,foldedSetIterable iter X.env x=pure x:=by intro _;rfl):PS X (.For tg iter w [] pos) (HM wq g tb):=by
 intro ag s σ H D I h;refine wpAny_For (fh (hi ag s σ H _ I h) λv s1 h1=>fh h1 λitv s2 h2=>?_) hs;obtain⟨it,z,V,am,H2,e,I2,T,L,aq,W,⟨m0,w0⟩,A⟩:=h2;subst e
 -- what stays M of the iterator's objects through the loop
 have q:∀{H':Hp},(∀b∈z,H' b=Y) -> ∀b∈z,jP X ag H' b:=λhn b hb=>⟨hn b hb,(aq b hb).2⟩;refine codeAny_forLoop_any (λn s'=>∃i k H',Inv X ag k H' s'/\V i s'.heap/\(∀b∈z,H' b=Y)/\W i n k H') ?_ m0 ⟨0,σ,H2,I2,L,λb hb=>(aq b hb).1,w0⟩;rintro n R ⟨i,c,G,U,F,B,w3⟩;rcases A i n c G w3 with⟨E,qn⟩|⟨go,N,hN,step⟩
 ·refine wpAny_passesOwn hp (fh (T.done X O O O hc i ag R c G X.xe U (q B) F E) λr s4 ⟨ao,I4⟩=>?_);subst ao;exact wpAny_execs_nil ⟨c,G,I4,qn⟩
 ·refine wpAny_passesOwn hp (fh (T.item X rfl rfl rfl hc i ag R c G X.xe U (q B) F go) fun r s4 ⟨u,ao,h4⟩=>?_);subst ao;refine wpAny_passesOwn hp (fh h4 fun _ S ⟨x,H5,I5,r5,y5,y,K⟩=>?_);have au:=I5.pinned (q K) (T.obj _ _ y);refine wpAny_passesOwn hp (fh (hg _ S c H5 x u _ au r5 (step x H5 y5)) fun _ s6 ⟨Q,H6,I6,q6⟩=>?_);refine wpAny_passesOwn hp (fh (hb _ s6 Q H6 _ I6 q6) fun f P t=>?_);have j:∀ {a:St} {p:Hp},Inv X (ag++nR z S.heap) a p P->N a p -> ∃ m,m<n /\ ∃ i k H',Inv X ag k H' P/\V i P.heap/\(∀ b∈z,H' b=none)/\W i m k H':=fun {a p} l C=>by
   obtain⟨m',hm,w7⟩:=hN a p C;refine⟨m',hm,i+1,a,p,l.unpinned,T.keep _ _ _ y λb hb o e=>(l.pin (b,o) (mA1 _ (mA1 _ (iQ hb e)))).1,λb hb=>?_,w7⟩;obtain⟨o,e,d⟩:=T.obj _ _ y b hb;exact(l.pin (b,o) (mA1 _ (mA1 _ (iQ hb e)))).2.1
  cases f with
  |next=>obtain⟨a,p,l,C⟩:=t;exact j l C
  |cont=>obtain⟨a,p,l,C⟩:=t;exact j l C
  |brk=>obtain⟨a,p,l,t⟩:=t;exact⟨a,p,l.unpinned,t⟩
  |ret v=>obtain⟨x7,a,p,l,r7,t⟩:=t;exact⟨x7,a,p,l.unpinned,r7,t⟩
end
end L2
namespace L2
open PySem PySem.Spec PyProof.Rows
abbrev R2:=V->V->Hp->VK->Prop
def fV(X:Cx)(f:dB->dB->Sem dB)(r:R2):Prop:=
 ∀(ag:List (dE×Obj)) (s:dD) (σ:St) (H:Hp) (x y:V) (v u:dB) (Q:VK),Inv X ag σ H s->d5 x v->d5 y u->r x y H Q ->
  dM (model X.prog X.w) X.A (f v u) (EP X ag σ Q) X.xe s
def eZ(X:Cx)(f:dB)(r:List V->Hp->VK->Prop):Prop:=
 ∀(ag:List (dE×Obj)) (s:dD) (σ:St) (H:Hp) (xs:List V) (us:List dB) (Q:VK),Inv X ag σ H s->ee xs us->r xs H Q ->
  dM (model X.prog X.w) X.A (call f us) (EP X ag σ Q) X.xe s
def KG(X:Cx)(r:V->Hp->(Bool->Hp->Prop)->Prop):Prop:=
 ∀(ag:List (dE×Obj)) (s:dD) (σ:St) (H:Hp) (x:V) (v:dB) (Q:Bool->Hp->Prop),Inv X ag σ H s->d5 x v->r x H Q ->
  dM (model X.prog X.w) X.A (truthy v) (TP X ag σ Q) X.xe s
noncomputable def HI(r:R2)(ta tb:TE):TE:=fun σ H Q=>ta σ H λx H1=>tb σ H1 λy H2=>r x y H2 Q
def rI(C:Int->Int->Prop)(g:Int->Int->V):R2:=λx y H Q=>∃i j,x = .int i/\y = .int j/\C i j/\Q (g i j) H
noncomputable def Ec(g:Int->Int->V):R2:=λx y H Q=>∃i j,x = .int i/\y = .int j/\Q (g i j) H
def rU(g:Int->V):V->Hp->VK->Prop:=λx H Q=>∃i,x = .int i/\Q (g i) H
section
variable{X:Cx}{a b c:Expr}{ta tb tc:TE}{pos:Pos}
theorem G6(ha:PE X a ta)(hb:PE X b tb){ag:List (dE×Obj)}{s:dD}{σ:St}{H:Hp}{R:V->V->Hp->Prop}(I:Inv X ag σ H s)(h:ta σ H fun x H1=>tb σ H1 fun y H2=>R x y H2){Q:dB->dD->Prop}{f:dB->dB->Sem dB}(hf:∀v u e x y H2,Inv X ag σ H2 e->d5 x v->d5 y u->R x y H2->dM (model X.prog X.w) X.A (f v u) Q X.xe e):
  dM (model X.prog X.w) X.A (eval a X.env) (λv d=>dM (model X.prog X.w) X.A (eval b X.env) (λu c=>dM (model X.prog X.w) X.A (f v u) Q X.xe c) X.xe d) X.xe s:=by
 refine fh (ha ag s σ H _ I h) λv l ⟨x,H1,m,g,i⟩=>?_;refine fh (hb ag l σ H1 _ m i) λu e ⟨y,H2,k,r2,j⟩=>?_;exact hf v u e x y H2 k g r2 j
theorem Ie{op:Operator}{r:R2}(ho:fV X (binaryOp op) r)(ha:PE X a ta)(hb:PE X b tb):PE X (.BinOp a op b pos) (HI r ta tb):=by
 intro ag s σ H Q I h;exact wpAny_BinOp (G6 ha hb I h λv u d x y H2 e c f q=>ho ag d σ H2 x y v u Q e c f q)
theorem JB{f:dB->dB->Sem dB}{C:Int->Int->Prop}{g:Int->Int->Int}(a:∀(i j:Int) (t u:Tok) (s:dD) (Q:dB->dD->Prop) (E:dB->dD->Prop),C i j->Q (.int (g i j) s.toks) {s with toks:=s.toks+1}->dM (model X.prog X.w) X.A (f (.int i t) (.int j u)) Q E s):
  fV X f (rI C λi j=>.int (g i j)):=by
 intro ag s σ H x y v u Q I c d h;obtain⟨i,j,rfl,rfl,hc,q⟩:=h;obtain⟨t,rfl⟩:=c;obtain⟨b,rfl⟩:=d;exact a i j t b s _ _ hc ⟨.int (g i j),H,I.tok _,⟨_,O⟩,q⟩
theorem Io{f:dB->dB->Sem dB}{g:Int->Int->Int}(a:∀(i j:Int) (t u:Tok) (s:dD) (Q:dB->dD->Prop) (E:dB->dD->Prop),Q (.int (g i j) s.toks) {s with toks:=s.toks+1}->dM (model X.prog X.w) X.A (f (.int i t) (.int j u)) Q E s):
  fV X f (Ec λi j=>.int (g i j)):=by
 intro ag s σ H x y v u Q I c d h;obtain⟨i,j,rfl,rfl,q⟩:=h;obtain⟨t,rfl⟩:=c;obtain⟨b,rfl⟩:=d;exact a i j t b s _ _ ⟨.int (g i j),H,I.tok _,⟨_,O⟩,q⟩
theorem FW{f:dB->dB->Sem dB}{g:Int->Int->Bool}(a:∀(i j:Int) (t u:Tok) (s:dD) (Q:dB->dD->Prop) (E:dB->dD->Prop),Q (.bool (g i j)) s->dM (model X.prog X.w) X.A (f (.int i t) (.int j u)) Q E s):
  fV X f (Ec λi j=>.bl (g i j)):=by
 intro ag s σ H x y v u Q I c d h;obtain⟨i,j,rfl,rfl,q⟩:=h;obtain⟨t,rfl⟩:=c;obtain⟨b,rfl⟩:=d;exact a i j t b s _ _ ⟨.bl (g i j),H,I,O,q⟩
def Jv(i j:Int):Prop:=0<j/\j<1073741824
def Ju(i j:Int):Prop:=0<=j/\j<=1000000/\i.natAbs<2^64
theorem FU:fV X (binaryOp .Add) (Ec λi j=>.int (i+j)):=Io λ_ _ _ _ _ _ _ q=>add_int q
theorem FL:fV X (binaryOp .Sub) (Ec λi j=>.int (i-j)):=Io λ_ _ _ _ _ _ _ q=>sub_int q
theorem CL:fV X (binaryOp .FloorDiv) (rI Jv λi j=>.int (i/j)):=JB λi j _ _ _ _ _ hc q=>by
 have h1:(0:Int)<j:=hc.1;have h2:j<1073741824:=hc.2;exact floordiv_int (by lia) (by rw[Int.fdiv_eq_ediv_of_nonneg i (by lia)];exact q) (.inl (PyProof.noPylong_small (by lia)))
theorem FP:fV X (binaryOp .Mod) (rI (λ_ j=>0<j) λi j=>.int (i%j)):=JB λi j _ _ _ _ _ hc q=>by
 have h1:(0:Int)<j:=hc;exact mod_int' (by lia) (by rw[Int.fmod_eq_emod_of_nonneg i (by lia)];exact q)
theorem FM:fV X (binaryOp .Pow) (rI Ju λi j=>.int (i^j.toNat)):=JB λ_ _ _ _ _ _ _ hc q=>pow_int_small hc.1 hc.2.1 hc.2.2 q
theorem A2{ag:List (dE×Obj)}{σ:St}{H:Hp}{s:dD}{Q:VK}{k k':Bool}(I:Inv X ag σ H s)(q:Q (.bl k) H)(e:k=k'):EP X ag σ Q (.bool k') s:=by
 subst e;exact⟨.bl k,H,I,O,q⟩
theorem Ik:fV X (compareOp .LtE) (Ec λi j=>.bl (decide (i<=j))):=FW λ_ _ _ _ _ _ _ q=>le_int q
theorem Il:fV X (compareOp .Gt) (Ec λi j=>.bl (decide (j<i))):=FW λ_ _ _ _ _ _ _ q=>gt_int q
theorem Im:fV X (compareOp .GtE) (Ec λi j=>.bl (decide (j<=i))):=FW λ_ _ _ _ _ _ _ q=>ge_int q
theorem FQ:fV X (compareOp .Is) (λx y H Q=>y = .non/\Q (.bl (decide (x = .non))) H):=by
 intro ag s σ H x y v u Q I a b h;obtain⟨rfl,q⟩:=h;cases b;refine is_none_gen (A2 I q ?_);cases x<;>first
  |(cases a;rfl)
  |(obtain⟨t,rfl⟩:=a;rfl)
theorem CK:fV X (compareOp .IsNot) (λx y H Q=>y = .non/\Q (.bl (!decide (x = .non))) H):=by
 intro ag s σ H x y v u Q I a b h;obtain⟨rfl,q⟩:=h;cases b;refine isnot_none_gen (A2 I q ?_);cases x<;>first
  |(cases a;rfl)
  |(obtain⟨t,rfl⟩:=a;rfl)
theorem Ac(b:Expr){op:CmpOp}(h:op ≠ .In:=by decide)(h2:op ≠ .NotIn:=by decide):behindInMarks op b=J:=by
 have a:(op == CmpOp.In)=J:=by cases op<;>first|rfl|exact absurd rfl h
 have c:(op == CmpOp.NotIn)=J:=by cases op<;>first|rfl|exact absurd rfl h2
 cases b<;>simp[behindInMarks,a,c]
theorem CG{op:CmpOp}{r:R2}(ho:fV X (compareOp op) r)(ha:PE X a ta)(hb:PE X b tb)(hm:behindInMarks op b=J):PE X (.Compare a [op] [b] pos) (HI r ta tb):=by
 intro ag s σ H Q I h;exact wpAny_Compare1 (G6 ha hb I h λv u d x y H2 e c f q=>ho ag d σ H2 x y v u Q e c f q) hm
noncomputable def HF(t:TE):TT:=fun σ H Q=>t σ H λx H'=>∃k,x = .bl k/\Q k H'
theorem Cr{op:CmpOp}{r:R2}(ho:fV X (compareOp op) r)(ha:PE X a ta)(hb:PE X b tb)(hm:behindInMarks op b=J):PT X (.Compare a [op] [b] pos) (HF (HI r ta tb)):=by
 intro ag s σ H Q I h;refine wpAny_isTrue_Compare1 (fh (ha ag s σ H _ I h) λv f ⟨x,H1,p,l,i⟩=>fh (hb ag f σ H1 _ p i) λu g ⟨y,H2,n,r2,m⟩=>
  fh (ho ag g σ H2 x y v u _ n l r2 m) λc t ⟨z,q,d,j,k,e,o⟩=>?_) hm
 subst e;cases j;exact wpAny_truthy_bool ⟨q,d,o⟩
noncomputable def zn(r r':R2)(ta tb tc:TE):TE:=fun σ H Q=>ta σ H λx H1=>tb σ H1 λy H2=>r x y H2 λz H3=>∃k,z = .bl k /\
 (if k=M then tc σ H3 λw' H4=>r' y w' H4 Q else Q (.bl J) H3)
theorem zV{op op':CmpOp}{r f:R2}(ho:fV X (compareOp op) r)(ho':fV X (compareOp op') f)(ha:PE X a ta)(hb:PE X b tb)(hc:PE X c tc)(hm:lastMarks [op,op'] [b,c]=J:=by with_unfolding_all rfl):PE X (.Compare a [op,op'] [b,c] pos) (zn r f ta tb tc):=by
 intro ag s σ H Q I h;refine Compare_chain (fh (ha ag s σ H _ I h) λv A ⟨x,H1,am,B,m⟩=>chain_link (fh (hb ag A σ H1 _ am m) λu F ⟨y,H2,t,r2,n⟩=>
  fh (ho ag F σ H2 x y v u _ t B r2 n) λd o ⟨z,j,g,q,k,e,i⟩=>?_)) hm
 subst e;cases q;refine wpAny_truthy_bool ?_;cases k with
 |false=>exact ite_ff ⟨.bl J,j,g,O,i⟩
 |true=>exact ite_tt (chain_last (fh (hc ag o σ j _ g i) λE G ⟨w,D,p,C,l⟩=>ho' ag G σ D y w u E Q p r2 C l))
def BG(K:Fg1)(x:V)(H:Hp)(k:Bool):Prop:=
 match x with
 | .non=>k=J
 | .bl b=>k=b
 | .int i=>k=(i != 0)
 | .str y=>y.length<=dL/\k=((y.length:Int) != 0)
 | .byt y=>y.size<=dL/\k=((y.size:Int) != 0)
 | .ref p=>(∃xs,mW K H p xs/\k = !xs.isEmpty)\/(∃xs,j5 K H p xs/\k = !xs.isEmpty) \/ ∃kvs,H p=Z (.dK kvs)/\k = !kvs.isEmpty
 |_=>False
theorem vf{κ:Type}{kvs:List (κ×V)}{vs:List (κ×dB)}(r:KV kvs vs):(!vs.isEmpty) = !kvs.isEmpty:=by
 cases r<;>rfl
theorem og{xs:List V}{its:List dB}(r:ee xs its):(!its.toArray.isEmpty) = !xs.isEmpty:=by
 cases r<;>simp
theorem lW:(dL:Nat)<2^63:=by rw[sizeLine_eq];decide
theorem zb:KG X (λx H Q=>∃k,BG X.K x H k/\Q k H):=by
 intro ag s σ H x v Q I d h;obtain⟨k,e,q⟩:=h;have u:=lW;have o:dL=16777216:=sizeLine_eq;cases x with
 |non=>
  cases d;have a:k=J:=e;subst a;exact truthy_none ⟨H,I,q⟩
 |bl b=>
  cases d;have a:k=b:=e;subst a;exact wpAny_truthy_bool ⟨H,I,q⟩
 |int i=>
  obtain⟨t,rfl⟩:=d;have a:k=(i != 0):=e;subst a;exact PySem.P.truthy_int ⟨H,I,q⟩
 |str y=>
  obtain⟨t,rfl⟩:=d;obtain⟨n,a⟩:y.length<=dL/\k=((y.length:Int) != 0):=e;subst a;exact PySem.P.truthy_str (by lia) ⟨H,I.tok _,q⟩
 |byt y=>
  obtain⟨t,rfl⟩:=d;obtain⟨n,a⟩:y.size<=dL/\k=((y.size:Int) != 0):=e;subst a;exact PySem.W.truthy_bytes (by lia) ⟨H,I.tok _,q⟩
 |ref p=>
  cases d;have a:(∃xs,mW X.K H p xs/\k = !xs.isEmpty)\/(∃xs,j5 X.K H p xs/\k = !xs.isEmpty) \/ ∃kvs,H p=Z (.dK kvs)/\k = !kvs.isEmpty:=e;rcases a with⟨xs,f,a⟩|⟨xs,f,a⟩|⟨kvs,f,a⟩
  ·subst a;obtain⟨g,r,pl,j⟩:=I.list f;have c:=r.length;exact wpAny_truthy_list pl.isList (by simp only[sT1];lia) ⟨H,I.tok _,by rw[og r];exact q⟩
  ·subst a;obtain⟨g,r,pl,j⟩:=I.tuple f;have c:=r.length;exact truthy_tuple pl (by simp only[sT1];lia) ⟨H,I.tok _,by rw[og r];exact q⟩
  ·subst a;obtain⟨j,l,vs,r,m⟩:kvs.length<=dL/\(p == sysModules)=false /\ ∃vs,KV kvs vs/\s.heap.DictOf (fb X.prog X.w) p vs:=I.hok p _ f;have c:kvs.length=vs.length:=Paired.length r;exact wpAny_truthy_dict l m (by lia) ⟨H,I.tok _,by rw[vf r];exact q⟩
 |_=>exact(show False from e).elim
theorem zF(ha:PE X a ta)(he:∀ b,isTrue a X.env b=(do let v<-b;standAt a.pos;holding [v] (truthy v))):
  PT X a (fun σ H Q=>ta σ H λx H'=>∃k,BG X.K x H' k/\Q k H'):=by
 intro ag s σ H Q I h;exact isTrue_plain (fh (ha ag s σ H _ I h) λv e ⟨x,H1,f,d,c⟩=>zb ag e σ H1 x v Q f d c) (he _)
theorem uY:fV X (binaryOp .Add) (λx y H Q=>∃i j,x = .str i/\y = .str j/\i.length+j.length<=dL/\Q (.str (i++j)) H):=by
 intro ag s σ H x y v u Q I b d h;obtain⟨i,j,rfl,rfl,c,q⟩:=h;obtain⟨t,rfl⟩:=b;obtain⟨a,rfl⟩:=d;exact add_str (λa tk=>⟨.str (i++j),H,I.tok _,⟨_,O⟩,q⟩) c
theorem g0{x:V}{a:List dB}(r:ee [x] a):∃u,a=[u]/\d5 x u:=by
 cases r with
 |cons b r2=>cases r2;exact⟨_,O,b⟩
theorem y4{x y:V}{a:List dB}(r:ee [x,y] a):∃u w',a=[u,w']/\d5 x u/\d5 y w':=by
 cases r with
 |cons d r2=>
  cases r2 with
  |cons b c=>cases c;exact⟨_,_,O,d,b⟩
theorem yK(hc:X.calm=M):eZ X (.builtin "max") (λxs H Q=>∃i j,xs=[.int i,.int j]/\Q (.int (if j>i then j else i)) H):=by
 intro ag s σ H xs d Q I r h;obtain⟨i,j,rfl,q⟩:=h;obtain⟨u,c,rfl,⟨t,rfl⟩,⟨b,rfl⟩⟩:=y4 r;refine max_two_ints (I.ok.hd hc) λh' tk k=>⟨_,H,I.kept k,?_,q⟩;by_cases a:j>i
 ·rw[ak a,ak a];exact⟨_,O⟩
 ·rw[aj a,aj a];exact⟨_,O⟩
theorem yJ(hc:X.calm=M):eZ X (.builtin "min") (λxs H Q=>∃i j,xs=[.int i,.int j]/\Q (.int (if j<i then j else i)) H):=by
 intro ag s σ H xs d Q I r h;obtain⟨i,j,rfl,q⟩:=h;obtain⟨u,c,rfl,⟨t,rfl⟩,⟨b,rfl⟩⟩:=y4 r;refine min_two_ints (I.ok.hd hc) λh' tk k=>⟨_,H,I.kept k,?_,q⟩;by_cases a:j<i
 ·rw[ak a,ak a];exact⟨_,O⟩
 ·rw[aj a,aj a];exact⟨_,O⟩
theorem ql:eZ X (.type "int") (λxs H Q=>(∃i,xs=[.int i]/\Q (.int i) H) \/ ∃k,xs=[.bl k]/\Q (.int (if k then 1 else 0)) H):=by
 intro ag s σ H xs b Q I r h;rcases h with⟨i,rfl,q⟩|⟨k,rfl,q⟩
 ·obtain⟨u,rfl,t,rfl⟩:=g0 r;exact call_int_int ⟨.int i,H,I,⟨_,O⟩,q⟩
 ·obtain⟨u,rfl,a⟩:=g0 r;cases a;exact call_int_bool ⟨.int (if k then 1 else 0),H,I.tok _,⟨_,O⟩,q⟩
end
end L2
namespace L2
open PySem PySem.Spec PyProof.Rows
structure Hk (h:dP)(x dx C:dE)(mA:Str->Option dB):Prop where
 obj:h.get? x=some (PySem.W.instObj C dx)
 ns:h.Ns1 dx mA
 ne:dx≠x
theorem ya{h:dP}{dx:dE}{mA:Str->Option dB}(n:h.Ns1 dx mA):∃c,h.get? dx=Z c /\ ∀name,PySem.W.lookIn name c=Z (mA name):=by
 obtain⟨o,es,ep,f,j,i,_,d⟩:=n;refine⟨o,f,λname=>?_⟩;have e:=d name;unfold nsFind findBy at e;rw[<- Array.find?_toList]at e;unfold PySem.W.lookIn;rw[j];dsimp only;split
 ·rename_i y q;rw[q]at e;exact congrArg Z e
 ·rename_i q;rw [q] at e;have a:es.toList.any (·.refKey)=false:=by
   rw[List.any_eq_false];intro y g;obtain⟨z,t,b⟩:=i y (aM.mp g);simp[DictEntry.refKey,b]
  have k:¬ es.toList.any (·.refKey)=M:=by rw[a];exact aK
  rw[aj k];exact congrArg Z e
theorem Hk.look{h:dP}{x dx C:dE}{mA:Str->Option dB}(I:Hk h x dx C mA):∃a,PySem.W.InstAt h x (PySem.W.instObj C dx) C (Z a) /\ ∀name,PySem.W.lookIn name a=Z (mA name):=
 let ⟨a,ho,hl⟩:=ya I.ns
 ⟨a,⟨I.obj,O,O,ho⟩,hl⟩
section
variable{prog:dF}{w:dH}{A:dG}{E:dB->dD->Prop}{s:dD}{K:Fg1}{x dx C f:dE}{mA:Str->Option dB}{name:Str}{v:dB}
end
theorem md.some_of{v:V}{o:Option dB}(r:md (Z v) o):∃u,o=Z u/\d5 v u:=by
 cases o with
 |none=>exact(show False from r).elim
 |some u=>exact⟨u,O,r⟩
section
variable{P:dF}{w:dH}{H H':Hp}{h h':dP}{a C dx:dE}{fs fs':List (Str×V)}
theorem Du(b:km P w H h)(e:H a=Z (.ins C dx fs)):∃mA,Hk h a dx C mA/\(∀f,md (fs.lookup f) (mA f))/\PySem.Within mA (fs.map (·.1))/\fs.length<=1000/\H dx=Z (.own a):=by
 obtain⟨d,z,ne,c,mA,n,r,q⟩:=(show eG P w H h a (.ins C dx fs)from b a _ e);exact⟨mA,⟨c,n,ne⟩,r,q,z,d⟩
end
structure KL (K:Fg1)(C:dE):Prop where
 pg:PySem.W.plainGet K C Str.empty=true
 hd:PySem.W.hasDictIn K C=true
 po:PySem.W.plainOver K C=true
 sa:PySem.W.findIn K (.ref C) "__setattr__"=some (some (.builtin "object.__setattr__"))
theorem KL.get{K:Fg1}{C:dE}(c:KL K C)(f:Str):PySem.W.plainGet K C f=M:=c.pg
section
variable{X:Cx}{ag:List (dE×Obj)}{σ:St}{H:Hp}{s:dD}{a C dx:dE}{fs:List (Str×V)}{f:Str}{v:V}{A:dG}{E:dB->dD->Prop}
end
section
variable{X:Cx}{o e value:Expr}{f:Str}{pos pos' tpos:Pos}{ta tv:TE}
end
section
variable{X:Cx}{ag:List (dE×Obj)}{σ:St}{H:Hp}{s:dD}{A:dG}{E:dB->dD->Prop}{Q:dB->dD->Prop}{c:dB}{b:Bool}
inductive mU (K:Fg1)(H:Hp):V->dB->Prop where
 |non:mU K H .non (.type "NoneType")
 |bl (x:Bool):mU K H (.bl x) (.type "bool")
 |int (i:Int):mU K H (.int i) (.type "int")
 |str (x:Str):mU K H (.str x) (.type "str")
 |flt (x:UInt64):mU K H (.flt x) (.type "float")
 |lst {a:dE} {xs:List V} (e:H a=some (.lst xs)):mU K H (.ref a) (.type "list")
 |frz {a:dE} {o:Obj} {xs:List V} (e:H a=some (.frz o (.lst xs))):mU K H (.ref a) (.type "list")
 |tup {a:dE} {xs:List V} (e:H a=some (.tup xs)):mU K H (.ref a) (.type "tuple")
 |dK {a:dE} {kvs:List (Key×V)} (e:H a=some (.dK kvs)):mU K H (.ref a) (.type "dict")
 |dT {a:dE} {kvs:List (List Key×V)} (e:H a=some (.dT kvs)):mU K H (.ref a) (.type "dict")
 | ins {a C dx:dE} {fs:List (Str×V)} (e:H a=some (.ins C dx fs)) (cl:KL K C) (ha:PySem.W.findIn K (.ref C) "__class__"=some (some (.builtin "object.__class__")))
   (hn:PySem.W.specialIn K (.builtin "object.__class__") "__get__"=some (some (.builtin "getset_descriptor.__get__"))) (htk:PySem.W.takesIn K (.builtin "object.__class__")=some true)
   (hm:PySem.W.mroIn K C (.type "object")=some true):mU K H (.ref a) (.ref C)
theorem iz{x:V}{u t:dB}(I:Inv X ag σ H s)(f:d5 x u)(ty:mU X.K H x t)(e:PySem.W.kitOne X.K t c=some b)(h:∀ tk,Q (.bool b) {s with toks:=tk}):
  dM (model X.prog X.w) A (call (.builtin "isinstance") [u,c]) Q E s:=by
 cases ty with
 |non=>cases(show u=Value.none from f);exact PySem.W.kia_one PySem.W.kitx_none I.kIn True.intro e (λz=>nomatch z) h
 |bl y=>cases(show u=Value.bool y from f);exact PySem.W.kia_one PySem.W.kitx_bool I.kIn True.intro e (λz=>nomatch z) h
 |int i=>obtain⟨t,q⟩:=(show∃t,u=Value.int i t from f);cases q;exact PySem.W.kia_one PySem.W.kitx_int I.kIn True.intro e (λz=>nomatch z) h
 |str y=>obtain⟨t,q⟩:=(show∃t,u=Value.str y t from f);cases q;exact PySem.W.kia_one PySem.W.kitx_str I.kIn True.intro e (λz=>nomatch z) h
 |flt y=>obtain⟨t,q⟩:=(show∃t,u=Value.float y t from f);cases q;exact PySem.W.kia_one PySem.W.kitx_float I.kIn True.intro e (λz=>nomatch z) h
 | @lst a xs d=>
  cases(show u=Value.ref a from f);obtain⟨_,_,n,_,h1⟩:=(show eG X.prog X.w H s.heap a (.lst xs)from I.hok a _ d);exact PySem.W.kia_one PySem.W.kitx_list I.kIn ⟨_,h1,O⟩ e (λz=>nomatch z) h
 | @frz a r xs d=>
  cases(show u=Value.ref a from f);obtain⟨_,_,_,n,_,h1⟩:=(show eG X.prog X.w H s.heap a (.frz r (.lst xs))from I.hok a _ d);exact PySem.W.kia_one PySem.W.kitx_list I.kIn ⟨_,h1,O⟩ e (λz=>nomatch z) h
 | @tup a xs d=>
  cases(show u=Value.ref a from f);obtain⟨_,_,_,p⟩:=(show eG X.prog X.w H s.heap a (.tup xs)from I.hok a _ d);obtain⟨o,h1,h2,_⟩:=p;exact PySem.W.kia_one PySem.W.kitx_tuple I.kIn ⟨o,h1,h2⟩ e (λz=>nomatch z) h
 | @dK a kvs d=>
  cases(show u=Value.ref a from f);obtain⟨_,_,vs,_,p⟩:=(show eG X.prog X.w H s.heap a (.dK kvs)from I.hok a _ d);obtain⟨o,es,ep,h1,h2,_⟩:=p;exact PySem.W.kia_one PySem.W.kitx_dict I.kIn ⟨o,h1,h2.1⟩ e (λz=>nomatch z) h
 | @dT a kvs d=>
  cases(show u=Value.ref a from f);obtain⟨_,_,xs,_,o,es,ep,h1,h2,_⟩:=(show eG X.prog X.w H s.heap a (.dT kvs)from I.hok a _ d);exact PySem.W.kia_one PySem.W.kitx_dict I.kIn ⟨o,h1,h2.1⟩ e (λz=>nomatch z) h
 | @ins a C dx fs d j m k g l=>
  cases(show u=Value.ref a from f);obtain⟨mA,au,_⟩:=Du I.hok d;obtain⟨v,am,_⟩:=au.look;exact PySem.W.kia_one (PySem.W.kitx_own (j.get _) j.hd m k g l) I.kIn am e (λz=>nomatch z) h
end
end L2
namespace L2
open PySem PySem.Spec PyProof.Rows
structure fN (k:Nat)(A:dG):Prop where
 hd:A.handled=none
 dp:A.depth+3*k+5<recursionLimit
 un:A.units+16*k+200<cLine
 gd:A.guards=some []
theorem fN.mono{j k:Nat}{A:dG}(r:fN k A)(h:j<=k):fN j A:=⟨r.hd,by have:=r.dp;lia,by have:=r.un;lia,r.gd⟩
theorem fN.deeper{k:Nat}{A:dG}(r:fN (k+1) A)(env:Env):fN k (A.deeper env):=
 ⟨r.hd,by have:=r.dp;show A.depth+1+3*k+5<_;lia,by have:=r.un;show A.units+3+16*k+200<_;lia,r.gd⟩
theorem fN.depth{k:Nat}{A:dG}(r:fN k A):A.depth<recursionLimit:=by have:=r.dp;lia
theorem fN.units{k:Nat}{A:dG}(r:fN k A):A.units+64<cLine:=by have:=r.un;lia
noncomputable def JY:TA:=λ_ H Q=>Q [] H
noncomputable def HQ(ta:TE)(tr:TA):TA:=fun σ H Q=>ta σ H λx H1=>tr σ H1 λxs H2=>Q (x::xs) H2
section
variable{X:Cx}{e:Expr}{es:List Expr}{te:TE}{t:TA}{pos:Pos}
theorem nV:PA X [] JY:=λ_ _ _ _ H Q I h=>Calls.spliced_nil ⟨[],H,I,.nil,h⟩
theorem jC(ha:PE X e te)(hr:PA X es t)(hs:dJ (e::es) X.env=(J,eval e X.env)::dJ es X.env:=by rfl):PA X (e::es) (HQ te t):=by
 intro pos ag s σ H Q I h;rw[hs];show dM _ _ (spliced ((J,eval e X.env)::backTo pos (dJ es X.env))) _ _ s;refine Calls.spliced_cons (fh (ha ag s σ H _ I h) λu f ⟨x,H1,g,a,b⟩=>?_);exact fh (hr pos ag f σ H1 _ g b) λj i ⟨xs,H2,d,r2,c⟩=>⟨x::xs,H2,d,.cons a r2,c⟩
noncomputable def JT(t:TA):TE:=fun σ H Q=>t σ H λxs H1=>xs.length<=dL /\ ∀p,H1 p=Y->Q (.ref p) (upd H1 p (.tup xs))
noncomputable def J4(t:TA):TE:=fun σ H Q=>t σ H λxs H1=>xs.length<=dL /\ ∀p,H1 p=Y->Q (.ref p) (upd H1 p (.lst xs))
theorem Fv{x1}(h:PA X es t):PE X (.Tuple es x1 pos) (JT t):=by
 intro ag s σ H Q I f;refine wpAny_Tuple_spliced (fh (h pos ag s σ H _ I f) λg a ⟨xs,H1,c,r,z,q⟩=>⟨by rw[<- r.length];exact z,?_⟩);have d:H1 a.heap.objs.size=Y:=c.hok.fresh (nR1 _);refine⟨.ref a.heap.objs.size,upd H1 a.heap.objs.size (.tup xs),c.laid (t':=a.toks) (λb u e=>hP1 _ e) (nR1 _) ?_,O,q _ d⟩;exact⟨z,g,r,⟨_,hS1 _ O,O,_,O⟩⟩
theorem FC(h:PA X es t):PE X (.List es pos) (J4 t):=by
 intro ag s σ H Q I f;refine wpAny_List_spliced (fh (h pos ag s σ H _ I f) λg a ⟨xs,H1,c,r,z,q⟩=>⟨by rw[<- r.length];exact z,?_⟩);have d:H1 a.heap.objs.size=Y:=c.hok.fresh (nR1 _);refine⟨.ref a.heap.objs.size,upd H1 a.heap.objs.size (.lst xs),c.laid (t':=a.toks) (λb u e=>hP1 _ e) (nR1 _) ?_,O,q _ d⟩;exact⟨z,g,0,r,hS1 _ O⟩
end
abbrev Sp:=List V->Hp->VK->XK->Prop
abbrev yR:=List Env->Hp->dD->XK->dB->dD->Prop
structure D5 (P:dF)(w:dH)(K:Fg1)(mg:Str->Option dB)(base:dP)(A:dG)(outer:List Env)(s:dD)(H:Hp):Prop where
 frames:A.frames=some outer
 mod:Mod K mg base
 bs:∀b o,base.get? b=some o->s.heap.get? b=some o/\H b=none
 bsz:base.objs.size<=s.heap.objs.size
 funs:s.heap.FunFrames base outer
 frf:∀b∈frs outer,H b=none
 hok:km P w H s.heap
 bare:AllBare s.gens
def CE(outer:List Env)(P:dF)(w:dH)(H:Hp)(s:dD)(Q:VK)(u:dB)(s':dD):Prop:=
 ∃v H',s'.os=s.os/\AllBare s'.gens/\Un (frs outer) [] H H' s.heap s'.heap/\km P w H' s'.heap/\d5 v u/\Q v H'
def CR(CX:yR)(outer:List Env)(P:dF)(w:dH)(H:Hp)(s:dD)(Q:VK)(E:XK)(r:Result)(s':dD):Prop:=
 match r with
 | .ok (.ret u)=>CE outer P w H s Q u s'
 | .ok _=>False
 | .error e=>CX outer H s E e s'
structure jQ (P:dF)(w:dH)(K:Fg1)(mg:Str->Option dB)(base:dP)(CX:yR)(k:Nat)(f:dE)(fd:dQ)(ps:List Str)(sp:Sp):Prop where
 len:∀vs H Q E,sp vs H Q E->vs.length=ps.length
 run:∀(A:dG) (outer:List Env) (s:dD) (H:Hp) (args:Args) (us:List dB) (vs:List V) (Q:VK) (E:XK),fN k A->D5 P w K mg base A outer s H->BindsTo s fd args (ps.zip us)->ee vs us->sp vs H Q E ->
  dN (model P w) A (.call (.ref f) args) (CR CX outer P w H s Q E) s
theorem jQ.imp{P:dF}{w:dH}{K:Fg1}{mg:Str->Option dB}{base:dP}{CX:yR}{k:Nat}{f:dE}{fd:dQ}{ps:List Str}{sp sp':Sp}(F:jQ P w K mg base CX k f fd ps sp)(h:∀vs H Q E,sp' vs H Q E->sp vs H Q E):jQ P w K mg base CX k f fd ps sp':=
 ⟨λvs H Q E q=>F.len vs H Q E (h _ _ _ _ q),λA a s H b e vs Q E i c g j d=>F.run A a s H b e vs Q E i c g j (h _ _ _ _ d)⟩
section
variable{X:Cx}{ag:List (dE×Obj)}{σ:St}{H:Hp}{s s':dD}
theorem Inv.env0(I:Inv X ag σ H s):D5 X.prog X.w X.K X.mg X.base X.A X.stack s H:=
 ⟨I.ok.frames,I.ok.mod,I.bs,aC I.ok.bsz I.sz,I.stack,I.stkFree,I.hok,I.bare⟩
theorem Inv.after{Q:VK}{u:dB}(I:Inv X ag σ H s)(h:CE X.stack X.prog X.w H s Q u s'):EP X ag σ Q u s':=by
 obtain⟨v,H',i,a,un,c,r,q⟩:=h;obtain⟨f,g,d,t,e⟩:=s';obtain rfl:e=s.os:=i;exact⟨v,H',I.call (h':=f) (g':=g) (d':=d) (t':=t) (ch:=[]) un c a (λb z=>absurd z (by simp)),r,q⟩
end
noncomputable def HR(sp:Sp)(dvs:List V)(E:XK)(t:TA):TE:=fun σ H Q=>t σ H λvs H1=>sp (vs++dvs) H1 Q E
def lE(K:Fg1)(fd:dQ)(ps:List Str)(ds:List dB):Prop:=
 ∀(s:dD) (us:List dB),K.In s.heap->(us++ds).length=ps.length->BindsTo s fd ⟨us,[]⟩ (ps.zip (us++ds))
theorem lE.all{K:Fg1}{fd:dQ}{ps:List Str}(h:∀a:List dB,a.length=ps.length->bindArgs fd ⟨a,[]⟩=pure (ps.zip a)):lE K fd ps []:=λs a _ b=>by
 rw[aN]at b ⊢;exact .of_eq (h a b)
def vL(CX:yR)(X:Cx)(E:XK):Prop:=∀(ag:List (dE×Obj)) (σ:St) (H:Hp) (s:dD) (e:dB) (s':dD),Inv X ag σ H s->CX X.stack H s E e s'->X.xe e s'
section
variable{X:Cx}{CX:yR}{k:Nat}{f C:dE}{fd:dQ}{ps:List Str}{sp:Sp}{dvs:List V}{ds:List dB}{E:XK}{x m:Str}{p pos apos:Pos}{e o:Expr}{es:List Expr}{ta:TE}{t:TA}
theorem E6{ag:List (dE×Obj)}{σ:St}{H:Hp}{s:dD}{Q:VK}{a:List dB}{vs:List V}(F:jQ X.prog X.w X.K X.mg X.base CX k f fd ps sp)(hr:fN k X.A)(hb:lE X.K fd ps ds)(hd:ee dvs ds)(hx:vL CX X E)(I:Inv X ag σ H s)(r:ee vs a)(h:sp (vs++dvs) H Q E):dM (model X.prog X.w) X.A (call (.ref f) a) (EP X ag σ Q) X.xe s:=by
 have r2:ee (vs++dvs) (a++ds):=r.append hd;have d:(a++ds).length=ps.length:=by rw[<- r2.length];exact F.len _ _ _ _ h
 refine wpAny_call (codeAny_mono (F.run X.A X.stack s H ⟨a,[]⟩ (a++ds) (vs++dvs) Q E hr I.env0 (hb s a I.kIn d) r2 h) λr s' b=>?_);cases r with
 |error e=>exact hx ag σ H s e s' I b
 |ok c=>
  cases c with
  |ret u=>exact I.after b
  |next=>exact False.elim b
  |brk=>exact False.elim b
  |cont=>exact False.elim b
theorem CH (F:jQ X.prog X.w X.K X.mg X.base CX k f fd ps sp)(hr:fN k X.A)(hg:Gl X x)(hm:X.mg x=some (.ref f))(hk:wK1 X.K (.ref f)=true)(hb:lE X.K fd ps ds)(hd:ee dvs ds)(hx:vL CX X E)
  (ha:PA X (e::es) t) (hdb:(x == ("__debug__":Str))=J:=by decide) (he:dJ (e::es) X.env=(J,eval e X.env)::dJ es X.env:=by rfl) (hpl:(backTo pos (dJ es X.env)).any (·.1)=J:=by rfl):
  PE X (.Call (.Name x p) (e::es) [] pos) (HR sp dvs E t):=by
 intro ag s σ H Q I h;refine wpAny_Call_Name_kw (wC I hg hm ?_ hdb);refine PySem.W.callWith_K (h₀:=X.base) I.ok.mod.kin hk (fh (ha pos ag s σ H _ I h) λb c ⟨vs,H1,a,r,q⟩=>⟨a.kIn,?_⟩) he hpl;exact E6 F hr hb hd hx a r q
end
section
variable{X:Cx}{CX:yR}{k:Nat}{f C:dE}{fd:dQ}{ps ks:List Str}{sp:Sp}{E:XK}{x m:Str}{p pos apos kpos:Pos}{e o:Expr}{es:List Expr}{kws:List Keyword}{te ta:TE}{t tk:TA}{nm:Option Str}
variable{g:List dB->List dB->List dB}{gV:List V->List V->List V}
end
structure gu (N P:List Str)(sc:dS):Prop where
 kind:sc.kind = .function
 co:sc.isCoroutine=false
 gen:sc.isGenerator=false
 nd:N.Nodup
 pre:N.take P.length=P
 par:∀x∈P,sc.names.lookup x=some .local\/sc.names.lookup x=some .cell
 nofree:∀y∈sc.names,y.2 ≠ .free
theorem qm{kindOf:Str->Option NameKind}{x:Str}:∀{binds:List (Str×dB)} {m:Str->Option dB},(∀v,(x,v)∉binds)->bindL kindOf binds m x=m x
 |[],_,_=>rfl
 |(n,v)::r,m,h=>by
  unfold bindL;rw[qm λw a=>h w (mC1 _ a)];split
  ·have:x≠n:=by rintro rfl;exact h v mS1
   simp[this]
  ·rfl
theorem qp{kindOf:Str->Option NameKind}{x:Str}:∀{binds:List (Str×dB)} {m:Str->Option dB},(∀v,(x,v)∉binds)->bindC kindOf binds m x=m x
 |[],_,_=>rfl
 |(n,v)::r,m,h=>by
  unfold bindC;rw[qp λw a=>h w (mC1 _ a)];split
  ·rfl
  ·have:x≠n:=by rintro rfl;exact h v mS1
   simp[this]
theorem qo{kindOf:Str->Option NameKind}{x:Str}{v:dB}:∀ {P:List Str} {vs:List dB} {i:Nat} {m:Str->Option dB},P.Nodup->P[i]? = some x->vs[i]? = some v->kindOf x=some .local ->
  bindL kindOf (P.zip vs) m x=Z v
 |[],_,_,_,_,h,_,_=>by simp at h
 |_::_,[],_,_,_,_,h,_=>by simp at h
 |p::P,w::vs,0,m,nd,h1,h2,hk=>by
  simp at h1 h2;subst h1;subst h2;show bindL kindOf ((p,w)::P.zip vs) m p=_;unfold bindL;rw[qm λv a=>(aO.mp nd).1 (List.of_mem_zip a).1,ak hk];simp
 |p::P,w::vs,i+1,m,nd,h1,h2,hk=>by
  show bindL kindOf ((p,w)::P.zip vs) m x=_;unfold bindL;exact qo (i:=i) (aO.mp nd).2 (by simpa using h1) (by simpa using h2) hk
theorem qq{kindOf:Str->Option NameKind}{x:Str}{v:dB}:∀ {P:List Str} {vs:List dB} {i:Nat} {m:Str->Option dB},P.Nodup->P[i]? = some x->vs[i]? = some v->kindOf x≠some .local ->
  bindC kindOf (P.zip vs) m x=Z v
 |[],_,_,_,_,h,_,_=>by simp at h
 |_::_,[],_,_,_,_,h,_=>by simp at h
 |p::P,w::vs,0,m,nd,h1,h2,hk=>by
  simp at h1 h2;subst h1;subst h2;show bindC kindOf ((p,w)::P.zip vs) m p=_;unfold bindC;rw[qp λv a=>(aO.mp nd).1 (List.of_mem_zip a).1,aj hk];simp
 |p::P,w::vs,i+1,m,nd,h1,h2,hk=>by
  show bindC kindOf ((p,w)::P.zip vs) m x=_;unfold bindC;exact qq (i:=i) (aO.mp nd).2 (by simpa using h1) (by simpa using h2) hk
noncomputable def i3(N:List Str)(vs:List V):St:=vs.map Z++aP (N.length-vs.length) Y
noncomputable def mT(CX:yR)(P:dF)(w:dH)(K:Fg1)(mg:Str->Option dB)(base:dP)(N:List Str)(qual:Str)(scope:dS)(f:dE)(cd:dB)(A:dG)(outer:List Env)(s:dD)(H:Hp)(E:XK):Cx where
 prog:=P
 w:=w
 K:=K
 mg:=mg
 base:=base
 A:=A.deeper (envOfC qual scope s.heap.objs.size f cd)
 N:=N
 s₀:=s
 H₀:=H
 env:=envOfC qual scope s.heap.objs.size f cd
 outer:=outer
 stack:=envOfC qual scope s.heap.objs.size f cd::outer
 ex:=[]
 calm:=M
 fn:=λ_=>M
 pn:=[]
 xe:=λe s'=>dM (model P w) (A.deeper (envOfC qual scope s.heap.objs.size f cd)) (leaving (envOfC qual scope s.heap.objs.size f cd) e) (λ_ s''=>CX outer H s E e s'') (λe' s''=>CX outer H s E e' s'') s'
theorem ua{a:dS}{n:Nat}{x:Str}(h:a.names.lookup x=Z .cell):∃c,(cellsFrom n a.names []).lookup x=Z c:=by
 have q:=PySem.W.cellsFrom_some a.names n [] (.inl h);exact aQ.mp q
theorem ye{CX:yR}{P:dF}{w:dH}{K:Fg1}{mg:Str->Option dB}{base:dP}{N ps:List Str}{g:Str}{scope:dS}{f:dE}{B:dB}{A:dG}{d:List Env}{s s1:dD}{H:Hp}{E:XK}{C:List dB}{vs:List V}(S:gu N ps scope)(hd:A.handled=none)(j:D5 P w K mg base A d s H)(ao:vs.length=ps.length)(r:ee vs C)(x:InCallC s s.heap.objs.size (bindL (envOfC g scope s.heap.objs.size f B).kindOf (ps.zip C) fun _=>none) (cellsFrom (s.heap.objs.size+1) scope.names []) (bindC (envOfC g scope s.heap.objs.size f B).kindOf (ps.zip C) fun _=>none) s1):
  Inv (mT CX P w K mg base N g scope f B A d s H E) [] (i3 N vs) H s1:=by
 have am:ps.length<=N.length:=by have:=congrArg List.length S.pre;rw[aR]at this;lia
 obtain⟨h1,tk,rfl,F⟩:=x.done;have m:∀b:dE,b∉(mT CX P w K mg base N g scope f B A d s H E).ex:=λb z=>absurd (show b∈([]:List dE)from z) (by simp);refine⟨⟨j.mod,S.kind,O,O,nR1 _,λy z c h1 h2=>?_,λy l=>?_,λy c _ h=>?_,λ_=>hd,Around.frames_deeper j.frames,.inr ⟨O,O⟩,λb z=>absurd z (m b),j.bs,j.bsz,λb _ _=>m b,λb z=>absurd z (m b),j.funs,j.frf⟩,
  rfl,j.bare,Un.kept F,⟨_,x.toInCall.ns,λi y v h1 h2 L=>?_⟩,λy c h=>⟨_,x.cell y c h⟩,j.hok.fresh (nR1 _),λy c h=>?_,λp t=>absurd (show p∈([]:List (dE×Obj))from t) (by simp),j.hok.kept F,?_⟩
 ·exact name_of_addr x.apart (PySem.mem_of_lookup h1) (PySem.mem_of_lookup h2)
 ·have l:scope.names.lookup y=Z .cell\/scope.names.lookup y=Z .free:=l;rcases l with l|l
  ·exact ua l
  ·exact absurd O (S.nofree _ (PySem.mem_of_lookup l))
 ·exact aD (x.above y c (PySem.mem_of_lookup h))
 ·have hi:i<vs.length:=by
   unfold i3 at h2;by_cases hi:i<vs.length
   ·exact hi
   ·rw[gR1 (by simpa using hi)]at h2;rw[aS]at h2;split at h2<;>cases h2
  have I:vs[i]?=Z v:=by
   unfold i3 at h2;rw[gL1 (by simpa using hi),gP1]at h2;cases e:vs[i]? with
   |none=>rw[e]at h2;cases h2
   |some a=>rw[e]at h2;cases h2;rfl
  obtain⟨u,D,G⟩:=r.get I;have t:ps[i]?=Z y:=by
   rw[<- S.pre,aT (by lia)];exact h1
  have o:ps.Nodup:=by rw[<- S.pre];exact S.nd.sublist (aU _ _)
  refine⟨u,G,?_⟩;rcases S.par y (gM1 t)with k|k
  ·exact .inl ⟨k,qo o t D k⟩
  ·obtain⟨c,e⟩:=ua (n:=s.heap.objs.size+1) k;refine .inr ⟨.inl k,c,e,?_⟩;have q:=x.cell y c e;rw[qq o t D (by show scope.names.lookup y≠_;rw[k];decide)]at q;exact q
 ·exact j.hok.fresh (aD (x.above y c (PySem.mem_of_lookup h)))
 ·unfold i3;show _=N.length;rw[lA1,lM1,lR1];lia
theorem IU{CX:yR}{P:dF}{w:dH}{K:Fg1}{mg:Str->Option dB}{base:dP}{k:Nat}{f:dE}{name c:Str}{params:Arguments}{g:List dR}{scope:dS}{au kV B T d ct wq:dB}{R od:Option dE}{G:Array (Option dB)}{N ps:List Str}{sp:Sp}(lk:K.lookup f=some ⟨wq,od,.func (wF1 name c params g scope au kV B T R d ct),G⟩)(hcd:wC1 K d c=true)(S:gu N ps scope)(len:∀vs H Q E,sp vs H Q E->vs.length=ps.length)(j:∀(A:dG) (a:List Env) (s:dD) (H:Hp) (vs:List V) (Q:VK) (E:XK),fN k (A.deeper (envOfC c scope s.heap.objs.size f d))->sp vs H Q E ->
   ∃t,uv (mT CX P w K mg base N c scope f d A a s H E) g t/\t {nx:=λ_ H'=>Q .non H',rt:=Q} (i3 N vs) H):
  jQ P w K mg base CX (k+1) f (wF1 name c params g scope au kV B T R d ct) ps sp:=by
 refine⟨len,λA a s H L us vs Q E C z aq r p=>?_⟩;have hl:=len _ _ _ _ p;have ao:K.In s.heap:=z.mod.kin.keeps λb o e=>(z.bs b o e).1;have F:s.heap.NoLimit:=z.mod.nolimit.keeps λb o e=>(z.bs b o e).1;have i:∀y∈ps.zip us,scope.names.lookup y.1=Z .local\/(scope.names.lookup y.1=Z .cell/\((cellsFrom (s.heap.objs.size+1) scope.names []).lookup y.1).isSome=M):=λ⟨n,v⟩ W=>by
  rcases S.par n (List.of_mem_zip W).1 with q|q
  ·exact .inl q
  ·exact .inr ⟨q,PySem.W.cellsFrom_some _ _ _ (.inl q)⟩
 refine codeAny_call_function C.depth (ao _ _ lk) O S.co S.gen O (PySem.W.codeRec_of ao hcd) (aq _ _ _ _ ?_);refine wpAny_newFunctionEnv_cells S.kind i λenv he s1 x=>?_;subst he;refine⟨F.keeps x.toInCall.keep,codeAny_func ?_⟩;obtain⟨t,ht,U⟩:=j A a s H vs Q E (C.deeper _) p;have I:Inv (mT CX P w K mg base N c scope f d A a s H E) [] (i3 N vs) H s1:=ye S C.hd z hl r x;refine wpAny_mono (ht [] s1 (i3 N vs) H _ I U) (λX s' l=>?_) λe s' l=>l;have m:∀{h:St} {H':Hp} {v:V} {u:dB},Inv (mT CX P w K mg base N c scope f d A a s H E) [] h H' s'->d5 v u->Q v H'->CE a P w H s Q u s':=
  λ{h H' v u} am D q=>⟨v,H',am.os,am.bare,am.base,am.hok,D,q⟩
 cases X with
 |ret u=>
  obtain⟨v,h,H',am,D,q⟩:=l;exact m am D q
 |next=>
  obtain⟨h,H',am,q⟩:=l;exact m (v:=V.non) (u:=Value.none) am O q
 |brk=>
  obtain⟨_,_,_,q⟩:=l;exact False.elim q
 |cont=>
  obtain⟨_,_,_,q⟩:=l;exact False.elim q
end L2
namespace L2
open PySem PySem.Spec PyProof.Rows
section
variable{X:Cx}{x:Str}{p pos:Pos}{e:Expr}{es:List Expr}{t:TA}{id T:String}{r:List V->Hp->VK->Prop}
def KO(r:List V->Hp->VK->Prop)(t:TA):TE:=fun σ H Q=>t σ H λvs H1=>r vs H1 Q
theorem nT (hc:eZ X (.builtin id) r)(hg:Gl X x)(hm:X.mg x=none)(hv:bootBuiltins x=some (.builtin id))(ha:PA X (e::es) t)(hn:x≠"__name__":=by decide)(hdb:(x == ("__debug__":Str))=false:=by decide)
  (he:dJ (e::es) X.env=(J,eval e X.env)::dJ es X.env:=by rfl) (hpl:(backTo pos (dJ es X.env)).any (·.1)=J:=by rfl):PE X (.Call (.Name x p) (e::es) [] pos) (KO r t):=by
 intro ag s σ H Q I h;refine wpAny_Call_Name_kw (kb I hg hm hv ?_ hn hdb);exact PyProof.Rows.callWith_builtin1 (fh (ha pos ag s σ H _ I h) λc d ⟨vs,H1,f,b,a⟩=>hc ag d σ H1 vs c Q f b a) he hpl
theorem lP (hc:eZ X (.type T) r)(hg:Gl X x)(hm:X.mg x=none)(hv:bootBuiltins x=some (.type T))(ha:PA X (e::es) t)(hn:x≠"__name__":=by decide)(hdb:(x == ("__debug__":Str))=false:=by decide)
  (he:dJ (e::es) X.env=(J,eval e X.env)::dJ es X.env:=by rfl) (hpl:(backTo pos (dJ es X.env)).any (·.1)=J:=by rfl):PE X (.Call (.Name x p) (e::es) [] pos) (KO r t):=by
 intro ag s σ H Q I h;refine wpAny_Call_Name_kw (kb I hg hm hv ?_ hn hdb);exact PyProof.Rows.callWith_type1 (fh (ha pos ag s σ H _ I h) λc d ⟨vs,H1,f,b,a⟩=>hc ag d σ H1 vs c Q f b a) he hpl
end
end L2
namespace HT
open PySem PyProof.Rows
section
open PySem.SeqAt
open PySem.AutoSeq1 (wpAny_loadPart')
open PySem.MeetsSeq PySem.MeetsSeq2 PySem.MeetsSeq3
end
section
variable{prog:dF}{w:dH}{A:dG}{E:dB->dD->Prop}{s:dD}
theorem DQ {t b:dE}{vs ws:List dB}{Q:dB->dD->Prop}(ht:IsTup s.heap t vs.toArray)(hb:IsTup s.heap b ws.toArray)(hv:vs≠[])
  (h1:ws=[]->Q (.ref t) s) (h2:ws≠[]->Q (.ref s.heap.objs.size) {s with heap:=s.heap.push {cls:=.type "tuple",data:=.seq (vs++ws).toArray}})
  (hsz:vs.length+ws.length<=dL):dM (model prog w) A (binaryOp .Add (.ref t) (.ref b)) Q E s:=by
 obtain⟨⟨cls,m,data,k⟩,h,hc,n,o⟩:=id ht;obtain⟨⟨p,d,j,f⟩,a,g,l,c⟩:=id hb;simp only at hc o g c;subst hc o g c;have e:vs.toArray++ws.toArray=(vs++ws).toArray:=by simp
 by_cases i:ws=[]
 ·exact concat_meets ⟨_,h,rfl⟩ ⟨_,a,rfl⟩ noFill_tuple_add seq_tuple_add PySem.F.slot_tuple_add PySem.F.entry_tuple_add (PySem.F.args_tuple_add_2 _ _)
   (tuple_addW1 t b vs.toArray ws.toArray n l m d k f (by simpa using hv) (by simp[i])) ⟨h,a,h1 i⟩
 ·refine concat_meets ⟨_,h,rfl⟩ ⟨_,a,rfl⟩ noFill_tuple_add seq_tuple_add PySem.F.slot_tuple_add PySem.F.entry_tuple_add (PySem.F.args_tuple_add_2 _ _)
   (tuple_addW2 t b vs.toArray ws.toArray n l m d k f (by simpa using hv) (by simpa using i) (by rw[sT1,sT1];exact hsz)) ⟨h,a,?_⟩
  rw[e];exact h2 i
noncomputable def sIx(n d:Nat):Option Int->Nat
 |none=>d
 |some v=>if v<0 then(v+(n:Int)).toNat else min v.toNat n
theorem E5(n d:Nat)(hd:d<=n)(o:Option Int):sIx n d o<=n:=by
 cases o with
 |none=>exact hd
 |some v=>
  show(if v<0 then(v+(n:Int)).toNat else min v.toNat n)<=n;by_cases a:v<0
  ·rw[ak a];lia
  ·rw[aj a];exact Nat.min_le_right _ _
theorem w6(v:Int)(n d:Nat):(if v<0 then max (v+(n:Int)) 0 else min v (n:Int))=((sIx n d (Z v):Nat):Int):=by
 show(if v<0 then max (v+(n:Int)) 0 else min v (n:Int))=(((if v<0 then(v+(n:Int)).toNat else min v.toNat n):Nat):Int);by_cases a:v<0
 ·simp only[ak a];lia
 ·simp only[aj a];lia
theorem vG(lo hi:Option Int)(n:Nat):Builtin.Slice.sliceAdjust lo hi 1 (n:Int)=(((sIx n 0 lo:Nat):Int),((sIx n n hi:Nat):Int)):=by
 have h1:¬ ((1:Int)<0):=by lia
 unfold Builtin.Slice.sliceAdjust;simp only[h1,if_false];refine Prod.ext ?_ ?_
 ·cases lo with
  |none=>rfl
  |some v=>exact w6 v n 0
 ·cases hi with
  |none=>rfl
  |some v=>exact w6 v n n
theorem uT(i j:Nat):Builtin.Slice.slicePlaces (i:Int) (j:Int) 1=j-i:=by
 unfold Builtin.Slice.slicePlaces;have h1:(1:Int)>0:=by lia
 simp only[h1,if_true,Int.ediv_one];split<;>lia
theorem nD{v:dB}{o:Option Int}{Q:Option Int->dD->Prop}(p:IsPart v o)(h:Q o s):dM (model prog w) A (Builtin.Slice.slicePartIndex v) Q E s:=by
 cases p with
 |none=>exact slicePart_none h
 |int i t=>exact slicePart_int h
theorem ip{sl:dE}{c vu:dB}{lo hi:Option Int}{n:Nat}{Q:Int×Int×Nat->dD->Prop}(hs:s.heap.IsSliceOf sl c vu .none)(pl:IsPart c lo)(d:IsPart vu hi)(h:Q (((sIx n 0 lo:Nat):Int),1,sIx n n hi-sIx n 0 lo) s):dM (model prog w) A (Builtin.Slice.sliceApplied (.ref sl) (pure (n:Int))) Q E s:=by
 obtain⟨f,b,e,a⟩:=id hs;unfold Builtin.Slice.sliceApplied Builtin.Slice.sliceFields;refine wB1 (wB1 (wpAny_field b a (x:=c) O (wB1 (wpAny_field b a (x:=vu) O (wB1 (wpAny_field b a (x:=.none) O (wP1 ?_)))))));refine wB1 (slicePart_none ?_);show dM _ _ (if((1:Int) == 0)=M then _ else _) _ _ s;rw[aj (by decide)];refine wB1 (nD pl (wB1 (nD d (wB1 (wP1 ?_)))));show dM _ _ (match Builtin.Slice.sliceAdjust lo hi 1 (n:Int)with|(lo,hi)=>pure (lo,(1:Int),Builtin.Slice.slicePlaces lo hi 1)) _ _ s;rw[vG lo hi n];show dM _ _ (pure (((sIx n 0 lo:Nat):Int),(1:Int),Builtin.Slice.slicePlaces ((sIx n 0 lo:Nat):Int) ((sIx n n hi:Nat):Int) 1)) _ _ s;rw[uT];exact wP1 h
theorem zP(xs:Array dB)(i k:Nat):((af k).filterMap λ(m:Nat)=>xs[((i:Int)+(m:Int)*1).toNat]?).toArray=((xs.toList.drop i).take k).toArray:=by
 have e:(λ(m:Nat)=>xs[((i:Int)+(m:Int)*1).toNat]?)=λm=>xs[i+m]?:=by
  funext m
  have:((i:Int)+(m:Int)*1).toNat=i+m:=by lia
  rw[this]
 rw[e];have:=pick_run xs i k;rw[List.filterMap_map]at this;have a:((λx=>xs[x]?)∘λx=>i+x)=λm=>xs[i+m]?:=rfl;rw[a]at this;rw[this]
theorem lc {t sl:dE}{items:Array dB}{f vu:dB}{lo hi:Option Int}{Q:dB->dD->Prop}(ht:IsTup s.heap t items)(hs:s.heap.IsSliceOf sl f vu .none)(pl:IsPart f lo)(i:IsPart vu hi)
  (hw:¬ (sIx items.size 0 lo=0/\sIx items.size items.size hi=items.size))
  (h:Q (.ref s.heap.objs.size) {s with heap:=s.heap.push {cls:=.type "tuple",data:=.seq ((items.toList.drop (sIx items.size 0 lo)).take (sIx items.size items.size hi-sIx items.size 0 lo)).toArray}})
  (hsz:items.size<=dL):dM (model prog w) A (getItem (.ref t) (.ref sl)) Q E s:=by
 have a:sizeOk (.seq ((items.toList.drop (sIx items.size 0 lo)).take (sIx items.size items.size hi-sIx items.size 0 lo)).toArray):=by
  show((items.toList.drop (sIx items.size 0 lo)).take (sIx items.size items.size hi-sIx items.size 0 lo)).toArray.size<=dL;rw[sT1,aR,aV,aJ];omega
 have n:sIx items.size items.size hi<=items.size:=E5 _ _ (nR1 _) hi;obtain⟨j,d,e,g⟩:=id hs;have c:s.TypeIs (.ref sl) "slice":=⟨j,d,e⟩;unfold getItem
 try with_reducible refine wpAny_holding ?_
 first|refine wB1 (wP1 ?_)|skip
 refine wB1 (wpAny_sequenceKey ht.typeIs (by decide) ?_);refine wB1 (wpAny_callSpecial?_slot (name:=Str.ofString "__getitem__") ht.typeIs PyProof.Rows.slot_tuple_getitem
  (wE1 PyProof.Rows.slot_tuple_getitem ht.typeIs entry_tuple_getitem ?_ (args_tuple_getitem _ _)))
 show dM _ _ (Builtin.Tuple.tupleItemsOf (.ref t) >>= _) _ _ s;refine wB1 (tupleItemsOf_ ht ?_);refine wB1 (wpAny_typeOf c ?_);rw[ak (by decide)];refine wB1 (ip hs pl i ?_);have b:¬ ((((sIx items.size 0 lo:Nat):Int) == 0&&(1:Int) == 1&&(sIx items.size items.size hi-sIx items.size 0 lo) == items.size)=M):=by
  intro q;rw[bA1,bA1]at q;have k:((sIx items.size 0 lo:Nat):Int)=0:=eq_of_beq q.1.1;have l:sIx items.size items.size hi-sIx items.size 0 lo=items.size:=eq_of_beq q.2;exact hw ⟨by omega,by omega⟩
 show dM _ _ (if(((sIx items.size 0 lo:Nat):Int) == 0&&(1:Int) == 1&&(sIx items.size items.size hi-sIx items.size 0 lo) == items.size)=M then _ else _) _ _ s;rw[aj b,zP]
 first
  |exact wB1 (m:=Builtin.Tuple.tupleExact _) (wO1 (wP1 ⟨_,rfl,wP1 h⟩) a)
  |exact wB1 (m:=Builtin.Tuple.tupleExact _) (wO1 (wB1 (wP1 (wP1 ⟨_,rfl,wP1 h⟩))) a)
  |exact wB1 (wB1 (m:=Builtin.Tuple.tupleExact _) (wO1 (wP1 (wP1 ⟨_,rfl,wP1 h⟩)) a))
  |exact wB1 (wB1 (m:=Builtin.Tuple.tupleExact _) (wO1 (wP1 ⟨_,rfl,wP1 h⟩) a))
end
end HT
namespace L2
open PySem PySem.Spec PyProof.Rows
abbrev TO:=St->Hp->(Option Int->Hp->Prop)->Prop
def PO(X:Cx)(e:Option Expr)(t:TO):Prop:=
 ∀(ag:List (dE×Obj)) (s:dD) (σ:St) (H:Hp) (Q:Option Int->Hp->Prop),Inv X ag σ H s->t σ H Q ->
  dM (model X.prog X.w) X.A (evalPart e X.env) (λu s'=>∃o H',Inv X ag σ H' s'/\IsPart u o/\Q o H') X.xe s
noncomputable def Ca:TO:=λ_ H Q=>Q Y H
noncomputable def HH(t:TE):TO:=fun σ H Q=>t σ H λx H1=>∃i,x = .int i/\Q (Z i) H1
section
variable{X:Cx}{e:Expr}{te:TE}{lo hi:Option Expr}{tl th:TO}{pos p2:Pos}
theorem Cz:PO X Y Ca:=by
 intro ag s σ H Q I h;rw[evalPart_none];exact wP1 ⟨Y,H,I,.none,h⟩
theorem Cy(h:PE X e te):PO X (Z e) (HH te):=by
 intro ag s σ H Q I c;rw[evalPart_some];refine fh (h ag s σ H _ I c) λu f ⟨x,H1,d,b,a⟩=>?_;obtain⟨i,rfl,q⟩:=a;obtain⟨t,rfl⟩:=b;exact⟨Z i,H1,d,.int i t,q⟩
def BR(X:Cx)(r:V->Option Int->Option Int->Hp->VK->Prop):Prop:=
 ∀(ag:List (dE×Obj)) (s:dD) (σ:St) (H:Hp) (x:V) (v vl vu:dB) (lo hi:Option Int) (sl:dE) (Q:VK),Inv X ag σ H s->d5 x v->s.heap.IsSliceOf sl vl vu .none->IsPart vl lo->IsPart vu hi->r x lo hi H Q ->
  ∃T id,typeLookup (.type T) "__getitem__"=pure (Z (.builtin id))/\s.TypeIs v T/\dM (model X.prog X.w) X.A (getItem v (.ref sl)) (EP X ag σ Q) X.xe s
theorem BR.or{r d:V->Option Int->Option Int->Hp->VK->Prop}(h:BR X r)(h':BR X d):BR X (λx lo hi H Q=>r x lo hi H Q\/d x lo hi H Q):=by
 intro ag s σ H x v b vu lo hi e Q I f a pl c q;rcases q with q|q
 ·exact h ag s σ H x v b vu lo hi e Q I f a pl c q
 ·exact h' ag s σ H x v b vu lo hi e Q I f a pl c q
def Lc(r:V->Option Int->Option Int->Hp->VK->Prop)(te:TE)(tl th:TO):TE:=fun σ H Q=>te σ H λx H1=>tl σ H1 λl H2=>th σ H2 λu H3=>r x l u H3 Q
theorem zS{r:V->Option Int->Option Int->Hp->VK->Prop}(hr:BR X r)(he:PE X e te)(y:PO X lo tl)(A:PO X hi th):PE X (.Subscript e (.Slice lo hi Y p2) pos) (Lc r te tl th):=by
 intro ag s σ H Q I h;refine Subscript_ (fh (he ag s σ H _ I h) λv n ⟨x,H1,B,o,f⟩=>?_);refine wpAny_Slice (fh (y ag n σ H1 _ B f) λc z ⟨l,H2,k,pl,g⟩=>fh (A ag z σ H2 _ k g) λvu a ⟨u,d,i,p,m⟩=>?_);rw[evalPart_none];refine wP1 ?_;have j:Inv X ag σ d {a with heap:=a.heap.push {cls:=.type "slice",data:=.fields #[c,vu,.none]}}:=i.kept (t':=a.toks) λb D q=>hP1 _ q;obtain⟨T,id,t,C,w⟩:=hr ag {a with heap:=a.heap.push {cls:=.type "slice",data:=.fields #[c,vu,.none]}} σ d x v c vu l u a.heap.objs.size Q j o (Heap.IsSliceOf.new ..) pl p m;show dM (model X.prog X.w) X.A (subscriptTail e (.Slice lo hi Y p2) v (.ref a.heap.objs.size)) (EP X ag σ Q) X.xe {a with heap:=a.heap.push {cls:=.type "slice",data:=.fields #[c,vu,.none]}};exact tail_any (ops:=[.ref a.heap.objs.size,v]) C t w (by with_unfolding_all rfl)
noncomputable def t7(xs:List V)(lo hi:Option Int):List V:=(xs.drop (HT.sIx xs.length 0 lo)).take (HT.sIx xs.length xs.length hi-HT.sIx xs.length 0 lo)
theorem mF(xs:List V)(lo hi:Option Int):(t7 xs lo hi).length<=xs.length:=by
 unfold t7;rw[aR,aV];lia
def Kh(K:Fg1):V->Option Int->Option Int->Hp->VK->Prop:=λx lo hi H Q=>∃a xs,x = .ref a/\j5 K H a xs /\
 ¬ (HT.sIx xs.length 0 lo=0/\HT.sIx xs.length xs.length hi=xs.length) /\ ∀p,H p=Y->Q (.ref p) (upd H p (.tup (t7 xs lo hi)))
theorem EY:BR X (Kh X.K):=by
 intro ag s σ H x v m vu lo hi p Q I l i pl j h;obtain⟨a,xs,rfl,g,k,q⟩:=h;cases l;obtain⟨d,r,f,e⟩:=I.tuple g;have c:d.toArray.size=xs.length:=by rw[sT1];exact r.length.symm
 refine⟨"tuple",_,PyProof.Rows.slot_tuple_getitem.lookup,f.typeIs,?_⟩;refine HT.lc f i pl j (by rw[c];exact k) ?_ (by rw[c];exact e);rw[c];refine⟨.ref s.heap.objs.size,_,I.laid (t':=s.toks) (o:=.tup (t7 xs lo hi)) (λb n q=>hP1 _ q) (nR1 _) ?_,O,q _ (I.hok.fresh (nR1 _))⟩;exact⟨aC (mF xs lo hi) e,_,(r.drop (HT.sIx xs.length 0 lo)).take (HT.sIx xs.length xs.length hi-HT.sIx xs.length 0 lo),IsTup.new _ _⟩
noncomputable def H7(K:Fg1):R2:=λx y H Q=>∃a b xs ys,x = .ref a/\y = .ref b/\j5 K H a xs/\j5 K H b ys/\xs≠[]/\xs.length+ys.length<=dL /\
 (ys=[]->Q (.ref a) H)/\(ys≠[] -> ∀p,H p=Y->Q (.ref p) (upd H p (.tup (xs++ys))))
theorem ee.nil_iff{xs:List V}{a:List dB}(r:ee xs a):a=[]↔xs=[]:=by
 cases r with
 |nil=>simp
 |cons _ _=>simp
theorem CM:fV X (binaryOp .Add) (H7 X.K):=by
 intro ag s σ H x y v u Q I p n h;obtain⟨a,b,xs,ys,rfl,rfl,k,m,g,e,i,j⟩:=h;cases p;cases n;obtain⟨f,c,l,_⟩:=I.tuple k;obtain⟨d,r2,p2,_⟩:=I.tuple m;refine HT.DQ l p2 (λz=>g (c.nil_iff.mp z)) (λz=>⟨.ref a,H,I,O,i (r2.nil_iff.mp z)⟩) (λz=>?_) (by rw[<- c.length,<- r2.length];exact e);refine⟨.ref s.heap.objs.size,_,I.laid (t':=s.toks) (o:=.tup (xs++ys)) (λb r q=>hP1 _ q) (nR1 _) ?_,O,j (λw=>z (r2.nil_iff.mpr w)) _ (I.hok.fresh (nR1 _))⟩;exact⟨by rw[lA1];exact e,_,c.append r2,IsTup.new _ _⟩
end
end L2
namespace L2
open PySem PySem.Spec PyProof.Rows
noncomputable def yd(n:Nat)(i:Int):Option Nat:=if 0<=i then(if i<n then Z i.toNat else Y)else if-(n:Int)<=i then Z (i+n).toNat else Y
noncomputable def vF{α:Type}(xs:List α)(i:Int):Option α:=(yd xs.length i).bind λj=>xs[j]?
theorem rF{n:Nat}{i:Int}{j:Nat}(h:yd n i=Z j):seqIndex? i n=Z j/\j<n /\ -(n:Int)<=i/\i<n:=by
 unfold yd at h;by_cases a:0<=i
 ·rw[ak a]at h;by_cases h1:i<n
  ·rw[ak h1]at h;have e:i.toNat=j:=Option.some.inj h;exact⟨by rw[seqIndex_of a h1,e],by lia,by lia,h1⟩
  ·rw[aj h1]at h;cases h
 ·rw[aj a]at h;by_cases h1: -(n:Int)<=i
  ·rw[ak h1]at h;have e:(i+n).toNat=j:=Option.some.inj h;exact⟨by rw[seqIndex_neg (by lia) h1,e],by lia,h1,by lia⟩
  ·rw[aj h1]at h;cases h
theorem xh{α:Type}{xs:List α}{i:Int}{v:α}(h:vF xs i=Z v):∃j,seqIndex? i xs.length=Z j/\xs[j]?=Z v/\j<xs.length /\ -(xs.length:Int)<=i/\i<xs.length:=by
 unfold vF at h;cases e:yd xs.length i with
 |none=>rw[e]at h;cases h
 |some j=>
  rw[e]at h;obtain⟨h1,h2,b,a⟩:=rF e;exact⟨j,h1,h,h2,b,a⟩
def nk(b:Expr):Prop:=∀o i,subscripted b J o i=operate [o,i] (getItem o i)
def Ey(X:Cx)(r:R2):Prop:=
 ∀(value slice:Expr) (ag:List (dE×Obj)) (s:dD) (σ:St) (H:Hp) (x y:V) (v u:dB) (Q:VK),Inv X ag σ H s->d5 x v->d5 y u->r x y H Q ->
  subscripted slice J v u=operate [v,u] (getItem v u)->dM (model X.prog X.w) X.A (subscriptTail value slice v u) (EP X ag σ Q) X.xe s
def Ew(X:Cx)(id:String)(r:V->List V->Hp->VK->Prop):Prop:=
 ∀(ag:List (dE×Obj)) (s:dD) (σ:St) (H:Hp) (x:V) (xs:List V) (v:dB) (us:List dB) (Q:VK),Inv X ag σ H s->d5 x v->ee xs us->r x xs H Q ->
  dM (model X.prog X.w) X.A (call (.builtin id) (v::us)) (EP X ag σ Q) X.xe s
section
variable{X:Cx}{a b:Expr}{ta tb:TE}{pos:Pos}
theorem Ig{r:R2}(hr:Ey X r)(ha:PE X a ta)(hb:PE X b tb)(hs:nk b):PE X (.Subscript a b pos) (HI r ta tb):=by
 intro ag s σ H Q I h;exact Subscript_ (G6 ha hb I h λv u d x y H2 e c f q=>hr a b ag d σ H2 x y v u Q e c f q (hs _ _))
noncomputable def Kk(K:Fg1):R2:=λx y H Q=>∃p xs i v,x = .ref p/\y = .int i/\mW K H p xs/\vF xs i=Z v/\Q v H
noncomputable def Kj(K:Fg1):R2:=λx y H Q=>∃p xs i v,x = .ref p/\y = .int i/\j5 K H p xs/\vF xs i=Z v/\Q v H
theorem Do:Ey X (Kk X.K):=by
 intro value e ag s σ H x y v u Q I C A h g;obtain⟨p,xs,i,z,rfl,rfl,l,m,q⟩:=h;cases C;obtain⟨t,rfl⟩:=A;obtain⟨b,r,pl,F⟩:=I.list l;obtain⟨j,h1,h2,E,n,o⟩:=xh m;obtain⟨w,f,c⟩:=r.get h2;have B:=r.length;have D:=lW;have a:EP X ag σ Q w s:=⟨z,H,I,c,q⟩;by_cases k:0<=i
 ·have d:i.toNat=j:=by
   rw[seqIndex_of k o]at h1;exact Option.some.inj h1
  exact item_listR pl.isList k (by lia) (by rw[d];simpa using f) a g
 ·have d:(i+(b.toArray.size:Int)).toNat=j:=by
   rw[seqIndex_neg (by lia) n]at h1;rw[sT1,<- B];exact Option.some.inj h1
  exact subscriptTail_builtinR (x:=w) pl.isList.typeIs slot_list_getitem.lookup
   (wpAny_getItem_list_neg (Q:=λr s'=>r=w/\EP X ag σ Q r s') pl.isList (by lia) (by rw[sT1]<;>lia) (by lia) (by rw[d];simpa using f) ⟨O,a⟩) g
theorem GN:Ey X (Kj X.K):=by
 intro value c ag s σ H x y v u Q I n l h k;obtain⟨p,xs,i,z,rfl,rfl,f,g,q⟩:=h;cases n;obtain⟨t,rfl⟩:=l;obtain⟨d,r,pl,D⟩:=I.tuple f;obtain⟨j,h1,h2,A,B,C⟩:=xh g;obtain⟨w,e,b⟩:=r.get h2;have m:=r.length;have o:=lW;have a:EP X ag σ Q w s:=⟨z,H,I,b,q⟩;exact subscriptTail_builtinR (x:=w) pl.typeIs slot_tuple_getitem.lookup
  (getItem_tuple (j:=j) (Q:=λr s'=>r=w/\EP X ag σ Q r s') pl (by lia) (by lia) (by rw[sT1,<- m];exact h1) (by simpa using e) ⟨O,a⟩) k
theorem va(its:List dB)(n j:Nat)(u:dB):Obj.mapSeq (·.setIfInBounds j u) {cls:=.type "list",data:=.seq its.toArray n}={cls:=.type "list",data:=.seq (its.set j u).toArray n}:=by
 simp[Obj.mapSeq]
theorem Inv.lst{ag:List (dE×Obj)}{σ:St}{H:Hp}{s:dD}{p:dE}{xs:List V}(I:Inv X ag σ H s)(h:H p=some (.lst xs)):
  ∃(its:List dB) (n:Nat),ee xs its/\s.heap.get? p=Z {cls:=.type "list",data:=.seq its.toArray n}/\xs.length<=dL:=by
 obtain⟨z,its,n,r,e⟩:=I.hok p _ h;exact⟨its,n,r,e,z⟩
theorem Inv.lstUpd {ag:List (dE×Obj)}{σ:St}{H:Hp}{s:dD}{p:dE}{xs ys:List V}{its its':List dB}{n a:Nat}{f:Obj->Obj}(I:Inv X ag σ H s)(h:H p=some (.lst xs))
  (ho:s.heap.get? p=Z {cls:=.type "list",data:=.seq its.toArray n}) (hf:f {cls:=.type "list",data:=.seq its.toArray n}={cls:=.type "list",data:=.seq its'.toArray a}) (r:ee ys its') (hz:ys.length<=dL) (t:Nat):
  Inv X ag σ (upd H p (.lst ys)) {s with heap:=s.heap.update p f,toks:=t}:=by
 have e:(s.heap.update p f).get? p=Z {cls:=.type "list",data:=.seq its'.toArray a}:=by
  rw[hW1 f ho (by rw[hf]<;>rfl),hf]
 refine I.write (x:=p) (e:=p) (by rw[h];trivial) (.inl O) (λb u c q=>(Heap.get?_update_other _ _ (Ne.symm c)).trans q) ⟨_,e⟩ ?_;exact⟨hz,its',a,r,e⟩
def H0:V->V->V->Hp->(Hp->Prop)->Prop:=λo i v H Q=>∃p xs k j,o = .ref p/\i = .int k/\H p=Z (.lst xs)/\yd xs.length k=Z j/\Q (upd H p (.lst (xs.set j v)))
theorem zv:vM X H0:=by
 intro ag s σ H o i v D C u Q I z x y h;obtain⟨p,xs,k,j,rfl,rfl,m,w,q⟩:=h;cases z;obtain⟨t,rfl⟩:=x;obtain⟨a,n,r,c,A⟩:=I.lst m;obtain⟨h1,h2,e,g⟩:=rF w;have b:=r.length;have B:=lW;have f:Inv X ag σ (upd H p (.lst (xs.set j v))) {s with heap:=s.heap.update p (Obj.mapSeq (·.setIfInBounds j u))}:=
  I.lstUpd m c (va a n j u) (r.set y j) (by rw[aW];exact A) s.toks
 by_cases l:0<=k
 ·have d:k.toNat=j:=by
   rw[seqIndex_of l g]at h1;exact Option.some.inj h1
  exact PySem.W.ki_setAt c l (by lia) (by rw[sT1,<- b];exact g) (by rw[d];exact⟨_,f,q⟩)
 ·have d:(k+(a.toArray.size:Int)).toNat=j:=by
   rw[seqIndex_neg (by lia) e]at h1;rw[sT1,<- b];exact Option.some.inj h1
  exact PySem.W.ki_setBack c (by lia) (by rw[sT1,<- b];exact e) (by lia) (by rw[d];exact⟨_,f,q⟩)
theorem q0(lo hi:Option Int)(n:Nat):(sliceBounds lo hi Y n).1=((HT.sIx n 0 lo:Nat):Int)/\(sliceBounds lo hi Y n).2.1=((HT.sIx n n hi:Nat):Int)/\(sliceBounds lo hi Y n).2.2=1:=by
 refine⟨?_,?_,O⟩
 ·cases lo with
  |none=>simp[sliceBounds,HT.sIx]
  |some i=>
   simp only[sliceBounds,HT.sIx,Option.getD_none,show(1:Int)>0 by decide,if_true];by_cases h:i<0
   ·simp only[h,if_true]<;>lia
   ·simp only[h,if_false]<;>lia
 ·cases hi with
  |none=>simp[sliceBounds,HT.sIx]
  |some i=>
   simp only[sliceBounds,HT.sIx,Option.getD_none,show(1:Int)>0 by decide,if_true];by_cases h:i<0
   ·simp only[h,if_true]<;>lia
   ·simp only[h,if_false]<;>lia
theorem oQ(its:List dB)(lo hi:Option Int):slicePick its.toArray lo hi Y=((its.drop (HT.sIx its.length 0 lo)).take (HT.sIx its.length its.length hi-HT.sIx its.length 0 lo)).toArray:=by
 obtain⟨h1,h2,a⟩:=q0 lo hi its.toArray.size;unfold slicePick;rw[h1,h2,a];simp only[sliceRange_one,pick_run,sT1]<;>rfl
def Ki(K:Fg1):V->Option Int->Option Int->Hp->VK->Prop:=λx lo hi H Q=>∃a xs,x = .ref a/\mW K H a xs /\ ∀p,H p=Y->Q (.ref p) (upd H p (.lst (t7 xs lo hi)))
theorem Cf:BR X (Ki X.K):=by
 intro ag s σ H x v l vu lo hi n Q I k g pl i h;obtain⟨a,xs,rfl,f,q⟩:=h;cases k;obtain⟨e,r,d,j⟩:=I.list f;have c:=r.length;refine⟨"list",_,slot_list_getitem.lookup,d.isList.typeIs,?_⟩;refine wpAny_getItem_list_slice d.isList g pl i .none (by simp) ?_ (by rw[sT1]<;>lia);rw[oQ,<- c];refine⟨.ref s.heap.objs.size,_,I.laid (t':=s.toks) (o:=.lst (t7 xs lo hi)) (λb m q=>hP1 _ q) (nR1 _) ?_,O,q _ (I.hok.fresh (nR1 _))⟩;exact⟨aC (mF xs lo hi) j,_,0,(r.drop (HT.sIx xs.length 0 lo)).take (HT.sIx xs.length xs.length hi-HT.sIx xs.length 0 lo),hS1 _ O⟩
noncomputable def jY:V->Bool
 | .non=>M
 | .bl _=>M
 | .int _=>M
 | .str _=>M
 |_=>J
noncomputable def ut:V->V->Bool
 | .non,.non=>M
 | .bl a,.bl b=>a == b
 | .bl a,.int b=>(if a then 1 else 0) == b
 | .int a,.bl b=>a == (if b then 1 else 0)
 | .int a,.int b=>a == b
 | .str a,.str b=>a == b
 |_,_=>J
theorem ke{A:dG}{s:dD}{y x:V}{u v:dB}(e:d5 y u)(c:d5 x v)(g:jY y=M)(f:jY x=M):SeqAt.EqAt A s u v (ut y x):=by
 cases y with
 |non=>
  cases e;cases x with
  |non=>cases c;exact SeqAt.EqAt.same _
  |bl b=>cases c;exact SeqAt.EqAt.none_bool b
  |int b=>obtain⟨t,rfl⟩:=c;exact SeqAt.EqAt.none_int b t
  |str b=>obtain⟨t,rfl⟩:=c;exact SeqAt.EqAt.none_str b t
  |_=>exact absurd (show J=M from f) aK
 |bl a=>
  cases e;cases x with
  |non=>cases c;exact SeqAt.EqAt.bool_none a
  |bl b=>cases c;exact SeqAt.EqAt.bool_bool a b
  |int b=>obtain⟨t,rfl⟩:=c;exact SeqAt.EqAt.bool_int a b t
  |str b=>obtain⟨t,rfl⟩:=c;exact SeqAt.EqAt.bool_str a b t
  |_=>exact absurd (show J=M from f) aK
 |int a=>
  obtain⟨d,rfl⟩:=e;cases x with
  |non=>cases c;exact SeqAt.EqAt.int_none a d
  |bl b=>cases c;exact SeqAt.EqAt.int_bool a d b
  |int b=>obtain⟨t,rfl⟩:=c;exact SeqAt.EqAt.int_int a d b t
  |str b=>obtain⟨t,rfl⟩:=c;exact SeqAt.EqAt.int_str a d b t
  |_=>exact absurd (show J=M from f) aK
 |str a=>
  obtain⟨d,rfl⟩:=e;cases x with
  |non=>cases c;exact SeqAt.EqAt.str_none a d
  |bl b=>cases c;exact SeqAt.EqAt.str_bool a d b
  |int b=>obtain⟨t,rfl⟩:=c;exact SeqAt.EqAt.str_int a d b t
  |str b=>obtain⟨t,rfl⟩:=c;exact SeqAt.EqAt.str_str a d b t
  |_=>exact absurd (show J=M from f) aK
 |_=>exact absurd (show J=M from g) aK
theorem rW:eZ X (.builtin "len") (λxs H Q=>∃p ys,xs=[.ref p]/\(mW X.K H p ys\/j5 X.K H p ys)/\Q (.int ys.length) H):=by
 intro ag s σ H xs i Q I r h;obtain⟨p,ys,rfl,b,q⟩:=h;obtain⟨u,rfl,f⟩:=g0 r;cases f;have g:=lW;rcases b with b|b
 ·obtain⟨c,d,pl,e⟩:=I.list b;have a:=d.length;exact Calls.call_len_list pl.isList (by simp only[sT1]<;>lia) ⟨.int ys.length,H,I.tok _,⟨s.toks+1,by rw[sT1,a]⟩,q⟩
 ·obtain⟨c,d,pl,e⟩:=I.tuple b;have a:=d.length;exact len_tuple pl (by simp only[sT1]<;>lia) ⟨.int ys.length,H,I.tok _,⟨s.toks+1,by rw[sT1,a]⟩,q⟩
theorem rV:eZ X (.builtin "len") (λxs H Q=>∃z,xs=[.str z]/\z.length<=dL/\Q (.int z.length) H):=by
 intro ag s σ H xs b Q I r h;obtain⟨z,rfl,c,q⟩:=h;obtain⟨u,rfl,t,rfl⟩:=g0 r;have a:=lW;exact len_str (by lia) ⟨.int z.length,H,I.tok _,⟨_,O⟩,q⟩
theorem rT:eZ X (.type "list") (λxs H Q=>∃p ys,xs=[.ref p]/\(mW X.K H p ys\/j5 X.K H p ys) /\ ∀l,H l=Y->Q (.ref l) (upd H l (.lst ys))):=by
 intro ag s σ H xs w Q I r h;obtain ⟨p,ys,rfl,f,q⟩:=h;obtain ⟨u,rfl,v⟩:=g0 r;cases v;have j:∀ (a:List dB),ee ys a->ys.length<=dL -> ∀ (h':dP) (c:Nat),(∀ b o',s.heap.get? b=some o'->h'.get? b=some o') ->
   h'.get? s.heap.objs.size=Z {cls:=.type "list",dict:=Y,data:=.seq a.toArray c,slots:= #[]}->EP X ag σ Q (.ref s.heap.objs.size) {s with heap:=h'}:=λa d k h' c i e=>
  ⟨.ref s.heap.objs.size,_,I.laid (t':=s.toks) i (nR1 _) (show eG X.prog X.w _ h' _ (.lst ys)from⟨k,a,c,d,e⟩),O,q _ (I.hok.fresh (nR1 _))⟩
 rcases f with f|f
 ·obtain⟨a,d,pl,k⟩:=I.list f;have g:=d.length;obtain⟨o,m,hc,n,t⟩:=pl.isList;exact call_list_seq p (.inl O) m hc t (λh' c i e=>j a d k h' c i e) (by simp only[sT1]<;>lia)
 ·obtain⟨a,d,pl,k⟩:=I.tuple f;have g:=d.length;obtain⟨o,m,hc,n,t⟩:=pl;exact call_list_seq p (.inr O) m hc t (λh' c i e=>j a d k h' c i e) (by simp only[sT1]<;>lia)
theorem pd:eZ X (.type "tuple") (λxs H Q=>∃p ys,xs=[.ref p]/\((mW X.K H p ys /\ ∀l,H l=Y->Q (.ref l) (upd H l (.tup ys)))\/(j5 X.K H p ys/\Q (.ref p) H))):=by
 intro ag s σ H xs n Q I r h;obtain⟨p,ys,rfl,h⟩:=h;obtain⟨u,rfl,m⟩:=g0 r;cases m;rcases h with⟨c,q⟩|⟨c,q⟩
 ·obtain ⟨a,d,pl,g⟩:=I.list c;have f:=d.length;refine call_tuple_list pl.isList (fun h' j=>?_) (by simp only [sT1]<;>lia);have i:Inv X ag σ H {s with heap:=h'}:=I.kept (t':=s.toks) j;have k:Inv X ag σ (upd H h'.objs.size (.tup ys)) {s with heap:=h'.push {cls:=.type "tuple",data:=.seq a.toArray}}:=
   i.laid (t':=s.toks) (λb o e=>hP1 _ e) (nR1 _) (show eG X.prog X.w _ _ _ (.tup ys)from⟨g,a,d,IsTup.new _ _⟩)
  exact⟨.ref h'.objs.size,_,k,O,q _ (i.hok.fresh (nR1 _))⟩
 ·obtain⟨a,d,pl,g⟩:=I.tuple c;exact call_tuple_same pl ⟨.ref p,H,I,O,q⟩
def KM(K:Fg1)(T:String)(x:V)(H:Hp):Prop:=match x with
 | .str _=>T="str"
 | .int _=>T="int"
 | .ref p=>(T="list" /\ ∃ xs,mW K H p xs)\/(T="tuple" /\ ∃ o,K.lookup p=some o/\o.cls = .type "tuple"/\o.dict=none) \/
   (T="dict"/\((∃kvs,H p=Z (.dK kvs)) \/ ∃kvs,H p=Z (.dT kvs)))\/(T="set" /\ ∃S n,H p=Z (.set S n))
 |_=>False
theorem EG{ag:List (dE×Obj)}{σ:St}{H:Hp}{s:dD}{T:String}{x:V}{v:dB}(I:Inv X ag σ H s)(r:d5 x v)(ty:KM X.K T x H):
  s.TypeIs v T /\ ∀a,v = .ref a -> ∃g,s.heap.get? a=Z g/\g.dict=Y:=by
 cases x with
 |str z=>
  obtain⟨t,rfl⟩:=r;cases(show T="str" from ty);exact⟨typeIs_str s z t,λ_ e=>nomatch e⟩
 |int i=>
  obtain⟨t,rfl⟩:=r;cases(show T="int" from ty);exact⟨typeIs_int s i t,λ_ e=>nomatch e⟩
 |ref p=>
  cases r;rcases ty with⟨rfl,xs,j⟩|⟨rfl,o,b,hc,f⟩|⟨rfl,b⟩|⟨rfl,S,n,b⟩
  ·obtain⟨h,_,pl,_⟩:=I.list j;refine⟨pl.isList.typeIs,λa e=>?_⟩;cases e;obtain⟨o,n,e,c,f,_⟩:=pl;exact⟨o,e,f⟩
  ·refine⟨⟨o,I.kIn p o b,hc⟩,λa e=>?_⟩;cases e;exact⟨o,I.kIn _ o b,f⟩
  ·have z:∃ o,s.heap.get? p=some o/\o.ExactDict:=by
    rcases b with⟨kvs,b⟩|⟨kvs,b⟩
    ·obtain⟨_,_,_,_,o,_,_,e,ex,_⟩:=I.hok p _ b;exact⟨o,e,ex⟩
    ·obtain⟨_,_,_,_,o,_,_,e,ex,_⟩:=I.hok p _ b;exact⟨o,e,ex⟩
   obtain⟨o,e,ex⟩:=z;refine⟨⟨o,e,ex.1⟩,λa d=>?_⟩;cases d;exact⟨o,e,ex.2.1⟩
  ·obtain⟨o,_,_,_,e,ex,_⟩:=I.hok p _ b;refine⟨⟨o,e,ex.1⟩,λa d=>?_⟩;cases d;exact⟨o,e,ex.2.1⟩
 |_=>exact False.elim ty
def Lg(K:Fg1)(T:String)(r:V->List V->Hp->VK->Prop)(to:TE)(t:TA):TE:=fun σ H Q=>to σ H λx H1=>KM K T x H1/\t σ H1 λxs H2=>r x xs H2 Q
variable{o e:Expr}{es:List Expr}{to:TE}{t:TA}{name:Str}{apos cpos:Pos}{T id:String}{r:V->List V->Hp->VK->Prop}
theorem Ih (l:PlainAttrs T)(slot:Slot T name id)(hty:typeOf (.builtin id)=pure (.type "method_descriptor"))(hm:Ew X id r)(ho:PE X o to)(ha:PA X (e::es) t)
  (hbase:attributeBase o name X.env (eval o X.env)=eval o X.env:=by rfl)
  (hfew:((backTo cpos (dJ (e::es) X.env)).all (λx=> !x.1)&&(backToKw cpos (keywordEach [] X.env)).all (λx=>x.1.isSome)
   && decide ((e::es).length+([]:List Keyword).length+(if([]:List Keyword).isEmpty then 0 else 1)<30))=M:=by rfl)
  (hline:(apos.endLine == cpos.line)=M:=by rfl) (hs:dJ (e::es) X.env=(J,eval e X.env)::dJ es X.env:=by rfl) (hplain:(backTo cpos (dJ es X.env)).any (·.1)=J:=by rfl):
  PE X (.Call (.Attribute o name apos) (e::es) [] cpos) (Lg X.K T r to t):=by
 intro ag s σ H Q I h;refine wpAny_Call_method_late hbase hfew hline O (fh (ho ag s σ H _ I h) λv k ⟨x,H1,c,a,ty,f⟩=>?_);obtain⟨h1,h2⟩:=EG c a ty;refine⟨T,id,l,slot,hty,h1,h2,?_⟩;have b:=ha cpos ag k σ H1 _ c f;rw[hs]at b ⊢;refine Calls.callWith_builtin (by show(J||(backTo cpos (dJ es X.env)).any (·.1))=J;rw[hplain]<;>rfl) (Calls.evalArgs_plain ?_);exact fh b λj d ⟨vs,H2,i,r2,g⟩=>hm ag d σ H2 x vs v j Q i a r2 g
end
end L2
namespace L2
open PySem PySem.Spec PyProof.Rows
def K7(X:Cx)(id:String)(r:V->List V->Hp->VK->Prop):Prop:=
 ∀(ag:List (dE×Obj)) (s:dD) (σ:St) (H:Hp) (x:V) (xs:List V) (v:dB) (us:List dB) (Q:VK),Inv X ag σ H s->d5 x v->ee xs us->r x xs H Q ->
  dM (model X.prog X.w) X.A (call (.builtin id) (v::us)) (EP X ag σ Q) X.xe s
theorem ee.one:∀{x:V} {a:List dB},ee [x] a -> ∃u,a=[u]/\d5 x u:=by
 intro x a h;cases h with
 |cons r t=>cases t;exact⟨_,O,r⟩
theorem ee.two:∀{x y:V} {a:List dB},ee [x,y] a -> ∃u v,a=[u,v]/\d5 x u/\d5 y v:=by
 intro x y a h;cases h with
 |cons r t=>obtain⟨v,rfl,q⟩:=ee.one t;exact⟨_,_,O,r,q⟩
theorem ee.eraseIdx:∀{xs:List V} {a:List dB} (i:Nat),ee xs a->ee (xs.eraseIdx i) (a.eraseIdx i)
 |_,_,_,.nil=>.nil
 |_,_,0,.cons _ t=>t
 |_,_,i+1,.cons r t=>.cons r (ee.eraseIdx i t)
theorem pX{α:Type}:∀(l:List α) (i:Nat),(l.eraseIdx i).length<=l.length
 |[],_=>nR1 _
 |_::_,0=>aX _
 |_::r,i+1=>Nat.succ_le_succ (pX r i)
section
variable{X:Cx}{ag:List (dE×Obj)}{σ:St}{H:Hp}{s:dD}{l b:dE}{xs ys zs:List V}
theorem Inv.lset {its its':List dB}{n:Nat}{f:Array dB->Array dB}{t':Nat}(I:Inv X ag σ H s)(b:H l=some (.lst xs))
  (e:s.heap.get? l=Z {cls:=.type "list",data:=.seq its.toArray n}) (hf:f its.toArray=its'.toArray) (hv:ee ys its') (hz:ys.length<=dL):
  Inv X ag σ (upd H l (.lst ys)) {s with heap:=s.heap.update l (Obj.mapSeq f),toks:=t'}:=by
 have q:=PySem.IsL.update e f;rw[hf]at q;refine I.write (x:=l) (e:=l) (by rw[b];exact trivial) (.inl O) (λd u a c=>(Heap.get?_update_other s.heap (Obj.mapSeq f) (Ne.symm a)).trans c) ⟨_,q⟩ ?_;exact⟨hz,its',_,hv,q⟩
theorem Inv.lnew{its:List dB}{t':Nat}(I:Inv X ag σ H s)(hv:ee ys its)(hz:ys.length<=dL):
  Inv X ag σ (upd H s.heap.objs.size (.lst ys)) {s with heap:=s.heap.push {cls:=.type "list",data:=.seq its.toArray},toks:=t'}:=
 I.laid (λ_ _ q=>hP1 _ q) (nR1 _) ⟨hz,its,0,hv,hS1 _ O⟩
theorem Inv.fresh(I:Inv X ag σ H s):H s.heap.objs.size=Y:=I.hok.fresh (nR1 _)
theorem Inv.lstM(I:Inv X ag σ H s)(a:H l=Z (.lst xs)):xs.length<=dL /\ ∃(its:List dB) (n:Nat),ee xs its/\xs.length=its.length/\s.heap.get? l=Z {cls:=.type "list",data:=.seq its.toArray n}:=by
 obtain⟨z,its,n,r,e⟩:=I.hok l _ a;exact⟨z,its,n,r,r.length,e⟩
end
section
variable{X:Cx}
def Cn:V->List V->Hp->VK->Prop:=λx vs H Q=>∃l xs y,x = .ref l/\vs=[y]/\H l=Z (.lst xs)/\xs.length<dL/\Q .non (upd H l (.lst (xs++[y])))
theorem pQ:K7 X "list.append" Cn:=by
 intro ag s σ H x vs v g Q I f c h;obtain⟨l,xs,y,rfl,rfl,b,i,q⟩:=h;cases f;obtain⟨u,rfl,d⟩:=c.one;obtain⟨z,a,n,r,j,e⟩:=I.lstM b;refine call_meets F.slot_list_append ⟨_,e,O⟩ F.entry_list_append (F.args_list_append_2 _ _) (PySem.list_append l a.toArray n u (by rw[sT1];lia)) ⟨e,?_⟩;refine⟨.non,_,I.lset (its':=a++[u]) b e (by simp) (r.append (.cons d .nil)) ?_,O,q⟩;rw[lA1,aY];lia
def Fc:V->List V->Hp->VK->Prop:=λx vs H Q=>∃l xs i k y,x = .ref l/\vs=[.int i]/\H l=Z (.lst xs) /\ -(2^63)<=i/\i<2^63/\seqIndex? i xs.length=Z k/\xs[k]?=Z y/\Q y (upd H l (.lst (xs.eraseIdx k)))
theorem Ah:K7 X "list.pop" Fc:=by
 intro ag s σ H x vs v A Q I p m h;obtain⟨l,xs,i,k,y,rfl,rfl,c,h1,h2,j,g,q⟩:=h;cases p;obtain⟨u,rfl,o⟩:=m.one;obtain⟨t,rfl⟩:=o;obtain⟨z,a,n,r,d,e⟩:=I.lstM c;obtain⟨w,f,b⟩:=r.get g;refine call_meets F.slot_list_pop ⟨_,e,O⟩ F.entry_list_pop (F.args_list_pop_2 _ _)
  (MeetsSeq.list_pop_at l a.toArray n i t k w (fitsIndex_both h1 h2) (by rw[sT1,<- d];exact j) (by rw[<- aT1];exact f) (by rw[sT1];lia)) ⟨e,?_⟩
 refine⟨y,_,I.lset (its':=a.eraseIdx k) c e ?_ (r.eraseIdx k) ?_,b,q⟩
 ·show a.toArray.eraseIdxIfInBounds k=(a.eraseIdx k).toArray;rw[List.eraseIdxIfInBounds_toArray]
 ·have:=pX xs k;lia
noncomputable def Kl:R2:=λx y H Q=>∃l b xs zs,x = .ref l/\y = .ref b/\H l=Z (.lst xs)/\H b=Z (.lst zs)/\xs.length+zs.length<=dL /\ ∀p,H p=Y->Q (.ref p) (upd H p (.lst (xs++zs)))
theorem FR:fV X (binaryOp .Add) Kl:=by
 intro ag s σ H x y v u Q I m k h;obtain⟨l,b,xs,zs,rfl,rfl,i,f,p,q⟩:=h;cases m;cases k;obtain⟨z,c,n,r,t,e⟩:=I.lstM i;obtain⟨w,a,o,r2,j,g⟩:=I.lstM f;refine PySem.P.add_list e g ?_ (by rw[sT1,sT1];lia);have d:c.toArray++a.toArray=(c++a).toArray:=by simp
 rw[d];exact⟨.ref _,_,I.lnew (t':=s.toks) (r.append r2) (by rw[lA1];lia),O,q _ I.fresh⟩
end
section
variable{prog:dF}{w:dH}{A:dG}{E:dB->dD->Prop}{s:dD}
end
section
variable{X:Cx}
end
end L2
namespace Att
open PySem PySem.W PySem.Calls PyProof.Rows
theorem mO{P:Params}{h:dP}:∀(ns:List Int) (vs:List dB),WellAll P h vs (ns.map WData.int)->IntsAre vs ns:=by
 intro ns
 induction ns with
 |nil=>
  intro vs w;rw[aZ]at w;cases w;exact .nil
 |cons n ns ih=>
  intro vs w;rw[mP1]at w;cases w with
  |cons a b=>
   cases a;exact .cons _ _ (ih _ b)
theorem xK{l:OpenLaw}{n:Nat}(hn:l.most=some n){P:Params}{h:dP}{args:List WData}{c:List dB}(b:l.row.toRowW.claim.pre args=true)(k:WellAll P h c args):
  ∃a vs ns,c=[Value.ref a]/\args=[WData.list (ns.map WData.int)]/\h.get? a=Z {cls:=.type "list",data:=.seq vs.toArray}/\IntsAre vs ns/\ns.length<=n:=by
 have j:WShape.hasAll [] args [.list .int]=M:=(pre_splitW b).1;have hc:l.pre.holds [] {args:=args}=M:=(pre_splitW b).2;obtain⟨d,r,rfl,h1,h2⟩:=hasAllW_cons j;obtain rfl:=hasAllW_nil h2;obtain⟨xs,rfl,m⟩:=hasW_list h1;obtain⟨ns,rfl⟩:=items_int m;have e:ns.length<=n:=by
  unfold OpenLaw.pre at hc;have g:(WTm.not (.lt (.lit (.int (n:Int))) (.len (.arg 0)))).holds [] {args:=[.list (ns.map .int)]}=M:=by
   have g:=(holds_andW hc).1;rw[hn]at g;exact g
  have i:=condW_of g (w_not (w_lt w_lit (w_len_list (w_arg O))));rw[lM1]at i;refine a0 λq=>?_;have p:(n:Int)<((ns.length:Nat):Int):=by omega
  first
   |(rw[ah p]at i;exact absurd i (by decide))
   |(simp at i;omega)
 cases k with
 |cons t o=>
  cases o;cases t with
  |list s f=>exact⟨_,_,ns,O,O,s,mO ns _ f,e⟩
theorem xL(l:OpenLaw)(args:List WData):l.row.toRowW.claim.post args (.bool M) args=M:=
 postW_of (r:=l.row.toRowW) (X:=(M == M))
  (show WShape.has [] (.bool M) .bool=M by first|rfl|decide|simp[WShape.has,WShape.arms,WShape.armsAll])
  (show(WTm.eq .res (.lit (.bool M))).value [] {args:=args,res:=Z (.bool M),after:=args}=Z (.bool (M == M))from w_eq_bool (w_res O) w_lit) O
theorem attach_call {l:OpenLaw}{n:Nat}{q:dF}{e:List Str}{XP:(Str->Option dB)->dP->Prop}{B:dH->dP->Prop}{d:DefRec}
  (hn:l.most=Z n) (t:d.params.defaults=[])
  (call:∀(w:dH) (c b:dD) (mg s:Str->Option dB) (m:dE) (o:Obj) (x p h:dB) (a:dE) (vs:List dB) (ns:List Int),
   Ground q e [] XP w c mg s b.heap->B w b.heap ->
   b.heap.get? m=Z o->o.data = .func (docDef d.name d.params d.body d.scope x p h)->b.heap.CodeRec p d.name->mg d.name=Z (.ref m) ->
   b.heap.get? a=Z {cls:=.type "list",data:=.seq vs.toArray}->IntsAre vs ns->ns.length<=n->b.gens = #[] ->
   dN (model l.prog w) callerA (.call (.ref m) ⟨[.ref a],[]⟩) (λr s'=>r = .ok (.ret (.bool M))/\OldK b.heap s'.heap/\s'.os=b.os/\AllBare s'.gens) b):
  WalkO q e XP B l.row.toRowW d [] (λf vs=>PySem.call f vs):=by
 intro w c b mg s G aq m o x p h L kV H am y D v ao A C as j z E u N;obtain rfl:L = .none:=Dflts.none D t;obtain rfl:kV = .none:=Dflts.noKw D;obtain⟨a,vs,ns,rfl,rfl,i,g,k⟩:=xK hn j u;refine enter_call (codeAny_mono (call w c b mg s m o x p h a vs ns G aq H (fd_plain am) y v i g k ao) λr s' F=>?_);obtain⟨rfl,h2,K,I⟩:=F;exact⟨.inl ⟨.bool M,.bool M,[],O,λ_=>rfl,.bool M,xL l _,λ_=>⟨List.Pairwise.nil,λ_ au=>(nomatch au)⟩⟩,h2,K,I⟩
section
variable{prog:dF}{w:dH}{A:dG}{E:dB->dD->Prop}{s:dD}{K:Frag}
end
end Att
namespace L2
open PySem PySem.Spec PyProof.Rows
theorem xu:∀{vs:List dB} {ns:List Int},IntsAre vs ns->ee (ns.map V.int) vs:=by
 intro vs ns h
 induction h with
 |nil=>exact .nil
 |cons n t h ih=>exact .cons ⟨t,O⟩ ih
def D4(H:Hp):Prop:=∀b,H b=Y \/ ∃o xs,H b=Z (.frz o (.lst xs))
theorem AF {P:dF}{w:dH}{K:Fg1}{mg C:Str->Option dB}{CX:yR}{k:Nat}{am a:dE}{fd:dQ}{x:Str}{sp:Sp}{s₁:dD}{vs:List dB}{ns:List Int}
  (Q:K.In s₁.heap) (j:s₁.heap.Ns dI mg) (hb:s₁.heap.Ns builtinsNs C) (I:∀x:Str,x≠"__name__"->C x=bootBuiltins x) (i:s₁.heap.NoLimit) (hg:s₁.gens = #[])
  (ha:s₁.heap.get? a=Z {cls:=.type "list",data:=.seq vs.toArray}) (hi:IntsAre vs ns) (R:ns.length<=dL) (hr:fN k callerA)
  (F:∀base:dP,K.In base->base.Ns dI mg->jQ P w K mg base CX k am fd [x] sp) (g:∀(s:dD) (u:dB),BindsTo s fd ⟨[u],[]⟩ [(x,u)])
  (G:∀H:Hp,D4 H->mW K H a (ns.map V.int)->sp [.ref a] H (λv _=>v = .bl M) λ_ _ _=>False)
  (L:∀H e s',CX [] H s₁ (λ_ _ _=>False) e s'->False):
  dN (model P w) callerA (.call (.ref am) ⟨[.ref a],[]⟩) (λr s'=>r = .ok (.ret (.bool M))/\OldK s₁.heap s'.heap/\s'.os=s₁.os/\AllBare s'.gens) s₁:=by
 have au:=xu hi;have y:=hi.length
 -- from an abstract heap in which nothing but the script may be tracked
 have f:∀ H:Hp,D4 H->mW K H a (ns.map V.int)->km P w H s₁.heap->(∀ b,H b≠none->b=a)->(H a≠none->K.lookup a=none) ->
   dN (model P w) callerA (.call (.ref am) ⟨[.ref a],[]⟩) (λr s'=>r = .ok (.ret (.bool M))/\OldK s₁.heap s'.heap/\s'.os=s₁.os/\AllBare s'.gens) s₁:=by
  intro H ao hS B S W;have base_of:∀{b:dE} {o:Obj},s₁.heap.get? b=Z o->H b=Y->(rL s₁.heap H).get? b=Z o:=λe n=>AT e n;have E:∀{b:dE} {o:Obj} {es:Array DictEntry} {ep:Nat},s₁.heap.get? b=Z o->o.data = .dict es ep->H b=Y:=λ{b o es ep} e d=>by
   cases q:H b with
   |none=>rfl
   |some u=>
    have D:b=a:=S b (by rw[q];simp);subst D;rw[ha]at e;cases e;have d':Data.seq vs.toArray _=Data.dict es ep:=d;cases d'
  have c:∀{b:dE} {m:Str->Option dB},s₁.heap.Ns b m->(rL s₁.heap H).Ns b m:=λ{b m} ⟨o,es,ep,e,d,r⟩=>⟨o,es,ep,base_of e (E e d),d,r⟩;have p:K.In (rL s₁.heap H):=λb o e=>base_of (Q b o e) (by
   cases q:H b with
   |none=>rfl
   |some u=>
    have D:b=a:=S b (by rw[q];simp);subst D;rw[W (by rw[q];simp)]at e;cases e)
  have U:Mod K mg (rL s₁.heap H):=⟨p,c j,⟨C,c hb,I⟩,let ⟨mc,h1,h2⟩:=i;⟨mc,c h1,h2⟩⟩;have e0:D5 P w K mg (rL s₁.heap H) callerA [] s₁ H:=⟨O,U,λb o e=>CN e,Nat.le_of_eq (yp _ _),trivial,λb hb=>absurd (show b∈([]:List dE)from hb) (by simp),B,.of_eq hg⟩;refine codeAny_mono ((F _ p (c j)).run callerA [] s₁ H ⟨[.ref a],[]⟩ [.ref a] [.ref a] _ _ hr e0 (g s₁ (.ref a)) (.cons O .nil) (G H ao hS)) λr s' h=>?_;cases r with
  |error e=>exact(L H e s' h).elim
  |ok wq=>
   cases wq with
   |next=>exact False.elim h
   |brk=>exact False.elim h
   |cont=>exact False.elim h
   |ret u=>
    obtain⟨v,H',aq,t,un,A,X,q⟩:=h;have q':v = .bl M:=q;subst q';obtain rfl:u=Value.bool true:=X;refine⟨O,OldK.of_keep λb o e=>?_,aq,t⟩;cases q:H b with
    |none=>exact un.keep b o e q (by intro z;exact absurd (show b∈([]:List dE)from z) (by simp)) (by simp)
    |some u=>
     rcases ao b with z|⟨ob,xs,z⟩
     ·rw[q]at z;cases z
     ·have z2:=un.frzs b ob _ z;obtain⟨N,_⟩:=B b _ z;obtain⟨T,_⟩:=A b _ z2;rw[e]at N;cases N;exact T
 cases hk:K.lookup a with
 |some o=>
  -- the script is one of the module's own objects
  have e:=Q a o hk;rw[ha]at e;cases e;refine f (λ_=>Y) (λ_=>.inl O) (.inr ⟨_,vs.toArray,_,hk,O,O,O,by rw[sT1,y];exact R,by simpa using au⟩) (λb u z=>by have l:(Y:Option HO)=Z u:=z;cases l) (λb z=>absurd O z) λz=>absurd O z
 |none=>
  refine f (λb=>if b=a then Z (.frz {cls:=.type "list",data:=.seq vs.toArray} (.lst (ns.map V.int)))else Y) (λb=>?_) (.inl (.inr ⟨{cls:=.type "list",data:=.seq vs.toArray},ak O⟩)) (λb u z=>?_) (λb z=>?_) λ_=>hk
  ·by_cases hb:b=a
   ·exact .inr ⟨_,_,ak hb⟩
   ·exact .inl (aj hb)
  ·by_cases hb:b=a
   ·have l:=(ak hb).symm.trans z;cases l;subst hb;exact⟨ha,by rw[lM1];exact R,vs,_,au,ha⟩
   ·have l:=(aj hb).symm.trans z;cases l
  ·by_cases hb:b=a
   ·exact hb
   ·exact absurd (aj hb) z
end L2
namespace L2
open PySem PySem.Spec PyProof.Rows
theorem B5{l:PySem.W.OpenLaw}{n k:Nat}{q:dF}{g:List Str}{XP:(Str->Option dB)->dP->Prop}{C:dH->dP->Prop}{d:DefRec}{K:Params->Fg1}{CX:dH->yR}{sp:dH->Sp}{x:Str}(hn:l.most=some n)(t:n<=dL)(p:d.params.defaults=[])(hr:fN k callerA)(D:∀(w:dH) (h:dP),C w h->(K w.params).In h)(F:∀(w:dH) (mg:Str->Option dB) (m:dE) (h:dP),(K w.params).In h->h.Ns dI mg->mg d.name=some (.ref m) ->
   ∃fd:dQ,(∀(s:dD) (u:dB),BindsTo s fd ⟨[u],[]⟩ [(x,u)]) /\
    ∀base:dP,(K w.params).In base->base.Ns dI mg->jQ l.prog w (K w.params) mg base (CX w) k m fd [x] (sp w))(y:∀(w:dH) (H:Hp) (a:dE) (ns:List Int),ns.length<=n->D4 H->mW (K w.params) H a (ns.map V.int)->sp w [.ref a] H (λv _=>v = .bl M) λ_ _ _=>False)(z:∀(w:dH) (H:Hp) (s:dD) (e:dB) (s':dD),CX w [] H s (λ_ _ _=>False) e s'->False):
  PySem.W.WalkO q g XP C l.row.toRowW d [] (λf vs=>PySem.call f vs):=by
 refine Att.attach_call hn p λw A j mg P m o T S au a vs ns G aq Q R N r i c b L=>?_;have B:=D w _ aq;obtain⟨fd,am,ao⟩:=F w mg m _ B G.T.g r;exact AF B G.T.g G.T.b G.T.builtins G.T.nolimit L i c (aC b t) hr ao am (λH E I=>y w H a ns b E I) λH e s'=>z w H j e s'
end L2
namespace L2
open PySem PySem.Spec PyProof.Rows
noncomputable def hC(s:dR):Arguments:=match s with
 | .FunctionDef _ a _ _ _ _ _ _ _ _=>a
 |_=>{posonlyargs:=[],args:=[],vararg:=Y,kwonlyargs:=[],kw_defaults:=[],kwarg:=Y,defaults:=[]}
noncomputable def fu(s:dR):List dR:=match s with
 | .FunctionDef _ _ b _ _ _ _ _ _ _=>b
 |_=>[]
noncomputable def d9(s:dR):dS:=match s with
 | .FunctionDef _ _ _ _ _ _ sc _ _ _=>sc
 |_=>{kind:=.function,names:=[],isGenerator:=J,isCoroutine:=J}
abbrev uo:yR:=λ_ _ _ _ _ _=>False
abbrev E0:XK:=λ_ _ _=>False
theorem Ij{X:Cx}:vL uo X E0:=λ_ _ _ _ _ _ _ h=>h.elim
structure yU (K:Fg1)(x qual:Str)(st:dR)(f:dE)(fd:dQ):Prop where
 ex:∃(oc:dB) (od:Option dE) (kV doc pm:dB) (an:Option dE) (cdv ct:dB) (osl:Array (Option dB)),
  fd=wF1 x qual (hC st) (fu st) (d9 st) .none kV doc pm an cdv ct/\K.lookup f=some ⟨oc,od,.func fd,osl⟩/\wC1 K cdv qual=true
 kp:wK1 K (.ref f)=true
section
variable{P:dF}{w:dH}{K:Fg1}{mg:Str->Option dB}{base:dP}
theorem yU.ok{x b:Str}{st:dR}{f:dE}{fd:dQ}{N ps:List Str}{k:Nat}{sp:Sp}(F:yU K x b st f fd)(S:gu N ps (d9 st))(len:∀ vs H Q E,sp vs H Q E->vs.length=ps.length)(d:∀(c:dB) (A:dG) (a:List Env) (s:dD) (H:Hp) (vs:List V) (Q:VK) (E:XK),fN k (A.deeper (envOfC b (d9 st) s.heap.objs.size f c))->sp vs H Q E ->
   ∃t,uv (mT uo P w K mg base N b (d9 st) f c A a s H E).nox (fu st) t/\t {nx:=λ_ H'=>Q .non H',rt:=Q} (i3 N vs) H):jQ P w K mg base uo (k+1) f fd ps sp:=by
 obtain⟨o,r,kV,m,n,p,c,ct,i,rfl,j,g⟩:=F.ex;refine IU j g S len λA a s H vs Q E l e=>?_;obtain⟨t,h,q⟩:=d c A a s H vs Q E l e;exact⟨t,h.nox,q⟩
theorem yU.binds{x a:Str}{st:dR}{f:dE}{fd:dQ}{ps:List Str}(F:yU K x a st f fd)(h:∀(kV c d:dB) (g:Option dE) (b ct:dB) (e:List dB),e.length=ps.length->bindArgs (wF1 x a (hC st) (fu st) (d9 st) .none kV c d g b ct) ⟨e,[]⟩=pure (ps.zip e)):lE K fd ps []:=by
 obtain⟨k,l,kV,c,d,g,b,ct,j,rfl,m,i⟩:=F.ex;exact .all (h kV c d g b ct)
theorem A0{x a:Str}{st:dR}{f:dE}{i:dB}{j h:Option dE}{e:Array (Option dB)}{kV d g b ct:dB}(l:K.lookup f=Z ⟨i,j,.func (wF1 x a (hC st) (fu st) (d9 st) .none kV d g h b ct),e⟩)(c:wC1 K b a=M)(k:wK1 K (.ref f)=M):yU K x a st f (wF1 x a (hC st) (fu st) (d9 st) .none kV d g h b ct):=⟨⟨i,j,kV,d,g,h,b,ct,e,O,l,c⟩,k⟩
end
section
variable{X:Cx}
theorem pv (i:Nat){x:Str}{pos:Pos}(hN:X.N[i]? = some x:=by rfl)(hv:Hf X.env.scope x:=by first | exact Or.inl rfl | exact Or.inr (Or.inl rfl) | exact Or.inr (Or.inr rfl))(hd:(x == ("__debug__":Str))=false:=by decide)
  (hcd:(x == ("__classdict__":Str))=J:=by decide):PE X (.Name x pos) (HE i):=zR hN hv hd hcd
end
end L2
namespace L2
open PySem PySem.Spec PyProof.Rows
section
variable{κ:Type} [DecidableEq κ]
noncomputable def iI(kvs:List (κ×V))(k:κ):Option V:=(kvs.find? λkv=>decide (kv.1=k)).map (·.2)
noncomputable def iu(kvs:List (κ×V))(k:κ)(v:V):List (κ×V):=
 if(kvs.any λkv=>decide (kv.1=k))=M then kvs.map (λkv=>if kv.1=k then(kv.1,v)else kv)else kvs++[(k,v)]
theorem nw{p:κ×V}{r:List (κ×V)}{k:κ}(e:p.1=k):iI (p::r) k=Z p.2:=by simp[iI,bc,e]
theorem ny{p:κ×V}{r:List (κ×V)}{k:κ}(e:¬ p.1=k):iI (p::r) k=iI r k:=by simp[iI,bc,e]
theorem si(k:κ):∀kvs:List (κ×V),(kvs.any λa=>decide (a.1=k))=(iI kvs k).isSome
 |[]=>rfl
 |p::r=>by
  rw[bd];by_cases e:p.1=k
  ·simp only[nw e,ah e,Bool.true_or,Option.isSome_some]
  ·rw[ny e,ai e,Bool.false_or];exact si k r
theorem jg(kvs:List (κ×V))(k:κ)(v:V):(iu kvs k v).length<=kvs.length+1:=by
 unfold iu;split
 ·rw[lM1];lia
 ·rw[lA1,lC1,bf];lia
theorem md.isSome_eq{o:Option V}{u:Option dB}(r:md o u):o.isSome=u.isSome:=by
 cases o with
 |none=>cases u with
  |none=>rfl
  |some _=>exact(show False from r).elim
 |some _=>cases u with
  |none=>exact(show False from r).elim
  |some _=>rfl
theorem md.getD{o:Option V}{u:Option dB}{d:V}{d':dB}(r:md o u)(a:d5 d d'):d5 (o.getD d) (u.getD d'):=by
 cases o with
 |none=>cases u with
  |none=>exact a
  |some _=>exact(show False from r).elim
 |some _=>cases u with
  |none=>exact(show False from r).elim
  |some _=>exact r
theorem KV.val{kvs:List (κ×V)}{vs:List (κ×dB)}(r:KV kvs vs)(k:κ):md (iI kvs k) (valueAt vs k):=by
 unfold KV at r
 induction r with
 |nil=>exact True.intro
 | @cons p q ps c h t ih=>
  obtain⟨h1,h2⟩:=h;by_cases e:p.1=k
  ·have a:q.1=k:=h1.symm.trans e;have b:valueAt (q::c) k=Z q.2:=by simp[valueAt,bc,a]
   rw[nw e,b];exact h2
  ·have a:¬ q.1=k:=λz=>e (h1.trans z);have b:valueAt (q::c) k=valueAt c k:=by simp[valueAt,bc,a]
   rw[ny e,b];exact ih
theorem KV.any{kvs:List (κ×V)}{vs:List (κ×dB)}(r:KV kvs vs)(k:κ):(kvs.any λa=>decide (a.1=k))=vs.any λa=>decide (a.1=k):=by
 unfold KV at r
 induction r with
 |nil=>rfl
 |cons h t ih=>rw[bd,bd,ih,h.1]
theorem KV.repl{kvs:List (κ×V)}{vs:List (κ×dB)}(r:KV kvs vs)(k:κ){y:V}{u:dB}(b:d5 y u):
  KV (kvs.map λa=>if a.1=k then(a.1,y)else a) (vs.map λa=>if a.1=k then(a.1,u)else a):=by
 unfold KV at r ⊢
 induction r with
 |nil=>exact .nil
 | @cons p q ps c h t ih=>
  rw[mP1,mP1];refine .cons ?_ ih;obtain⟨h1,h2⟩:=h;by_cases e:p.1=k
  ·rw[ak e,ak (h1.symm.trans e)];exact⟨h1,b⟩
  ·rw[aj e,aj (λz=>e (h1.trans z))];exact⟨h1,h2⟩
theorem KV.put{kvs:List (κ×V)}{vs:List (κ×dB)}(r:KV kvs vs)(k:κ){y:V}{u:dB}(a:d5 y u):KV (iu kvs k y) (stored vs k u):=by
 unfold iu stored;rw[r.any k];by_cases e:(vs.any λb=>decide (b.1=k))=M
 ·rw[ak e,ak e];exact r.repl k a
 ·rw[aj e,aj e];exact Paired.snoc r ⟨O,a⟩
theorem KV.length{kvs:List (κ×V)}{vs:List (κ×dB)}(r:KV kvs vs):kvs.length=vs.length:=Paired.length r
end
theorem pZ{P:dF}{w:dH}{k:Key}{u:dB}(r:d5 (kV k) u):(fb P w).is k u=M:=by
 cases k with
 |inl i=>obtain⟨t,e⟩:=(show∃t,u=Value.int i t from r);subst e;exact tf P w i t
 |inr x=>obtain⟨t,e⟩:=(show∃t,u=Value.str x t from r);subst e;exact s9 P w x t
theorem p7{P:dF}{w:dH}:∀{ks:List Key} {a:List dB},ee (ks.map kV) a->ItemsAre (fb P w) ks a
 |[],_,r=>by rw[aZ]at r;cases r;exact .nil
 |k::ks,_,r=>by
  rw[mP1]at r;cases r with
  |cons h t=>exact .cons (pZ h) (p7 t)
abbrev KT(H:Hp):List (List Key×V)->List (List Key×dE×dB)->Prop:=Paired λp q=>p.1=q.1/\H q.2.1=Z (.tup (p.1.map kV))/\d5 p.2 q.2.2
theorem KT.val{H:Hp}{kvs:List (List Key×V)}{xs:List (List Key×dE×dB)}(r:KT H kvs xs)(k:List Key):md (iI kvs k) ((atKey xs k).map (·.2)):=by
 induction r with
 |nil=>exact True.intro
 | @cons p q ps c h t ih=>
  obtain⟨h1,_,h2⟩:=h;by_cases e:p.1=k
  ·have a:q.1=k:=h1.symm.trans e;have b:atKey (q::c) k=Z q.2:=by simp[atKey,bc,a]
   rw[nw e,b];exact h2
  ·have a:¬ q.1=k:=λz=>e (h1.trans z);have b:atKey (q::c) k=atKey c k:=by simp[atKey,bc,a]
   rw[ny e,b];exact ih
theorem KT.repl{H:Hp}{kvs:List (List Key×V)}{xs:List (List Key×dE×dB)}(r:KT H kvs xs)(k:List Key){y:V}{u:dB}(c:d5 y u):
  KT H (kvs.map λa=>if a.1=k then(a.1,y)else a) (xs.map (putAt k u)):=by
 induction r with
 |nil=>exact .nil
 | @cons p q ps d h t ih=>
  rw[mP1,mP1];refine .cons ?_ ih;obtain⟨h1,h2,b⟩:=h;unfold putAt;by_cases e:p.1=k
  ·rw[ak e,ak (h1.symm.trans e)];exact⟨h1,h2,c⟩
  ·rw[aj e,aj (λz=>e (h1.trans z))];exact⟨h1,h2,b⟩
theorem KT.put{H:Hp}{kvs:List (List Key×V)}{xs:List (List Key×dE×dB)}(r:KT H kvs xs)(k:List Key){b:dE}{y:V}{u:dB}(hb:H b=some (.tup (k.map kV)))(a:d5 y u):
  KT H (iu kvs k y) (storedH xs k b u):=by
 have e:(kvs.any λc=>decide (c.1=k))=(atKey xs k).isSome:=by
  rw[si,(r.val k).isSome_eq,bg]
 unfold iu storedH;rw[e];by_cases q:(atKey xs k).isSome=M
 ·rw[ak q,ak q];exact r.repl k a
 ·rw[aj q,aj q];exact Paired.snoc r ⟨O,hb,a⟩
theorem KT.keeps{H H':Hp}{kvs:List (List Key×V)}{xs:List (List Key×dE×dB)}(r:KT H kvs xs)(ht:∀b ys,H b=Z (.tup ys)->H' b=Z (.tup ys)):KT H' kvs xs:=
 Paired.mapP r λ_ _ z=>⟨z.1,ht _ _ z.2.1,z.2.2⟩
section
variable{P:dF}{w:dH}{H:Hp}{h:dP}{a:dE}
theorem Eb{u:HO}(ok:km P w H h)(e:Rd H a u):eG P w H h a u:=e.ok ok
theorem tV{kvs:List (Key×V)}(ok:km P w H h)(e:Rd H a (.dK kvs)):kvs.length<=dL/\(a == sysModules)=J /\ ∃vs,KV kvs vs/\h.DictOf (fb P w) a vs:=
 show eG P w H h a (.dK kvs)from Eb ok e
theorem wZ{kvs:List (Key×V)}(ok:km P w H h)(e:H a=Z (.dK kvs)):kvs.length<=dL/\(a == sysModules)=J /\ ∃vs,KV kvs vs/\h.DictOf (fb P w) a vs:=tV ok (.inl e)
theorem oe{ks:List Key}(ok:km P w H h)(e:H a=Z (.tup (ks.map kV))):(tupleKind (fb P w)).is h ks a:=by
 obtain⟨_,b,r,o,h1,h2,n,c⟩:=(show eG P w H h a (.tup (ks.map kV))from ok a _ e);exact⟨o,b.toArray,n,h1,h2,c,by simpa using p7 r⟩
theorem tT{kvs:List (List Key×V)}(ok:km P w H h)(e:Rd H a (.dT kvs)):kvs.length<=dL/\(a == sysModules)=false /\
  ∃xs,KT H kvs xs/\h.DictOfH (tupleKind (fb P w)) a xs:=by
 obtain⟨z,y,xs,r,o,es,ep,h1,h2,d,f,g⟩:=(show eG P w H h a (.dT kvs)from Eb ok e);refine⟨z,y,xs,r,o,es,ep,h1,h2,d,f,λx b=>?_,g⟩;have all:∀{l:List (List Key×V)} {m:List (List Key×dE×dB)},KT H l m -> ∀x∈m,(tupleKind (fb P w)).is h x.1 x.2.1:=by
  intro l m q
  induction q with
  |nil=>intro x b;exact nomatch b
  | @cons p q ps i c t ih=>
   intro x b;rcases aF.mp b with e|b
   ·subst e;exact oe ok (by rw[<- c.1];exact c.2.1)
   ·exact ih x b
 exact all r x b
theorem I1{kvs:List (List Key×V)}(ok:km P w H h)(e:H a=some (.dT kvs)):kvs.length<=dL/\(a == sysModules)=false /\
  ∃xs,KT H kvs xs/\h.DictOfH (tupleKind (fb P w)) a xs:=tT ok (.inl e)
end
def pf(H:Hp)(a:dE)(y:V)(r:Option V):Prop:=
 (∃kvs k,Rd H a (.dK kvs)/\y=kV k/\r=iI kvs k) \/ ∃kvs k b,Rd H a (.dT kvs)/\y = .ref b/\H b=Z (.tup (k.map kV))/\r=iI kvs k
def yQ(H:Hp)(a:dE)(y v:V)(H':Hp):Prop:=
 (∃kvs k,H a=Z (.dK kvs)/\y=kV k/\kvs.length<dL/\H'=upd H a (.dK (iu kvs k v))) \/
 ∃kvs k b,H a=Z (.dT kvs)/\y = .ref b/\H b=Z (.tup (k.map kV))/\kvs.length<dL/\H'=upd H a (.dT (iu kvs k v))
theorem pf.k{H:Hp}{a:dE}{kvs:List (Key×V)}{k:Key}(e:H a=Z (.dK kvs)):pf H a (kV k) (iI kvs k):=.inl ⟨kvs,k,.inl e,O,O⟩
theorem pf.t{H:Hp}{a b:dE}{kvs:List (List Key×V)}{k:List Key}(e:H a=Z (.dT kvs))(c:H b=Z (.tup (k.map kV))):pf H a (.ref b) (iI kvs k):=.inr ⟨kvs,k,b,.inl e,O,c,O⟩
theorem yQ.k{H:Hp}{a:dE}{kvs:List (Key×V)}{k:Key}{v:V}(e:H a=Z (.dK kvs))(b:kvs.length<dL):yQ H a (kV k) v (upd H a (.dK (iu kvs k v))):=.inl ⟨kvs,k,e,O,b,O⟩
theorem yQ.t{H:Hp}{a b:dE}{kvs:List (List Key×V)}{k:List Key}{v:V}(e:H a=some (.dT kvs))(c:H b=some (.tup (k.map kV)))(d:kvs.length<dL):
  yQ H a (.ref b) v (upd H a (.dT (iu kvs k v))):=.inr ⟨kvs,k,b,e,O,c,d,O⟩
section
variable{X:Cx}{ag:List (dE×Obj)}{σ:St}{H:Hp}{s:dD}{a:dE}{y v:V}{u r:dB}{o:Option V}{A:dG}{E:dB->dD->Prop}
theorem Inv.big(I:Inv X ag σ H s):sysModules<s.heap.objs.size:=by
 have h:dI<s.heap.objs.size:=(I.mod.glob.keeps I.bk).lt;exact bh (by decide) h
theorem yB{Q:dB->dD->Prop}(t:A.units+1<cLine)(I:Inv X ag σ H s)(g:pf H a y (some v))(q:d5 y u)(h:∀ f s',Inv X ag σ H s'->d5 v f->Q f s'):
  dM (model X.prog X.w) A (getItem (.ref a) u) Q E s:=by
 rcases g with⟨kvs,k,e,i,l⟩|⟨kvs,k,b,e,i,x,l⟩
 ·subst i;obtain⟨z,r,vs,c,j⟩:=tV I.hok e;obtain⟨f,m,d⟩:=md.some_of (v:=v) (o:=valueAt vs k) (by rw[l];exact c.val k);exact wpAny_getItem_of (pZ q) j.mapOf m (h f _ (I.tok _) d)
 ·subst i;cases(show u=Value.ref b from q);obtain⟨z,r,xs,c,j⟩:=tT I.hok e;obtain⟨f,m,d⟩:=md.some_of (v:=v) (o:=(atKey xs k).map (·.2)) (by rw[l];exact c.val k);obtain⟨p,w,n⟩:=oM1.mp m;refine wpAny_getItem_heap (tupleKind_room_in1 t) (oe I.hok x) j w ?_;rw[n];exact h f _ (I.tok _) d
theorem KA{Q:dB->dD->Prop}(m:A.units+1<cLine)(I:Inv X ag σ H s)(g:pf H a y o)(j:d5 y u)(h:∀ s',Inv X ag σ H s'->Q (.bool o.isSome) s'):
  dM (model X.prog X.w) A (compareOp .In u (.ref a)) Q E s:=by
 rcases g with⟨kvs,k,e,d,l⟩|⟨kvs,k,b,e,d,n,l⟩
 ·subst d;obtain⟨z,i,vs,c,f⟩:=tV I.hok e;refine wpAny_in_of (pZ j) i f.mapOf ?_;rw[<- (c.val k).isSome_eq,<- l];exact h _ (I.tok _)
 ·subst d;cases(show u=Value.ref b from j);obtain⟨z,i,xs,c,f⟩:=tT I.hok e;refine wpAny_in_heap (tupleKind_room_in1 m) (oe I.hok n) i f ?_;have q:=(c.val k).isSome_eq;rw[bg]at q;rw[<- q,<- l];exact h _ (I.tok _)
theorem DN{Q:dB->dD->Prop}(m:A.units+1<cLine)(I:Inv X ag σ H s)(g:pf H a y o)(j:d5 y u)(h:∀ s',Inv X ag σ H s'->Q (.bool (!o.isSome)) s'):
  dM (model X.prog X.w) A (compareOp .NotIn u (.ref a)) Q E s:=by
 rcases g with⟨kvs,k,e,d,l⟩|⟨kvs,k,b,e,d,n,l⟩
 ·subst d;obtain⟨z,i,vs,c,f⟩:=tV I.hok e;refine wpAny_notIn_of (pZ j) i f.mapOf ?_;rw[<- (c.val k).isSome_eq,<- l];exact h _ (I.tok _)
 ·subst d;cases(show u=Value.ref b from j);obtain⟨z,i,xs,c,f⟩:=tT I.hok e;refine wpAny_notIn_heap (tupleKind_room_in1 m) (oe I.hok n) i f ?_;have q:=(c.val k).isSome_eq;rw[bg]at q;rw[<- q,<- l];exact h _ (I.tok _)
theorem lm{h':dP}{t':Nat}{c:HO}(I:Inv X ag σ H s)(mu:Mut (H a))(hs:Heap.SameBut a s.heap h')(he:∃ q,h'.get? a=some q)(new:eG X.prog X.w (upd H a c) h' a c):
  Inv X ag σ (upd H a c) {s with heap:=h',toks:=t'}:=
 I.write (x:=a) (e:=a) mu (.inl O) (λb q d z=>(hs.2 b d).trans z) he new
theorem Bd{P:dF}{w:dH}{H':Hp}{h':dP}{kvs:List (Key×V)}{vs:List (Key×dB)}(z:kvs.length<=dL)(hd:(a == sysModules)=false)(b:KV kvs vs)(dd:h'.DictOf (fb P w) a vs):
  eG P w H' h' a (.dK kvs):=⟨z,hd,vs,b,dd⟩
theorem yA{H':Hp}{Q:Unit->dD->Prop}(am:A.units+1<cLine)(I:Inv X ag σ H s)(g:yQ H a y v H')(D:d5 y u)(x:d5 v r)(h:∀ s',Inv X ag σ H' s'->Q () s'):
  dM (model X.prog X.w) A (setItem (.ref a) u r) Q E s:=by
 rcases g with⟨kvs,k,e,o,l,j⟩|⟨kvs,k,b,e,o,B,l,j⟩
 ·subst o j;obtain⟨z,n,vs,d,m⟩:=wZ I.hok e;have w:vs.length<=dL:=by rw[<- d.length];exact z
  have t:(iu kvs k v).length<=dL:=by have:=jg kvs k v;lia
  refine wpAny_setItem_pairs (hsz:=w) (pZ D) m λh' f p=>h _ ?_;have L:∃q,h'.get? a=Z q:=let ⟨q,_,_,i,_⟩:=f;⟨q,i⟩
  exact lm I (by rw[e];exact True.intro) p L (Bd t n (d.put k x) f)
 ·subst o j;cases(show u=Value.ref b from D);obtain⟨z,n,xs,d,m⟩:=I1 I.hok e;have w:xs.length<=dL:=by rw[<- Paired.length d];exact z
  have t:(iu kvs k v).length<=dL:=by have:=jg kvs k v;lia
  refine wpAny_setItem_heap (hsz:=w) (tupleKind_room_in1 am) (oe I.hok B) m λh' f p=>h _ ?_;obtain⟨q,es,ep,i,h2,G,F,_,K⟩:=f;refine lm I (by rw[e];exact True.intro) p ⟨q,i⟩ ⟨t,n,_,(d.put k B x).keeps λc ys C=>?_,q,es,ep,i,h2,G,F,K⟩;rw[dY (Iu C e (λz=>nomatch z))];exact C
end
section
variable{X:Cx}{ag:List (dE×Obj)}{σ:St}{H:Hp}{s:dD}{a:dE}{kvs:List (Key×V)}{k:Key}{u:dB}{A:dG}{E:dB->dD->Prop}
end
theorem tX{X:Cx}{ag:List (dE×Obj)}{σ:St}{H:Hp}{s:dD}{a:dE}{y:V}{o:Option V}(I:Inv X ag σ H s)(g:pf H a y o):s.TypeIs (.ref a) "dict":=by
 rcases g with⟨kvs,k,e,_,_⟩|⟨kvs,k,b,e,_,_,_⟩
 ·obtain⟨_,_,vs,_,c⟩:=tV I.hok e;exact c.typeIs
 ·obtain⟨_,_,xs,_,c⟩:=tT I.hok e;exact c.typeIs
section
variable{X:Cx}{o i e value:Expr}{pos pos' tpos:Pos}{td ty tv:TE}
end
theorem tW{P:dF}{w:dH}{H:Hp}(h:dP)(hb:sysModules<h.objs.size):eG P w H (h.push {cls:=.type "dict",data:=.dict #[]}) h.objs.size (.dK []):=
 ⟨bi _,beq_eq_false_iff_ne.mpr (Ne.symm (nN1 hb)),[],.nil,Heap.DictOf.new h⟩
noncomputable def ES:TE:=λ_ H Q=>∀p,H p=Y->Q (.ref p) (upd H p (.dK []))
section
variable{X:Cx}{pos:Pos}
theorem zU:PE X (.Dict [] [] pos) ES:=λag s σ H Q I h=>
 wpAny_Dict_empty ⟨.ref s.heap.objs.size,_,I.laid (a:=s.heap.objs.size) (o:=.dK []) (t':=s.toks) (λ_ _ q=>hP1 _ q) (nR1 _) (tW s.heap I.big),O,h _ (I.hok.fresh (nR1 _))⟩
end
def qL:List (TE×TE)->St->Hp->(List (V×V)->Hp->Prop)->Prop
 |[],_,H,Q=>Q [] H
 |(tk,tv)::r,σ,H,Q=>tk σ H λx H1=>tv σ H1 λy H2=>qL r σ H2 λps H3=>Q ((x,y)::ps) H3
abbrev VV:List (V×V)->List (dB×dB)->Prop:=Paired λp q=>d5 p.1 q.1/\d5 p.2 q.2
def Jo(X:Cx)(pos:Pos)(keys:List (Option Expr))(values:List Expr)(trs:List (TE×TE)):Prop:=
 ∀(ag:List (dE×Obj)) (s:dD) (σ:St) (H:Hp) (Q:List (V×V)->Hp->Prop),Inv X ag σ H s->qL trs σ H Q ->
  dM (model X.prog X.w) X.A (evalPairs (pairTrees keys values X.env pos)) (λvs s'=>∃ps H',Inv X ag σ H' s'/\VV ps vs/\Q ps H') X.xe s
theorem Cw{X:Cx}{pos:Pos}:Jo X pos [] [] []:=λag s σ H Q I h=>pairTrees_nil_walk ⟨[],H,I,.nil,h⟩
theorem zK{X:Cx}{pos:Pos}{k v:Expr}{ks:List (Option Expr)}{vs:List Expr}{tk tv:TE}{a:List (TE×TE)}(hk:PE X k tk)(hv:PE X v tv)(hr:Jo X pos ks vs a):
  Jo X pos (Z k::ks) (v::vs) ((tk,tv)::a):=λag s σ H Q I h=>
 pairTrees_cons_walk (fh (hk ag s σ H _ I h) λu d ⟨x,H1,m,o,f⟩=>fh (hv ag d σ H1 _ m f) λp e ⟨y,H2,i,l,g⟩=>
  fh (hr ag e σ H2 _ i g) λws q ⟨ps,n,c,b,j⟩=>⟨(x,y)::ps,n,c,.cons ⟨o,l⟩ b,j⟩)
noncomputable def iP(kvs more:List (Key×V)):List (Key×V):=more.foldl (λacc kv=>iu acc kv.1 kv.2) kvs
theorem KV.merge:∀{more:List (Key×V)} {rs:List (Key×dB)} {kvs:List (Key×V)} {vs:List (Key×dB)},KV more rs->KV kvs vs->KV (iP kvs more) (merged vs rs):=by
 intro more rs kvs vs r;unfold KV at r
 induction r generalizing kvs vs with
 |nil=>intro q;exact q
 | @cons p q ps b h t ih=>
  intro a;have e:KV (iu kvs p.1 p.2) (stored vs q.1 q.2):=by
   have:=a.put p.1 h.2;rw[<- h.1];exact this
  exact ih e
theorem jW:∀(more kvs:List (Key×V)),(iP kvs more).length<=kvs.length+more.length
 |[],kvs=>by show kvs.length<=kvs.length+0;lia
 |p::r,kvs=>by
  have h1:=jW r (iu kvs p.1 p.2);have h2:=jg kvs p.1 p.2;show(iP (iu kvs p.1 p.2) r).length<=_;rw[lC1];lia
theorem oC{P:dF}{w:dH}:∀{kvs:List (Key×V)} {ws:List (dB×dB)},VV (kvs.map λd=>(kV d.1,d.2)) ws -> ∃rs,Carries (fb P w) ws rs/\KV kvs rs
 |[],_,r=>by rw[aZ]at r;cases r;exact⟨[],True.intro,.nil⟩
 |p::kvs,_,r=>by
  rw[mP1]at r;cases r with
  | @cons a b as bs h t=>
   obtain⟨rs,c,q⟩:=oC (P:=P) (w:=w) t;obtain⟨b1,b2⟩:=b;exact⟨(p.1,b2)::rs,⟨pZ h.1,O,c⟩,.cons ⟨O,h.2⟩ q⟩
noncomputable def HP(trs:List (TE×TE)):TE:=fun σ H Q=>∀p,H p=Y->qL trs σ (upd H p (.dK [])) λps H2=>H2 p=Z (.dK []) /\ ∃kvs:List (Key×V),ps=kvs.map (λkv=>(kV kv.1,kv.2))/\kvs.length<=15/\Q (.ref p) (upd H2 p (.dK (iP [] kvs)))
theorem CF{X:Cx}{pos:Pos}{keys:List (Option Expr)}{values:List Expr}{f:List (TE×TE)}(h:Jo X pos keys values f)(d:keys.all (·.isSome)=M)(t:keys.length=values.length)(h0:keys≠[])(g:keys.length<=15):PE X (.Dict keys values pos) (HP f):=by
 intro ag s σ H Q I q;have n:=I.hok.fresh (nR1 s.heap.objs.size);have y:=I.laid (a:=s.heap.objs.size) (o:=.dK []) (h':=s.heap.push {cls:=.type "dict",data:=.dict #[]}) (t':=s.toks) (λ_ _ q=>hP1 _ q) (nR1 _) (tW s.heap I.big);refine wpAny_Dict_walk (knd:=fb X.prog X.w) d t h0 g (fh (h ag _ σ _ _ y (q _ n)) λws B ⟨ps,H2,j,i,e,kvs,ep,A,k⟩=>?_);subst ep;obtain⟨rs,c,rk⟩:=oC (P:=X.prog) (w:=X.w) i;obtain⟨z,m,p,u,l⟩:=wZ j.hok e;cases u;refine⟨rs,c,l,λh' b r=>⟨.ref s.heap.objs.size,_,?_,O,k⟩⟩;have v:(iP [] kvs).length<=dL:=by
  have h1:=jW kvs [];rw[bf]at h1;rw[sizeLine_eq];lia
 have x:∃q,h'.get? s.heap.objs.size=Z q:=let ⟨q,_,_,hq,_⟩:=b;⟨q,hq⟩
 exact lm j (by rw[e];exact True.intro) r x (Bd v m (rk.merge .nil) b)
structure M2 (X:Cx)(o:Expr)(m:Str)(apos:Pos)(e f:Expr)(cpos:Pos):Prop where
 base:attributeBase o m X.env (eval o X.env)=eval o X.env
 few:((backTo cpos (dJ [e,f] X.env)).all (λx=> !x.1)&&(backToKw cpos (keywordEach [] X.env)).all (λx=>x.1.isSome)
  && decide (([e,f]:List Expr).length+([]:List Keyword).length+(if([]:List Keyword).isEmpty then 0 else 1)<30))=true
 line:(apos.endLine == cpos.line)=true
 trees:backTo cpos (dJ [e,f] X.env)=[(false,eval e X.env),(false,eval f X.env)]
section
variable{X:Cx}{ag:List (dE×Obj)}{σ:St}{H:Hp}{s:dD}{a:dE}{y d:V}{u r:dB}{o:Option V}{A:dG}{E:dB->dD->Prop}
end
section
variable{X:Cx}{o e f:Expr}{apos cpos:Pos}{td ty tx:TE}
end
section
variable{X:Cx}{ag:List (dE×Obj)}{σ:St}{H:Hp}{s:dD}{a:dE}{kvs:List (Key×V)}{A:dG}{E:dB->dD->Prop}
end
section
variable{X:Cx}{ag:List (dE×Obj)}{σ:St}{H:Hp}{s:dD}{a:dE}{y:V}{u:dB}{A:dG}{E:dB->dD->Prop}
end
end L2
namespace Mi
open PySem PySem.Spec PyProof.Rows L2
inductive TK where
 |non|int (i:Int)|tup (xs:List TK)
instance:DecidableEq TK:=λ_ _=>Classical.propDecidable _
mutual
noncomputable def TK.hash:TK->Int
 | .non=>0xFCA86420
 | .int i=>hashInt i
 | .tup xs=>reduceHash (Builtin.Tuple.tupleHashOf (TK.hashes xs))
noncomputable def TK.hashes:List TK->List Int
 |[]=>[]
 |x::xs=>TK.hash x::TK.hashes xs
end
mutual
noncomputable def TK.draws:TK->Nat
 | .non=>1
 | .int _=>1
 | .tup xs=>TK.drawsAll xs+1
noncomputable def TK.drawsAll:List TK->Nat
 |[]=>0
 |x::xs=>TK.draws x+TK.drawsAll xs
end
mutual
noncomputable def TK.dep:TK->Nat
 | .non=>0
 | .int _=>0
 | .tup xs=>TK.depAll xs+1
noncomputable def TK.depAll:List TK->Nat
 |[]=>0
 |x::xs=>max (TK.dep x) (TK.depAll xs)
end
theorem TK.dep_mem:∀{xs:List TK} {x:TK},x∈xs->x.dep<=TK.depAll xs
 |y::ys,x,h=>by
  rw[TK.depAll];rcases aF.mp h with e|e
  ·rw[e];exact Nat.le_max_left _ _
  ·exact aC (TK.dep_mem e) (Nat.le_max_right _ _)
theorem TK.hashes_app:∀a b:List TK,TK.hashes (a++b)=TK.hashes a++TK.hashes b
 |[],_=>rfl
 |x::xs,b=>by rw[bj,TK.hashes,TK.hashes,TK.hashes_app xs b];rfl
theorem TK.draws_app:∀a b:List TK,TK.drawsAll (a++b)=TK.drawsAll a+TK.drawsAll b
 |[],_=>by simp[TK.drawsAll]
 |x::xs,b=>by rw[bj,TK.drawsAll,TK.drawsAll,TK.draws_app xs b,bm]
def vK(xs:Array Nat):Prop:=xs.toList.Pairwise (· < ·)
noncomputable def Ea(m:Nat):Nat->Nat->Nat->List Nat
 |0,_,_=>[]
 |n+1,i,b=>List.range' i (SetTable.runEnd m i-i+1)++Ea m n (SetTable.leap m i b).1 (SetTable.leap m i b).2
def Lh(m:Nat):Prop:=m=7\/m=31\/m=127
noncomputable def Kb(m:Nat)(h:Int):List Nat:=Ea m (SetTable.turns m) (SetTable.bits h%(m+1)) (SetTable.bits h)
def Kd(m:Nat)(occ:List Nat)(h:Int)(j:Nat):Prop:=∃pre post,Kb m h=pre++j::post /\ ∀y∈pre,y∈occ
structure Kc (es:Array (Int×dB))(t:SetTable):Prop where
 mks:Lh t.mask
 up:vK t.place
 du:t.dummies = #[]
 sz:t.place.size=es.size
 le:∀j∈t.place.toList,j<=t.mask
 fl:es.size<=t.mask
 rc:∀z∈t.place.toList.zip es.toList,Kd t.mask t.place.toList z.2.1 z.1
noncomputable def stO(es:Array (Int×dB))(ep:Nat)(t:SetTable):Obj:={cls:=.type "set",dict:=Y,data:=.set es ep t,slots:= #[]}
def Jn(a:dE)(xs:List (TK×dE×dB))(h:dP):Prop:=(xs.map (·.1)).Nodup /\ ∃es ep t,h.get? a=Z (stO es ep t)/\Kc es t/\t.tooFull=J/\(∀e∈es.toList,∃z∈xs,e=(z.1.hash,.ref z.2.1))/\(∀z∈xs,(z.1.hash,Value.ref z.2.1)∈es.toList)/\es.size=xs.length
inductive D where
 |non|bl (b:Bool)|int (i:Int)|str (x:Str)|tup (xs:List D)|rol (xs:List D)|ref (n:Nat)|fn (x:Str)
inductive Ob where
 |lst (xs:List D)|dct (kvs:List (Key×D))|dcT (kvs:List (TK×D))|iset (xs:List Int)|dcF (kvs:List (TK×D))|tst (ks:List TK)
abbrev Sto:=List Ob
abbrev Ev:=List (Option D)
abbrev FE:=Ev->Sto->Option (D×Sto)
abbrev FT:=Ev->Sto->Option (Bool×Sto)
abbrev FA:=Ev->Sto->Option (List D×Sto)
abbrev FN:=List D->Sto->Option (D×Sto)
inductive Fl where
 |nx|rt (d:D)|bk|ct
abbrev FS:=Ev->Sto->Option (Fl×Ev×Sto)
def RoL(K:Fg1)(H:Hp)(a:dE)(xs:List V):Prop:=(∃o,H a=Z (.frz o (.lst xs))) \/
 ∃(o:Obj) (its:Array dB) (n:Nat),K.lookup a=Z o/\o.cls = .type "list"/\o.dict=Y/\o.data = .seq its n/\its.size<=dL/\ee xs its.toList
theorem RoL.sq{K:Fg1}{H:Hp}{a:dE}{xs:List V}(h:RoL K H a xs):mW K H a xs:=h.elim (λ⟨o,q⟩=>.inl (.inr ⟨o,q⟩)) .inr
mutual
inductive eH (K:Fg1)(H:Hp)(mu:List dE):D->V->Prop
 |non:eH K H mu .non .non
 |bl (b:Bool):eH K H mu (.bl b) (.bl b)
 |int (i:Int):eH K H mu (.int i) (.int i)
 |str (x:Str):eH K H mu (.str x) (.str x)
 |tup {ds:List D} {vs:List V} {a:dE} (h:j5 K H a vs) (r:d2 K H mu ds vs):eH K H mu (.tup ds) (.ref a)
 |rol {ds:List D} {vs:List V} {a:dE} (h:RoL K H a vs) (r:d2 K H mu ds vs):eH K H mu (.rol ds) (.ref a)
 |ref {n:Nat} {a:dE} (h:mu[n]?=some a):eH K H mu (.ref n) (.ref a)
 |fn {x:Str} {a:dE} (h:wN1 K dI x=some (some (.ref a))):eH K H mu (.fn x) (.ref a)
inductive d2 (K:Fg1)(H:Hp)(mu:List dE):List D->List V->Prop
 |nil:d2 K H mu [] []
 |cons {d:D} {v:V} {ds:List D} {vs:List V} (r:eH K H mu d v) (t:d2 K H mu ds vs):d2 K H mu (d::ds) (v::vs)
end
structure Ext (mu mu':List dE)(H H':Hp):Prop where
 pre:mu <+: mu'
 old:∀a o,H a=some o->a∉mu->H' a=some o
 tup:∀a xs,Rd H a (.tup xs)->Rd H' a (.tup xs)
 frz:∀a o u,H a=some (.frz o u)->H' a=some (.frz o u)
 new:∀a∈mu',a∈mu\/H a=none
theorem Ext.refl(mu:List dE)(H:Hp):Ext mu mu H H:=⟨bn,λ_ _ h _=>h,λ_ _ h=>h,λ_ _ _ h=>h,λ_ h=>.inl h⟩
theorem Ext.trans{mu m1 m2:List dE}{H H1 H2:Hp}(a:Ext mu m1 H H1)(b:Ext m1 m2 H1 H2):Ext mu m2 H H2 where
 pre:=a.pre.trans b.pre
 old:=λc o h n=>b.old c o (a.old c o h n) λz=>by
  rcases a.new c z with q|q
  ·exact n q
  ·rw[h]at q;cases q
 tup:=λc xs h=>b.tup c xs (a.tup c xs h)
 frz:=λc o u h=>b.frz c o u (a.frz c o u h)
 new:=λc h=>by
  rcases b.new c h with q|q
  ·exact a.new c q
  ·by_cases z:c∈mu
   ·exact .inl z
   ·right;cases e:H c with
    |none=>rfl
    |some o=>rw[a.old c o e z]at q;cases q
theorem Ext.at{mu mu':List dE}{H H':Hp}(e:Ext mu mu' H H'){n:Nat}{a:dE}(h:mu[n]?=Z a):mu'[n]?=Z a:=by
 obtain⟨t,rfl⟩:=e.pre;have b:n<mu.length:=(gE1.mp h).1;rw[gL1 b];exact h
theorem Ext.back{mu mu':List dE}{H H':Hp}(e:Ext mu mu' H H'):Ext mu mu H H':=⟨bn,e.old,e.tup,e.frz,λ_ h=>.inl h⟩
structure r6 (mu mu':List dE)(H H':Hp):Prop where
 pre:mu <+: mu'
 tup:∀a xs,Rd H a (.tup xs)->Rd H' a (.tup xs)
 frz:∀a o u,H a=some (.frz o u)->H' a=some (.frz o u)
theorem Ext.w{mu mu':List dE}{H H':Hp}(e:Ext mu mu' H H'):r6 mu mu' H H':=⟨e.pre,e.tup,e.frz⟩
theorem r6.trans{mu m1 m2:List dE}{H H1 H2:Hp}(a:r6 mu m1 H H1)(b:r6 m1 m2 H1 H2):r6 mu m2 H H2:=⟨a.pre.trans b.pre,λc xs h=>b.tup c xs (a.tup c xs h),λc o u h=>b.frz c o u (a.frz c o u h)⟩
theorem r6.at{mu mu':List dE}{H H':Hp}(e:r6 mu mu' H H'){n:Nat}{a:dE}(h:mu[n]?=Z a):mu'[n]?=Z a:=by
 obtain⟨t,rfl⟩:=e.pre;have b:n<mu.length:=(gE1.mp h).1;rw[gL1 b];exact h
structure yV (mu mu':List dE)(H H':Hp):Prop where
 pre:mu <+: mu'
 tup:∀a xs,Rd H a (.tup xs)->Rd H' a (.tup xs)
 frl:∀a o xs,H a=some (.frz o (.lst xs))->H' a=some (.frz o (.lst xs))
theorem r6.v{mu mu':List dE}{H H':Hp}(e:r6 mu mu' H H'):yV mu mu' H H':=⟨e.pre,e.tup,λa o xs h=>e.frz a o _ h⟩
theorem Ext.v{mu mu':List dE}{H H':Hp}(e:Ext mu mu' H H'):yV mu mu' H H':=e.w.v
theorem yV.at{mu mu':List dE}{H H':Hp}(e:yV mu mu' H H'){n:Nat}{a:dE}(h:mu[n]?=Z a):mu'[n]?=Z a:=by
 obtain⟨t,rfl⟩:=e.pre;have b:n<mu.length:=(gE1.mp h).1;rw[gL1 b];exact h
theorem j5.exv{K:Fg1}{mu mu':List dE}{H H':Hp}{a:dE}{vs:List V}(e:yV mu mu' H H')(h:j5 K H a vs):j5 K H' a vs:=by
 rcases h with h|h
 ·exact .inl (e.tup a vs h)
 ·exact .inr h
theorem RoL.exv{K:Fg1}{mu mu':List dE}{H H':Hp}{a:dE}{vs:List V}(e:yV mu mu' H H')(h:RoL K H a vs):RoL K H' a vs:=by
 rcases h with⟨o,h⟩|h
 ·exact .inl ⟨o,e.frl a o _ h⟩
 ·exact .inr h
theorem eH.exv{K:Fg1}{mu mu':List dE}{H H':Hp}(e:yV mu mu' H H'):∀ {d:D} {v:V},eH K H mu d v->eH K H' mu' d v:=fun h=>h.rec (motive_1:=fun d v _=>eH K H' mu' d v) (motive_2:=fun ds vs _=>d2 K H' mu' ds vs)
  .non .bl .int .str (λh _ ih=>.tup (j5.exv e h) ih) (λh _ ih=>.rol (RoL.exv e h) ih) (λh=>.ref (e.at h)) (λh=>.fn h) .nil (λ_ _ a b=>.cons a b)
theorem d2.ind{K:Fg1}{mu:List dE}{H:Hp}{P:(ds:List D)->(vs:List V)->d2 K H mu ds vs->Prop}(hn:P [] [] .nil)(hc:∀{d v ds vs} (r:eH K H mu d v) (t:d2 K H mu ds vs),P ds vs t->P (d::ds) (v::vs) (.cons r t)){ds:List D}{vs:List V}(h:d2 K H mu ds vs):P ds vs h:=
 h.rec (motive_1:=λ_ _ _=>True) (motive_2:=P) trivial (λ_=>trivial) (λ_=>trivial) (λ_=>trivial) (λ_ _ _=>trivial) (λ_ _ _=>trivial) (λ_=>trivial) (λ_=>trivial) hn (λr t _ ih=>hc r t ih)
theorem d2.exv{K:Fg1}{mu mu':List dE}{H H':Hp}(e:yV mu mu' H H'):∀{ds:List D} {vs:List V},d2 K H mu ds vs->d2 K H' mu' ds vs:=λh=>h.ind (P:=λds vs _=>d2 K H' mu' ds vs) .nil λr _ ih=>.cons (eH.exv e r) ih
section
variable{K:Fg1}{mu mu':List dE}{H H':Hp}{a:dE}{vs:List V}
theorem eH.exw(e:r6 mu mu' H H'){d:D}{v:V}(h:eH K H mu d v):eH K H' mu' d v:=h.exv e.v
theorem d2.exw(e:r6 mu mu' H H'){ds:List D}(h:d2 K H mu ds vs):d2 K H' mu' ds vs:=h.exv e.v
theorem eH.ext(e:Ext mu mu' H H'){d:D}{v:V}(h:eH K H mu d v):eH K H' mu' d v:=h.exv e.v
theorem d2.ext(e:Ext mu mu' H H'){ds:List D}(h:d2 K H mu ds vs):d2 K H' mu' ds vs:=h.exv e.v
end
section
variable{K:Fg1}{H:Hp}{mu:List dE}
theorem d2.length:∀{ds:List D} {vs:List V},d2 K H mu ds vs->ds.length=vs.length:=λh=>h.ind (P:=λds vs _=>ds.length=vs.length) O λ_ _ ih=>congrArg (· + 1) ih
theorem d2.get:∀{ds:List D} {vs:List V} {i:Nat} {d:D},d2 K H mu ds vs->ds[i]?=Z d -> ∃v,vs[i]?=Z v/\eH K H mu d v:=by
 intro ds vs i d h e
 induction h using d2.ind generalizing i with
 |hn=>cases e
 |hc r t ih=>cases i with
  |zero=>cases e;exact⟨_,O,r⟩
  |succ i=>exact ih (i:=i) e
theorem d2.getV:∀{ds:List D} {vs:List V} {i:Nat} {v:V},d2 K H mu ds vs->vs[i]?=Z v -> ∃d,ds[i]?=Z d/\eH K H mu d v:=by
 intro ds vs i d h e
 induction h using d2.ind generalizing i with
 |hn=>cases e
 |hc r t ih=>cases i with
  |zero=>cases e;exact⟨_,O,r⟩
  |succ i=>exact ih (i:=i) e
theorem d2.append:∀{ds es:List D} {vs ws:List V},d2 K H mu ds vs->d2 K H mu es ws->d2 K H mu (ds++es) (vs++ws):=λh s=>h.ind (P:=λds vs _=>d2 K H mu (ds++_) (vs++_)) s λr _ ih=>.cons r ih
theorem d2.take:∀{ds:List D} {vs:List V} (n:Nat),d2 K H mu ds vs->d2 K H mu (ds.take n) (vs.take n):=by
 intro ds vs n h
 induction h using d2.ind generalizing n with
 |hn=>rw[av,av];exact .nil
 |hc r t ih=>cases n with
  |zero=>exact .nil
  |succ n=>exact .cons r (ih n)
theorem d2.drop:∀{ds:List D} {vs:List V} (n:Nat),d2 K H mu ds vs->d2 K H mu (ds.drop n) (vs.drop n):=by
 intro ds vs n h
 induction h using d2.ind generalizing n with
 |hn=>rw[aw,aw];exact .nil
 |hc r t ih=>cases n with
  |zero=>exact .cons r t
  |succ n=>exact ih n
theorem d2.set{d:D}{v:V}(r:eH K H mu d v):∀{ds:List D} {vs:List V} (i:Nat),d2 K H mu ds vs->d2 K H mu (ds.set i d) (vs.set i v):=by
 intro ds vs i h
 induction h using d2.ind generalizing i with
 |hn=>exact .nil
 |hc q t ih=>cases i with
  |zero=>exact .cons r t
  |succ i=>exact .cons q (ih i)
theorem d2.eraseIdx:∀{ds:List D} {vs:List V} (i:Nat),d2 K H mu ds vs->d2 K H mu (ds.eraseIdx i) (vs.eraseIdx i):=by
 intro ds vs i h
 induction h using d2.ind generalizing i with
 |hn=>exact .nil
 |hc q t ih=>cases i with
  |zero=>exact t
  |succ i=>exact .cons q (ih i)
end
def KR{κ:Type}(K:Fg1)(H:Hp)(mu:List dE):List (κ×D)->List (κ×V)->Prop:=Paired λp q=>p.1=q.1/\eH K H mu p.2 q.2
mutual
noncomputable def tkD:TK->D
 | .non=>.non
 | .int i=>.int i
 | .tup xs=>.tup (hW xs)
noncomputable def hW:List TK->List D
 |[]=>[]
 |x::xs=>tkD x::hW xs
end
def gf(a:dE)(xs:List (TK×dE×dB))(h:dP):Prop:=(a == sysModules)=J/\(xs.map (·.1)).Nodup /\ ∃o es ep,h.get? a=Z o/\o.ExactDict/\o.data = .dict es ep/\es.toList=xs.map λx=>(⟨x.1.hash,.ref x.2.1,x.2.2⟩:DictEntry)
def xl(a:dE)(xs:List (TK×dE×dB))(o:Obj):Prop:=(a == sysModules)=J/\(xs.map (·.1)).Nodup/\o.ExactDict /\ ∃es ep,o.data = .dict es ep/\es.toList=xs.map λx=>(⟨x.1.hash,.ref x.2.1,x.2.2⟩:DictEntry)
def KT(K:Fg1)(H:Hp)(mu:List dE):List (TK×D)->List (TK×dE×dB)->Prop:=Paired λp q=>p.1=q.1/\p.1.dep<=8/\eH K H mu (tkD p.1) (.ref q.2.1) /\ ∃v,d5 v q.2.2/\eH K H mu p.2 v
def kk(K:Fg1)(H:Hp)(mu:List dE)(a:dE):Ob->Prop
 | .lst ds=>∃vs,H a=Z (.lst vs)/\d2 K H mu ds vs
 | .dct kvs=>∃ws,H a=Z (.dK ws)/\KR K H mu kvs ws
 | .dcT kvs=>∃xs,H a=Z (.ext (gf a xs))/\KT K H mu kvs xs/\xs.length<=dL
 | .iset xs=>H a=Z (.set (λk=>xs.contains k) xs.length)/\xs.Nodup
 | .dcF kvs=>∃xs,(∃o u,H a=Z (.frz o u)/\xl a xs o)/\KT K H mu kvs xs/\xs.length<=dL
 | .tst ks=>∃xs,H a=Z (.ext (Jn a xs))/\KT K H mu (ks.map λk=>(k,D.non)) xs
structure Sim (K:Fg1)(H:Hp)(mu:List dE)(S:Sto):Prop where
 len:mu.length=S.length
 nd:mu.Nodup
 ob:∀(n:Nat) (o:Ob) (a:dE),S[n]?=some o->mu[n]?=some a->kk K H mu a o
structure fB (K:Fg1)(H:Hp)(mu:List dE)(r:Ev)(σ:L2.St):Prop where
 len:r.length=σ.length
 val:∀(i:Nat) (d:D),r[i]?=some (some d) -> ∃v,σ[i]?=some (some v)/\eH K H mu d v
theorem fB.ext{K:Fg1}{mu mu':List dE}{H H':Hp}{r:Ev}{σ:L2.St}(e:Ext mu mu' H H')(h:fB K H mu r σ):fB K H' mu' r σ:=⟨h.len,λi d q=>by
 obtain⟨v,a,b⟩:=h.val i d q;exact⟨v,a,b.ext e⟩⟩
theorem KR.ext{κ:Type}{K:Fg1}{mu mu':List dE}{H H':Hp}{ks:List (κ×D)}{ws:List (κ×V)}(e:Ext mu mu' H H')(h:KR K H mu ks ws):KR K H' mu' ks ws:=
 Paired.mapP h λ_ _ z=>⟨z.1,z.2.ext e⟩
theorem KT.ext{K:Fg1}{mu mu':List dE}{H H':Hp}{ks:List (TK×D)}{ws:List (TK×dE×dB)}(e:Ext mu mu' H H')(h:KT K H mu ks ws):KT K H' mu' ks ws:=
 Paired.mapP h λ_ _ ⟨z,d,k,v,a,r⟩=>⟨z,d,k.ext e,v,a,r.ext e⟩
theorem Sim.nil{K:Fg1}{H:Hp}:Sim K H [] []:=⟨O,bo,λn o a h=>by simp at h⟩
theorem Sim.here{K:Fg1}{H:Hp}{mu:List dE}{S:Sto}(s:Sim K H mu S){a:dE}(h:a∈mu):∃o,H a=Z o:=by
 obtain⟨n,b⟩:=bq h;have c:n<S.length:=by rw[<- s.len];exact(gE1.mp b).1
 have q:=s.ob n _ a (gG1 c) b;cases e:S[n]with
 |lst ds=>rw[e]at q;obtain⟨vs,z,_⟩:=q;exact⟨_,z⟩
 |dct ks=>rw[e]at q;obtain⟨vs,z,_⟩:=q;exact⟨_,z⟩
 |dcT ks=>rw[e]at q;obtain⟨vs,z,_⟩:=q;exact⟨_,z⟩
 |iset xs=>rw[e]at q;exact⟨_,q.1⟩
 |dcF ks=>rw[e]at q;obtain⟨vs,⟨_,_,z,_⟩,_⟩:=q;exact⟨_,z⟩
 |tst ks=>rw[e]at q;obtain⟨vs,z,_⟩:=q;exact⟨_,z⟩
def ph(K:Fg1)(mu:List dE)(H:Hp)(d:D)(S':Sto)(Q:VK):Prop:=∀v H' mu',Ext mu mu' H H'->eH K H' mu' d v->Sim K H' mu' S'->Q v H'
inductive tM (K:Fg1)(m:FE)(σ:L2.St)(H:Hp)(Q:VK):Prop
 |mk (r:Ev) (mu:List dE) (S:Sto) (d:D) (S':Sto) (he:fB K H mu r σ) (hs:Sim K H mu S) (hm:m r S=some (d,S')) (hc:ph K mu H d S' Q)
inductive xz (K:Fg1)(m:FT)(σ:L2.St)(H:Hp)(Q:Bool->Hp->Prop):Prop
 |mk (r:Ev) (mu:List dE) (S:Sto) (b:Bool) (S':Sto) (he:fB K H mu r σ) (hs:Sim K H mu S) (hm:m r S=some (b,S')) (hc:∀H' mu',Ext mu mu' H H'->Sim K H' mu' S'->Q b H')
inductive KN (K:Fg1)(m:FA)(σ:L2.St)(H:Hp)(Q:List V->Hp->Prop):Prop
 |mk (r:Ev) (mu:List dE) (S:Sto) (ds:List D) (S':Sto) (he:fB K H mu r σ) (hs:Sim K H mu S) (hm:m r S=some (ds,S')) (hc:∀vs H' mu',Ext mu mu' H H'->d2 K H' mu' ds vs->Sim K H' mu' S'->Q vs H')
def JZ(K:Fg1)(mu:List dE)(H:Hp)(r':Ev)(S':Sto)(E:i0)(f:Fl):Prop:=match f with
 | .nx=>∀ σ' H' mu',Ext mu mu' H H'->fB K H' mu' r' σ'->Sim K H' mu' S'->E.nx σ' H'
 | .bk=>∀ σ' H' mu',Ext mu mu' H H'->fB K H' mu' r' σ'->Sim K H' mu' S'->E.bk σ' H'
 | .ct=>∀ σ' H' mu',Ext mu mu' H H'->fB K H' mu' r' σ'->Sim K H' mu' S'->E.ct σ' H'
 | .rt d=>ph K mu H d S' E.rt
inductive vW (K:Fg1)(m:FS)(E:i0)(σ:L2.St)(H:Hp):Prop
 |mk (r:Ev) (mu:List dE) (S:Sto) (f:Fl) (r':Ev) (S':Sto) (he:fB K H mu r σ) (hs:Sim K H mu S) (hm:m r S=some (f,r',S')) (hc:JZ K mu H r' S' E f)
inductive rN (K:Fg1)(f:FN)(vs:List V)(H:Hp)(Q:VK):Prop
 |mk (mu:List dE) (S:Sto) (ds:List D) (d:D) (S':Sto) (hr:d2 K H mu ds vs) (hs:Sim K H mu S) (hm:f ds S=some (d,S')) (hc:ph K mu H d S' Q)
abbrev ME(X:Cx)(e:Expr)(m:FE):Prop:=PE X e (tM X.K m)
abbrev MT(X:Cx)(e:Expr)(m:FT):Prop:=PT X e (xz X.K m)
abbrev MW(X:Cx)(e:Expr)(m:FT):Prop:=PW X e (xz X.K m)
abbrev MA(X:Cx)(es:List Expr)(m:FA):Prop:=PA X es (KN X.K m)
abbrev MS(X:Cx)(st:dR)(m:FS):Prop:=PS X st (vW X.K m)
abbrev yN(X:Cx)(st:List dR)(m:FS):Prop:=uv X st (vW X.K m)
section
variable{X:Cx}{e:Expr}{es:List Expr}{st:dR}{sts:List dR}
theorem eR{t t':TE}(h:PE X e t)(i:∀ σ H Q,t' σ H Q->t σ H Q):PE X e t':=λag s σ H Q I q=>h ag s σ H Q I (i σ H Q q)
theorem uR{t t':TT}(h:PT X e t)(i:∀ σ H Q,t' σ H Q->t σ H Q):PT X e t':=λag s σ H Q I q=>h ag s σ H Q I (i σ H Q q)
theorem zD{t t':TT}(h:PW X e t)(i:∀ σ H Q,t' σ H Q->t σ H Q):PW X e t':=λa ag s σ H Q I q=>h a ag s σ H Q I (i σ H Q q)
theorem zX{t t':TA}(h:PA X es t)(i:∀ σ H Q,t' σ H Q->t σ H Q):PA X es t':=λpos ag s σ H Q I q=>h pos ag s σ H Q I (i σ H Q q)
theorem ic{t t':TS}(h:PS X st t)(i:∀E σ H,t' E σ H->t E σ H):PS X st t':=λag s σ H E I q=>h ag s σ H E I (i E σ H q)
theorem ri{t t':TS}(h:uv X sts t)(i:∀E σ H,t' E σ H->t E σ H):uv X sts t':=λag s σ H E I q=>h ag s σ H E I (i E σ H q)
end
noncomputable def mV (i:Nat):FE:=λr S=>match r[i]? with
 |some (some d)=>some (d,S)
 |_=>none
noncomputable def mC (d:D):FE:=λ_ S=>some (d,S)
section
variable{X:Cx}{pos:Pos}
theorem Gk (i:Nat){x:Str}(hN:X.N[i]?=Z x)(hv:Hf X.env.scope x)(hd:(x == ("__debug__":Str))=J:=by decide)(hcd:(x == ("__classdict__":Str))=J:=by decide):ME X (.Name x pos) (mV i):=
 eR (zR hN hv hd hcd) <| by
  rintro σ H Q ⟨r,mu,S,d,h,g,b,a,hc⟩;unfold mV at a;split at a
  ·rename_i j e;cases a;obtain⟨v,f,c⟩:=g.val i _ e;exact⟨v,f,hc v H mu (.refl _ _) c b⟩
  ·cases a
theorem Av{e:Expr}{v:V}(d:D)(h:PE X e (tC v))(hr:∀H mu,eH X.K H mu d v):ME X e (mC d):=
 eR h <| by
  rintro σ H Q ⟨r,mu,S,f,c,g,a,b,hc⟩;cases b;exact hc v H mu (.refl _ _) (hr H mu) a
theorem Gu{i:Int}{j}:ME X (.Constant (.int i) j pos) (mC (.int i)):=Av _ FF λ_ _=>.int i
theorem IA{b:Bool}{j}:ME X (.Constant (.bool b) j pos) (mC (.bl b)):=Av _ Ii λ_ _=>.bl b
theorem Gr{j}:ME X (.Constant .none j pos) (mC .non):=Av _ FB λ_ _=>.non
theorem Gn{x:Str}{j}:ME X (.Constant (.str x) j pos) (mC (.str x)):=Av _ Fw λ_ _=>.str x
end
noncomputable def dV:FA:=λ_ S=>Z ([],S)
noncomputable def dU (m:FE)(n:FA):FA:=λr S=>(m r S).bind λp=>(n r p.2).bind λq=>some (p.1::q.1,q.2)
section
variable{X:Cx}{pos:Pos}{e:Expr}{es:List Expr}{m:FE}{n:FA}
theorem Gx:MA X [] dV:=zX nV <| by
 rintro σ H Q ⟨r,mu,S,ds,c,d,b,a,hc⟩;cases a;exact hc [] H mu (.refl _ _) .nil b
theorem C9(h:ME X e m)(ht:MA X es n)(hs:dJ (e::es) X.env=(J,eval e X.env)::dJ es X.env:=by rfl):MA X (e::es) (dU m n):=
 zX (jC h ht hs) <| by
  rintro σ H Q ⟨r,mu,S,ds,s,g,hs,a,hc⟩;unfold dU at a;obtain⟨⟨d,j⟩,p,a⟩:=oB1.mp a;obtain⟨⟨c,t⟩,o,a⟩:=oB1.mp a;cases a;refine⟨r,mu,S,d,j,g,hs,p,λv H1 mu1 i l q=>?_⟩;refine⟨r,mu1,j,c,_,g.ext i,q,o,λvs H2 b f r2 k=>?_⟩;exact hc _ H2 b (i.trans f) (.cons (l.ext f) r2) k
end
noncomputable def m2 (f:FN)(a b:FE):FE:=λr S=>(a r S).bind λp=>(b r p.2).bind λq=>f [p.1,q.1] q.2
noncomputable def m1 (f:FN)(a:FE):FE:=λr S=>(a r S).bind λp=>f [p.1] p.2
noncomputable def mN (f:FN)(a:FA):FE:=λr S=>(a r S).bind λp=>f p.1 p.2
abbrev r2(K:Fg1)(f:FN):R2:=λx y H Q=>rN K f [x,y] H Q
section
variable{X:Cx}{K:Fg1}{f:FN}{a b:FE}{σ:L2.St}{H:Hp}{Q:VK}
theorem wy(h:tM K (m2 f a b) σ H Q):HI (r2 K f) (tM K a) (tM K b) σ H Q:=by
 obtain⟨r,mu,S,d,y,o,z,c,hc⟩:=h;obtain⟨⟨k,n⟩,q,c⟩:=oB1.mp c;obtain⟨⟨m,i⟩,p,c⟩:=oB1.mp c;refine⟨r,mu,S,k,n,o,z,q,λv H1 mu1 j A x=>?_⟩;refine⟨r,mu1,n,m,i,o.ext j,x,p,λu H2 g l r2 C=>?_⟩;exact⟨g,i,[k,m],d,y,.cons (A.ext l) (.cons r2 .nil),C,c,λv B e w t s=>hc v B e ((j.trans l).trans w) t s⟩
theorem Ay{a:FA}(h:tM K (mN f a) σ H Q):KN K a σ H λvs H1=>rN K f vs H1 Q:=by
 obtain⟨r,mu,S,d,k,j,l,c,hc⟩:=h;obtain⟨⟨e,g⟩,p,c⟩:=oB1.mp c;refine⟨r,mu,S,e,g,j,l,p,λv H1 mu1 t m i=>?_⟩;exact⟨mu1,g,e,d,k,m,i,c,λv s b o n q=>hc v s b (t.trans o) n q⟩
theorem Ix{op:Operator}{x y:Expr}{pos:Pos}(ho:fV X (binaryOp op) (r2 X.K f))(hx:ME X x a)(hy:ME X y b):ME X (.BinOp x op y pos) (m2 f a b):=eR (Ie ho hx hy) λ_ _ _=>wy
theorem Gv{op:CmpOp}{x y:Expr}{pos:Pos}(ho:fV X (compareOp op) (r2 X.K f))(hx:ME X x a)(hy:ME X y b)(hm:behindInMarks op y=J):ME X (.Compare x [op] [y] pos) (m2 f a b):=eR (CG ho hx hy hm) λ_ _ _=>wy
theorem Iy{x y:Expr}{pos:Pos}(ho:Ey X (r2 X.K f))(hx:ME X x a)(hy:ME X y b)(hs:nk y):ME X (.Subscript x y pos) (m2 f a b):=eR (Ig ho hx hy hs) λ_ _ _=>wy
theorem Au {x:Str}{p pos:Pos}{e:Expr}{es:List Expr}{id:String}{a:FA}(hc:eZ X (.builtin id) (rN X.K f))(hg:Gl X x)(hm:X.mg x=none)(hv:bootBuiltins x=some (.builtin id))(ha:MA X (e::es) a)(hn:x≠"__name__":=by decide)(hdb:(x == ("__debug__":Str))=false:=by decide)
  (he:dJ (e::es) X.env=(J,eval e X.env)::dJ es X.env:=by rfl) (hpl:(backTo pos (dJ es X.env)).any (·.1)=J:=by rfl):ME X (.Call (.Name x p) (e::es) [] pos) (mN f a):=
 eR (nT hc hg hm hv ha hn hdb he hpl) λ_ _ _=>Ay
theorem xZ {x:Str}{p pos:Pos}{e:Expr}{es:List Expr}{T:String}{a:FA}(hc:eZ X (.type T) (rN X.K f))(hg:Gl X x)(hm:X.mg x=none)(hv:bootBuiltins x=some (.type T))(ha:MA X (e::es) a)(hn:x≠"__name__":=by decide)(hdb:(x == ("__debug__":Str))=false:=by decide)
  (he:dJ (e::es) X.env=(J,eval e X.env)::dJ es X.env:=by rfl) (hpl:(backTo pos (dJ es X.env)).any (·.1)=J:=by rfl):ME X (.Call (.Name x p) (e::es) [] pos) (mN f a):=
 eR (lP hc hg hm hv ha hn hdb he hpl) λ_ _ _=>Ay
end
noncomputable def mB (m:FE):FT:=λr S=>(m r S).bind λp=>match p.1 with
 | .bl b=>some (b,p.2)
 |_=>none
theorem ID{K:Fg1}{m:FE}{σ:L2.St}{H:Hp}{Q:Bool->Hp->Prop}(h:xz K (mB m) σ H Q):tB (tM K m) σ H Q:=by
 obtain⟨r,mu,S,b,l,d,e,a,hc⟩:=h;obtain⟨⟨c,n⟩,g,a⟩:=oB1.mp a;cases c with
 |bl k=>
  cases a;refine⟨r,mu,S,_,_,d,e,g,λv H1 mu1 j f i=>?_⟩;cases f;exact⟨_,O,hc H1 mu1 j i⟩
 |_=>cases a
noncomputable def x9(a b:FT):FT:=λr S=>(a r S).bind λp=>if p.1=M then b r p.2 else Z (J,p.2)
noncomputable def Ef(a b:FT):FT:=λr S=>(a r S).bind λp=>if p.1=M then Z (M,p.2)else b r p.2
noncomputable def oW(a:FT):FT:=λr S=>(a r S).bind λp=>Z (!p.1,p.2)
noncomputable def ge(a b:FE):FE:=λr S=>(a r S).bind λp=>match p.1 with
 | .bl c=>if c=M then b r p.2 else Z (.bl J,p.2)
 |_=>Y
noncomputable def LB(a b:FE):FE:=λr S=>(a r S).bind λp=>match p.1 with
 | .bl c=>if c=M then Z (.bl M,p.2)else b r p.2
 |_=>Y
noncomputable def ww(a:FE):FE:=λr S=>(a r S).bind λp=>match p.1 with
 | .bl c=>Z (.bl (!c),p.2)
 |_=>Y
noncomputable def Az(c:FT)(a b:FE):FE:=λr S=>(c r S).bind λp=>if p.1=M then a r p.2 else b r p.2
section
variable{X:Cx}{x y c:Expr}{rest:List Expr}{pos:Pos}{a b:FT}{f g:FE}
theorem F6{op:CmpOp}{f:FN}{a b:FE}(ho:fV X (compareOp op) (r2 X.K f))(hx:ME X x a)(hy:ME X y b)(hm:behindInMarks op y=J):MT X (.Compare x [op] [y] pos) (mB (m2 f a b)):=
 uR (Cr ho hx hy hm) fun σ H Q h=>by
  obtain⟨r,mu,S,d,e,c,g,hm,hc⟩:=ID h;exact wy ⟨r,mu,S,d,e,c,g,hm,λv H' mu' k i j=>hc v H' mu' k i j⟩
theorem CS(ha:MT X x a):MW X (.BoolOp .And [x] pos) a:=Co ha
theorem F3(ha:MT X x a):MW X (.BoolOp .Or [x] pos) a:=Fd ha
theorem F4(ha:MT X x a)(hb:MW X (.BoolOp .And (y::rest) pos) b):MW X (.BoolOp .And (x::y::rest) pos) (x9 a b):=
 zD (Fe ha hb) <| by
  rintro σ H Q ⟨r,mu,S,k,l,f,m,c,hc⟩;obtain⟨⟨b1,h⟩,n,c⟩:=oB1.mp c;refine⟨r,mu,S,b1,h,f,m,n,λH1 mu1 e g=>?_⟩;cases b1 with
  |true=>exact⟨r,mu1,h,k,l,f.ext e,g,c,λH2 d i j=>hc H2 d (e.trans i) j⟩
  |false=>cases c;exact hc H1 mu1 e g
theorem Iv(ha:MT X x a)(hb:MW X (.BoolOp .Or (y::rest) pos) b):MW X (.BoolOp .Or (x::y::rest) pos) (Ef a b):=
 zD (H9 ha hb) <| by
  rintro σ H Q ⟨r,mu,S,k,l,f,m,c,hc⟩;obtain⟨⟨b1,h⟩,n,c⟩:=oB1.mp c;refine⟨r,mu,S,b1,h,f,m,n,λH1 mu1 e g=>?_⟩;cases b1 with
  |false=>exact⟨r,mu1,h,k,l,f.ext e,g,c,λH2 d i j=>hc H2 d (e.trans i) j⟩
  |true=>cases c;exact hc H1 mu1 e g
theorem Kp(h:MW X x a):MT X x a:=PW.pt h
theorem F5(ha:MT X x a):MT X (.UnaryOp .Not x pos) (oW a):=
 uR (Fg ha) <| by
  rintro σ H Q ⟨r,mu,S,k,i,c,d,b,hc⟩;obtain⟨⟨b1,h⟩,e,b⟩:=oB1.mp b;cases b;exact⟨r,mu,S,b1,h,c,d,e,λH1 mu1 g f=>hc H1 mu1 g f⟩
theorem Gp{op}(h:ME X x f):ME X (.BoolOp op [x] pos) f:=Fy h
theorem Gw(ha:ME X x f)(hb:ME X (.BoolOp .And (y::rest) pos) g):ME X (.BoolOp .And (x::y::rest) pos) (ge f g):=
 eR (FJ ha hb) <| by
  rintro σ H Q ⟨r,mu,S,k,m,e,n,a,hc⟩;obtain⟨⟨d,i⟩,q,a⟩:=oB1.mp a;refine⟨r,mu,S,d,i,e,n,q,λv H1 mu1 c o h=>?_⟩;cases d with
  |bl b1=>
   cases o;refine⟨b1,O,?_⟩;cases b1 with
   |true=>exact⟨r,mu1,i,k,m,e.ext c,h,a,λp H2 b j r2 l=>hc p H2 b (c.trans j) r2 l⟩
   |false=>cases a;exact hc _ H1 mu1 c (.bl J) h
  |_=>cases a
theorem Gq(ha:ME X x f):ME X (.UnaryOp .Not x pos) (ww f):=
 eR (Fz ha) <| by
  rintro σ H Q ⟨r,mu,S,k,l,c,d,a,hc⟩;obtain⟨⟨b,j⟩,g,a⟩:=oB1.mp a;refine⟨r,mu,S,b,j,c,d,g,λv H1 mu1 i e h=>?_⟩;cases b with
  |bl b1=>
   cases e;cases a;exact⟨b1,O,hc _ H1 mu1 i (.bl _) h⟩
  |_=>cases a
theorem Iz(hc:MT X c a)(hx:ME X x f)(hy:ME X y g):ME X (.IfExp c x y pos) (Az a f g):=
 eR (zT hc hx hy) <| by
  rintro σ H Q ⟨r,mu,S,k,n,j,p,d,hc⟩;obtain⟨⟨b1,m⟩,q,d⟩:=oB1.mp d;refine⟨r,mu,S,b1,m,j,p,q,λH1 mu1 e o=>?_⟩;cases b1 with
  |true=>exact⟨r,mu1,m,k,n,j.ext e,o,d,λl H2 b h r2 i=>hc l H2 b (e.trans h) r2 i⟩
  |false=>exact⟨r,mu1,m,k,n,j.ext e,o,d,λl H2 b h r2 i=>hc l H2 b (e.trans h) r2 i⟩
end
noncomputable def Gz(f g:FN)(a b c:FE):FE:=λr S=>(a r S).bind λp=>(b r p.2).bind λq=>(f [p.1,q.1] q.2).bind λt=>match t.1 with
 | .bl k=>if k=M then(c r t.2).bind λz=>g [q.1,z.1] z.2 else Z (.bl J,t.2)
 |_=>Y
section
variable{X:Cx}{x y z:Expr}{pos:Pos}{f g:FN}{a b c:FE}{op op':CmpOp}
theorem Gy{K:Fg1}{σ:L2.St}{H:Hp}{Q:VK}(h:tM K (Gz f g a b c) σ H Q):zn (r2 K f) (r2 K g) (tM K a) (tM K b) (tM K c) σ H Q:=by
 obtain⟨r,mu,S,d,ao,s,N,e,hc⟩:=h;obtain⟨⟨y,z⟩,F,e⟩:=oB1.mp e;obtain⟨⟨p,t⟩,D,e⟩:=oB1.mp e;obtain⟨⟨B,x⟩,U,e⟩:=oB1.mp e;refine⟨r,mu,S,y,z,s,N,F,λv1 H1 mu1 j au L=>?_⟩;refine⟨r,mu1,z,p,t,s.ext j,L,D,λaq H2 q l r2 V=>?_⟩;refine⟨q,t,[y,p],B,x,.cons (au.ext l) (.cons r2 .nil),V,U,λwq T i m I v=>?_⟩;cases B with
 |bl k=>
  cases I;refine⟨k,O,?_⟩;cases k with
  |false=>cases e;exact hc _ T i ((j.trans l).trans m) (.bl J) v
  |true=>
   obtain⟨⟨w,u⟩,am,e⟩:=oB1.mp e;refine⟨r,i,x,w,u,s.ext ((j.trans l).trans m),v,am,λv4 H4 n A P W=>?_⟩;exact⟨n,u,[p,w],d,ao,.cons ((r2.ext m).ext A) (.cons P .nil),W,e,λC X o R E G=>hc C X o ((((j.trans l).trans m).trans A).trans R) E G⟩
 |_=>cases e
theorem At(ho:fV X (compareOp op) (r2 X.K f))(ho':fV X (compareOp op') (r2 X.K g))(hx:ME X x a)(hy:ME X y b)(hz:ME X z c)(hm:lastMarks [op,op'] [y,z]=false:=by with_unfolding_all rfl):
  ME X (.Compare x [op,op'] [y,z] pos) (Gz f g a b c):=eR (zV ho ho' hx hy hz hm) λ_ _ _=>Gy
end
mutual
noncomputable def D.und(n:Nat):D->Bool
 | .tup xs=>D.unds n xs
 | .rol xs=>D.unds n xs
 | .ref k=>decide (k<n)
 | .non=>M
 | .bl _=>M
 | .int _=>M
 | .str _=>M
 | .fn _=>M
noncomputable def D.unds(n:Nat):List D->Bool
 |[]=>M
 |d::ds=>D.und n d&&D.unds n ds
end
mutual
noncomputable def D.same:D->D->Bool
 | .non,.non=>M
 | .bl a,.bl b=>a == b
 | .int a,.int b=>decide (a=b)
 | .str a,.str b=>decide (a=b)
 | .tup xs,.tup ys=>D.sames xs ys
 | .rol xs,.rol ys=>D.sames xs ys
 | .ref a,.ref b=>decide (a=b)
 | .fn a,.fn b=>decide (a=b)
 |_,_=>J
noncomputable def D.sames:List D->List D->Bool
 |[],[]=>M
 |x::xs,y::ys=>D.same x y&&D.sames xs ys
 |_,_=>J
end
mutual
theorem D.same_eq:∀{a b:D},D.same a b=M->a=b
 | .non,.non,_=>rfl
 | .non,.bl _,h=>by simp[D.same]at h
 | .non,.int _,h=>by simp[D.same]at h
 | .non,.str _,h=>by simp[D.same]at h
 | .non,.tup _,h=>by simp[D.same]at h
 | .non,.rol _,h=>by simp[D.same]at h
 | .non,.ref _,h=>by simp[D.same]at h
 | .non,.fn _,h=>by simp[D.same]at h
 | .bl _,.non,h=>by simp[D.same]at h
 | .bl x,.bl y,h=>by simp[D.same]at h;rw[h]
 | .bl _,.int _,h=>by simp[D.same]at h
 | .bl _,.str _,h=>by simp[D.same]at h
 | .bl _,.tup _,h=>by simp[D.same]at h
 | .bl _,.rol _,h=>by simp[D.same]at h
 | .bl _,.ref _,h=>by simp[D.same]at h
 | .bl _,.fn _,h=>by simp[D.same]at h
 | .int _,.non,h=>by simp[D.same]at h
 | .int _,.bl _,h=>by simp[D.same]at h
 | .int x,.int y,h=>by simp[D.same]at h;rw[h]
 | .int _,.str _,h=>by simp[D.same]at h
 | .int _,.tup _,h=>by simp[D.same]at h
 | .int _,.rol _,h=>by simp[D.same]at h
 | .int _,.ref _,h=>by simp[D.same]at h
 | .int _,.fn _,h=>by simp[D.same]at h
 | .str _,.non,h=>by simp[D.same]at h
 | .str _,.bl _,h=>by simp[D.same]at h
 | .str _,.int _,h=>by simp[D.same]at h
 | .str x,.str y,h=>by simp[D.same]at h;rw[h]
 | .str _,.tup _,h=>by simp[D.same]at h
 | .str _,.rol _,h=>by simp[D.same]at h
 | .str _,.ref _,h=>by simp[D.same]at h
 | .str _,.fn _,h=>by simp[D.same]at h
 | .tup _,.non,h=>by simp[D.same]at h
 | .tup _,.bl _,h=>by simp[D.same]at h
 | .tup _,.int _,h=>by simp[D.same]at h
 | .tup _,.str _,h=>by simp[D.same]at h
 | .tup x,.tup y,h=>by rw[D.same]at h;rw[D.sames_eq h]
 | .tup _,.rol _,h=>by simp[D.same]at h
 | .tup _,.ref _,h=>by simp[D.same]at h
 | .tup _,.fn _,h=>by simp[D.same]at h
 | .rol _,.non,h=>by simp[D.same]at h
 | .rol _,.bl _,h=>by simp[D.same]at h
 | .rol _,.int _,h=>by simp[D.same]at h
 | .rol _,.str _,h=>by simp[D.same]at h
 | .rol _,.tup _,h=>by simp[D.same]at h
 | .rol x,.rol y,h=>by rw[D.same]at h;rw[D.sames_eq h]
 | .rol _,.ref _,h=>by simp[D.same]at h
 | .rol _,.fn _,h=>by simp[D.same]at h
 | .ref _,.non,h=>by simp[D.same]at h
 | .ref _,.bl _,h=>by simp[D.same]at h
 | .ref _,.int _,h=>by simp[D.same]at h
 | .ref _,.str _,h=>by simp[D.same]at h
 | .ref _,.tup _,h=>by simp[D.same]at h
 | .ref _,.rol _,h=>by simp[D.same]at h
 | .ref x,.ref y,h=>by simp[D.same]at h;rw[h]
 | .ref _,.fn _,h=>by simp[D.same]at h
 | .fn _,.non,h=>by simp[D.same]at h
 | .fn _,.bl _,h=>by simp[D.same]at h
 | .fn _,.int _,h=>by simp[D.same]at h
 | .fn _,.str _,h=>by simp[D.same]at h
 | .fn _,.tup _,h=>by simp[D.same]at h
 | .fn _,.rol _,h=>by simp[D.same]at h
 | .fn _,.ref _,h=>by simp[D.same]at h
 | .fn x,.fn y,h=>by simp[D.same]at h;rw[h]
theorem D.sames_eq:∀{a b:List D},D.sames a b=M->a=b
 |[],[],_=>rfl
 |x::xs,y::ys,h=>by
  rw[D.sames,bA1]at h;rw[D.same_eq h.1,D.sames_eq h.2]
 |[],_::_,h=>by simp[D.sames]at h
 |_::_,[],h=>by simp[D.sames]at h
end
mutual
theorem D.same_refl:∀a:D,D.same a a=M
 | .non=>rfl
 | .bl a=>by simp[D.same]
 | .int a=>by simp[D.same]
 | .str a=>by simp[D.same]
 | .tup xs=>by rw[D.same];exact D.sames_refl xs
 | .rol xs=>by rw[D.same];exact D.sames_refl xs
 | .ref a=>by simp[D.same]
 | .fn a=>by simp[D.same]
theorem D.sames_refl:∀a:List D,D.sames a a=M
 |[]=>rfl
 |x::xs=>by rw[D.sames,D.same_refl x,D.sames_refl xs];rfl
end
section
variable{K:Fg1}{H:Hp}{mu mu':List dE}
theorem eH.cut{n:Nat}(h:∀ k,k<n->mu[k]? = mu'[k]?):∀ {d:D} {v:V},eH K H mu d v->d.und n=true->eH K H mu' d v:=fun c=>c.rec (motive_1:=fun d v _=>d.und n=true->eH K H mu' d v) (motive_2:=fun ds vs _=>D.unds n ds=true->d2 K H mu' ds vs)
  (λ_=>.non) (λb _=>.bl b) (λi _=>.int i) (λx _=>.str x) (λq _ ih e=>.tup q (ih (by rw[D.und]at e;exact e))) (λq _ ih e=>.rol q (ih (by rw[D.und]at e;exact e)))
  (λq e=>.ref (by rw[D.und]at e;rw[<- h _ (of_decide_eq_true e)];exact q)) (λq _=>.fn q) (λ_=>.nil) (λ_ _ a b e=>by rw[D.unds,bA1]at e;exact .cons (a e.1) (b e.2))
theorem d2.cut{n:Nat}(h:∀k,k<n->mu[k]?=mu'[k]?):∀{ds:List D} {vs:List V},d2 K H mu ds vs->D.unds n ds=M->d2 K H mu' ds vs:=λa=>a.ind (P:=λds vs _=>D.unds n ds=M->d2 K H mu' ds vs) (λ_=>.nil) λr _ b e=>by rw[D.unds,bA1]at e;exact .cons (eH.cut h r e.1) (b e.2)
end
noncomputable def Ob.und(n:Nat):Ob->Bool
 | .lst xs=>D.unds n xs
 | .dct kvs=>D.unds n (kvs.map (·.2))
 | .dcT kvs=>D.unds n (kvs.map (·.2))
 | .iset _=>M
 | .dcF kvs=>D.unds n (kvs.map (·.2))
 | .tst _=>M
theorem KR.cut{κ:Type}{K:Fg1}{H:Hp}{mu mu':List dE}{n:Nat}(h:∀k,k<n->mu[k]?=mu'[k]?):∀{ks:List (κ×D)} {ws:List (κ×V)},KR K H mu ks ws->D.unds n (ks.map (·.2))=M->KR K H mu' ks ws:=by
 intro ks ws a e
 induction a with
 |nil=>exact .nil
 |cons r t ih=>
  rw[mP1,D.unds,bA1]at e;exact .cons ⟨r.1,r.2.cut h e.1⟩ (ih e.2)
mutual
theorem zi(n:Nat):∀k:TK,(tkD k).und n=M
 | .non=>rfl
 | .int _=>rfl
 | .tup xs=>by rw[tkD,D.und];exact vT n xs
theorem vT(n:Nat):∀ks:List TK,D.unds n (hW ks)=M
 |[]=>rfl
 |x::xs=>by rw[hW,D.unds,zi n x,vT n xs];rfl
end
theorem KT.cut{K:Fg1}{H:Hp}{mu mu':List dE}{n:Nat}(h:∀k,k<n->mu[k]?=mu'[k]?):∀{ks:List (TK×D)} {ws:List (TK×dE×dB)},KT K H mu ks ws->D.unds n (ks.map (·.2))=M->KT K H mu' ks ws:=by
 intro ks ws b e
 induction b with
 |nil=>exact .nil
 |cons r t ih=>
  rw[mP1,D.unds,bA1]at e;obtain⟨z,d,k,v,a,r⟩:=r;exact .cons ⟨z,d,k.cut h (zi n _),v,a,r.cut h e.1⟩ (ih e.2)
theorem wp(n:Nat):∀ks:List TK,D.unds n ((ks.map λk=>(k,D.non)).map (·.2))=M
 |[]=>rfl
 |_::ks=>by rw[mP1,mP1,D.unds,wp n ks];rfl
theorem kk.cut{K:Fg1}{H:Hp}{mu mu':List dE}{n:Nat}{a:dE}(h:∀k,k<n->mu[k]?=mu'[k]?):∀{o:Ob},kk K H mu a o->o.und n=M->kk K H mu' a o
 | .lst _,⟨vs,e,r⟩,b=>⟨vs,e,r.cut h b⟩
 | .dct _,⟨ws,e,r⟩,b=>⟨ws,e,KR.cut h r b⟩
 | .dcT _,⟨ws,e,r,l⟩,b=>⟨ws,e,KT.cut h r b,l⟩
 | .iset _,q,_=>q
 | .dcF _,⟨ws,e,r,l⟩,b=>⟨ws,e,KT.cut h r b,l⟩
 | .tst ks,⟨ws,e,r⟩,_=>⟨ws,e,KT.cut h r (wp n ks)⟩
noncomputable def gc(n:Nat)(p:D×Sto):D×Sto:=if p.1.und n&&(p.2.take n).all (Ob.und n)then(p.1,p.2.take n)else p
mutual
noncomputable def D.sh(n:Nat):D->D
 | .tup xs=>.tup (D.shs n xs)
 | .rol xs=>.rol (D.shs n xs)
 | .ref k=>.ref (n+k)
 | .fn x=>.fn x
 | .non=>.non
 | .bl b=>.bl b
 | .int i=>.int i
 | .str x=>.str x
noncomputable def D.shs(n:Nat):List D->List D
 |[]=>[]
 |d::ds=>D.sh n d::D.shs n ds
end
noncomputable def Ob.sh(n:Nat):Ob->Ob
 | .lst xs=>.lst (D.shs n xs)
 | .dct kvs=>.dct (kvs.map λp=>(p.1,p.2.sh n))
 | .dcT kvs=>.dcT (kvs.map λp=>(p.1,p.2.sh n))
 | .iset xs=>.iset xs
 | .dcF kvs=>.dcF (kvs.map λp=>(p.1,p.2.sh n))
 | .tst ks=>.tst ks
theorem eH.sh{K:Fg1}{H:Hp}{mu mu':List dE}:∀ {d:D} {v:V},eH K H mu' d v->eH K H (mu++mu') (d.sh mu.length) v:=fun c=>c.rec (motive_1:=fun d v _=>eH K H (mu++mu') (d.sh mu.length) v) (motive_2:=fun ds vs _=>d2 K H (mu++mu') (D.shs mu.length ds) vs)
  .non .bl .int .str (λh _ ih=>.tup h ih) (λh _ ih=>.rol h ih) (λh=>.ref (by rw[gR1 (br _ _),bt];exact h)) (λh=>.fn h) .nil (λ_ _ a b=>.cons a b)
theorem d2.sh{K:Fg1}{H:Hp}{mu mu':List dE}:∀{ds:List D} {vs:List V},d2 K H mu' ds vs->d2 K H (mu++mu') (D.shs mu.length ds) vs:=λh=>h.ind (P:=λds vs _=>d2 K H (mu++mu') (D.shs mu.length ds) vs) .nil λr _ ih=>.cons (eH.sh r) ih
theorem KR.sh{κ:Type}{K:Fg1}{H:Hp}{mu mu':List dE}:∀{ks:List (κ×D)} {ws:List (κ×V)},KR K H mu' ks ws->KR K H (mu++mu') (ks.map λp=>(p.1,p.2.sh mu.length)) ws:=by
 intro ks ws h
 induction h with
 |nil=>exact .nil
 |cons r t ih=>exact .cons ⟨r.1,r.2.sh⟩ ih
mutual
theorem D7(n:Nat):∀k:TK,(tkD k).sh n=tkD k
 | .non=>rfl
 | .int _=>rfl
 | .tup xs=>by rw[tkD,D.sh,zf n xs]
theorem zf(n:Nat):∀ks:List TK,D.shs n (hW ks)=hW ks
 |[]=>rfl
 |x::xs=>by rw[hW,D.shs,D7 n x,zf n xs]
end
theorem KT.sh{K:Fg1}{H:Hp}{mu mu':List dE}:∀{ks:List (TK×D)} {ws:List (TK×dE×dB)},KT K H mu' ks ws->KT K H (mu++mu') (ks.map λp=>(p.1,p.2.sh mu.length)) ws:=by
 intro ks ws h
 induction h with
 |nil=>exact .nil
 |cons r t ih=>
  obtain⟨z,d,k,v,a,r⟩:=r;exact .cons ⟨z,d,by have:=k.sh (mu:=mu);rw[D7]at this;exact this,v,a,r.sh⟩ ih
theorem kk.sh{K:Fg1}{H:Hp}{mu mu':List dE}{a:dE}:∀{o:Ob},kk K H mu' a o->kk K H (mu++mu') a (o.sh mu.length)
 | .lst _,⟨vs,e,r⟩=>⟨vs,e,r.sh⟩
 | .dct _,⟨ws,e,r⟩=>⟨ws,e,KR.sh r⟩
 | .dcT _,⟨ws,e,r,l⟩=>⟨ws,e,KT.sh r,l⟩
 | .iset _,q=>q
 | .dcF _,⟨ws,e,r,l⟩=>⟨ws,e,KT.sh r,l⟩
 | .tst ks,⟨ws,e,r⟩=>⟨ws,e,by have:=KT.sh (mu:=mu) r;rw[bu]at this;exact this⟩
theorem eH.mor{K:Fg1}{H:Hp}{mu:List dE}(mu':List dE):∀{d:D} {v:V},eH K H mu d v->eH K H (mu++mu') d v:=λh=>h.exv ⟨bv _ _,λ_ _ h=>h,λ_ _ _ h=>h⟩
theorem d2.mor{K:Fg1}{H:Hp}{mu:List dE}(mu':List dE):∀{ds:List D} {vs:List V},d2 K H mu ds vs->d2 K H (mu++mu') ds vs:=λh=>h.exv ⟨bv _ _,λ_ _ h=>h,λ_ _ _ h=>h⟩
theorem KR.mor{κ:Type}{K:Fg1}{H:Hp}{mu:List dE}(mu':List dE){ks:List (κ×D)}{ws:List (κ×V)}(h:KR K H mu ks ws):KR K H (mu++mu') ks ws:=Paired.mapP h λ_ _ z=>⟨z.1,z.2.mor mu'⟩
theorem kk.mor{K:Fg1}{H:Hp}{mu:List dE}{a:dE}(mu':List dE):∀{o:Ob},kk K H mu a o->kk K H (mu++mu') a o
 | .lst _,⟨vs,e,r⟩=>⟨vs,e,r.mor mu'⟩
 | .dct _,⟨ws,e,r⟩=>⟨ws,e,KR.mor mu' r⟩
 | .dcT _,⟨ws,e,r,l⟩=>⟨ws,e,Paired.mapP r λ_ _ ⟨z,d,k,v,b,r⟩=>⟨z,d,k.mor mu',v,b,r.mor mu'⟩,l⟩
 | .iset _,q=>q
 | .dcF _,⟨ws,e,r,l⟩=>⟨ws,e,Paired.mapP r λ_ _ ⟨z,d,k,v,b,r⟩=>⟨z,d,k.mor mu',v,b,r.mor mu'⟩,l⟩
 | .tst _,⟨ws,e,r⟩=>⟨ws,e,Paired.mapP r λ_ _ ⟨z,d,k,v,b,r⟩=>⟨z,d,k.mor mu',v,b,r.mor mu'⟩⟩
noncomputable def mG(f:FN):FN:=λds S=>if D.unds 0 ds=M then(f ds []).map λp=>if p.1.und 0=M then(p.1,S)else(p.1.sh S.length,S++p.2.map (Ob.sh S.length))else(f ds S).map (gc S.length)
theorem kk.keep{K:Fg1}{H H':Hp}{mu:List dE}{a:dE}(e:Ext mu mu H H')(h:∀o,H a=Z o->H' a=Z o):∀{o:Ob},kk K H mu a o->kk K H' mu a o
 | .lst _,⟨vs,q,r⟩=>⟨vs,h _ q,r.ext e⟩
 | .dct _,⟨ws,q,r⟩=>⟨ws,h _ q,KR.ext e r⟩
 | .dcT _,⟨ws,q,r,l⟩=>⟨ws,h _ q,KT.ext e r,l⟩
 | .iset _,q=>⟨h _ q.1,q.2⟩
 | .dcF _,⟨ws,⟨o,u,b,c⟩,r,l⟩=>⟨ws,⟨o,u,h _ b,c⟩,KT.ext e r,l⟩
 | .tst _,⟨ws,q,r⟩=>⟨ws,h _ q,KT.ext e r⟩
theorem ub{K:Fg1}{f:FN}{vs:List V}{H:Hp}{Q:VK}(h:rN K (mG f) vs H Q):rN K f vs H Q:=by
 obtain⟨mu,S,ds,d,ao,D,c,g,hc⟩:=h;unfold mG at g;split at g
 ·rename_i j;obtain⟨⟨y,p⟩,w,g⟩:=oM1.mp g;refine⟨[],[],ds,y,p,D.cut (n:=0) (λk i=>absurd i (bw _)) j,.nil,w,λv H' mu' x r s=>?_⟩;have u:Ext mu mu H H':=⟨bn,λa o e _=>x.old a o e (by simp),x.tup,x.frz,λ_ z=>.inl z⟩;dsimp only at g;split at g
  ·rename_i G;cases g;refine hc v H' mu u (r.cut (n:=0) (λk i=>absurd i (bw _)) G) ⟨c.len,c.nd,λn o a h1 h2=>?_⟩;exact(c.ob n o a h1 h2).keep u λo e=>x.old a o e (by simp)
  ·cases g;have E:∀ a∈mu',H a=none:=fun a B=>(x.new a B).resolve_left (by simp);have I:Ext mu (mu++mu') H H':=⟨bv _ _,fun a o e _=>x.old a o e (by simp),x.tup,x.frz,fun a z=>by
    rcases aG.mp z with z|z
    ·exact .inl z
    ·exact .inr (E a z)⟩
   refine hc v H' (mu++mu') I (by rw[<- c.len];exact r.sh) ⟨by rw[lA1,lA1,lM1,c.len,s.len],?_,λn o a h1 h2=>?_⟩
   ·refine bA.mpr ⟨c.nd,s.nd,λa B b j z=>?_⟩;subst z;obtain⟨o,e⟩:=c.here B;rw[E a j]at e;cases e
   ·by_cases l:n<S.length
    ·rw[gL1 l]at h1;rw[gL1 (by rw[c.len];exact l)]at h2;exact((c.ob n o a h1 h2).keep u λo e=>x.old a o e (by simp)).mor mu'
    ·have m:=a0 l;rw[gR1 m]at h1;rw[gR1 (by rw[c.len];exact m)]at h2;rw[gP1]at h1;obtain⟨L,F,am⟩:=oM1.mp h1;subst am;have q:=s.ob (n-S.length) L a F (by rw[c.len]at h2;exact h2);rw[<- c.len];exact q.sh
 ·obtain⟨⟨y,p⟩,w,g⟩:=oM1.mp g;refine⟨mu,S,ds,y,p,D,c,w,λv H' mu' x r s=>?_⟩;unfold gc at g;split at g
  ·rename_i j;cases g;rw [bA1] at j;have i:∀ k,k<S.length->mu'[k]? = mu[k]?:=fun k i=>by
    obtain⟨t,rfl⟩:=x.pre;rw[gL1 (by rw[c.len];exact i)]
   refine hc v H' mu x.back (r.cut i j.1) ⟨?_,c.nd,λn o a h1 h2=>?_⟩
   ·have:=s.len;have C:=x.pre.length_le;rw[aR,<- s.len];rw[c.len]at C ⊢;exact(bB C).symm
   ·have l:n<S.length:=by rw[<- c.len];exact(gE1.mp h2).1
    have A:p[n]?=Z o:=by rw[aT l]at h1;exact h1
    refine(s.ob n o a A ((i n l).trans h2)).cut i ?_;exact bC.mp j.2 o (gM1 h1)
  ·cases g;exact hc v H' mu' x r s
noncomputable def BO(K:Fg1)(n:Nat)(f:FN):Sp:=λvs H Q _=>vs.length=n/\rN K f vs H Q
section
variable{X:Cx}{k n:Nat}{f:dE}{fd:dQ}{ps:List Str}{x:Str}{p pos:Pos}{e:Expr}{es:List Expr}{m:FN}{a:FA}
noncomputable def dW (n:Nat)(f:FN):FN:=λds S=>if ds.length=n then mG f ds S else none
theorem C7 (F:jQ X.prog X.w X.K X.mg X.base uo k f fd ps (BO X.K n m))(hr:fN k X.A)(hg:Gl X x)(hm:X.mg x=some (.ref f))(hk:wK1 X.K (.ref f)=true)(hb:lE X.K fd ps [])
  (ha:MA X (e::es) a) (hdb:(x == ("__debug__":Str))=J:=by decide) (he:dJ (e::es) X.env=(J,eval e X.env)::dJ es X.env:=by rfl) (hpl:(backTo pos (dJ es X.env)).any (·.1)=J:=by rfl):
  ME X (.Call (.Name x p) (e::es) [] pos) (mN (dW n m) a):=
 eR (CH (E:=E0) F hr hg hm hk hb .nil Ij ha hdb he hpl) fun σ H Q h=>by
  obtain⟨r,mu,S,ds,g,he,j,hm,hc⟩:=Ay h;refine⟨r,mu,S,ds,g,he,j,hm,λvs H' mu' v l u=>?_⟩;have q:=hc vs H' mu' v l u;show BO X.K n m (vs++[]) H' Q E0;rw[aN];obtain⟨c,s,d,i,w,h1,h2,b,t⟩:=q;unfold dW at b;split at b
  ·rename_i o;exact⟨by rw[<- h1.length];exact o,ub ⟨c,s,d,i,w,h1,h2,b,t⟩⟩
  ·cases b
end
noncomputable def pT:FS:=λr S=>Z (.nx,r,S)
noncomputable def et (a b:FS):FS:=λr S=>(a r S).bind λp=>match p.1 with
 | .nx=>b p.2.1 p.2.2
 |f=>some (f,p.2.1,p.2.2)
noncomputable def eX (m:FE):FS:=λr S=>(m r S).bind λp=>some (.rt p.1,r,p.2)
noncomputable def KQ:FS:=λr S=>Z (.rt .non,r,S)
noncomputable def fT (m:FE):FS:=λr S=>(m r S).bind λp=>some (.nx,r,p.2)
noncomputable def gY (c:FT)(a b:FS):FS:=λr S=>(c r S).bind λp=>if p.1=true then a r p.2 else b r p.2
section
variable{X:Cx}{pos:Pos}{e c:Expr}{st:dR}{rest as bs:List dR}{a b:FS}{m:FE}{t:FT}
theorem CU:yN X [] pT:=ri Ct <| by
 rintro E σ H ⟨r,mu,S,f,e,d,c,a,b,hc⟩;cases b;exact hc σ H mu (.refl _ _) c a
theorem Aj(h1:MS X st a)(h2:yN X rest b):yN X (st::rest) (et a b):=ri (zG h1 h2) <| by
 rintro E σ H ⟨r,mu,S,f,q,o,u,p,h,hc⟩;obtain⟨⟨m,l,n⟩,s,h⟩:=oB1.mp h;refine⟨r,mu,S,m,l,n,u,p,s,?_⟩;cases m with
 |nx=>
  intro t H1 mu1 i j k;refine⟨l,mu1,n,f,q,o,j,k,h,?_⟩;cases f with
  |nx=>exact λe H2 c g=>hc e H2 c (i.trans g)
  |bk=>exact λe H2 c g=>hc e H2 c (i.trans g)
  |ct=>exact λe H2 c g=>hc e H2 c (i.trans g)
  |rt d=>exact λv H2 c g=>hc v H2 c (i.trans g)
 |bk=>cases h;exact hc
 |ct=>cases h;exact hc
 |rt d=>cases h;exact hc
theorem CT(h1:MS X st a):yN X [st] a:=Cs h1
theorem CW(h:ME X e m)(hs:swapsWith e Y pos.line X.env=pure J:=by rfl):MS X (.Expr e pos) (fT m):=ic (Cu h hs) <| by
 rintro E σ H ⟨r,mu,S,f,k,i,b,hs,a,hc⟩;obtain⟨⟨d,l⟩,c,a⟩:=oB1.mp a;cases a;exact⟨r,mu,S,d,_,b,hs,c,λv H' mu' x j g=>hc σ H' mu' x (b.ext x) g⟩
theorem F8(h:ME X e m):MS X (.Return (Z e) pos) (eX m):=ic (Fj h) <| by
 rintro E σ H ⟨r,mu,S,f,j,i,g,b,a,hc⟩;obtain⟨⟨d,k⟩,c,a⟩:=oB1.mp a;cases a;exact⟨r,mu,S,d,_,g,b,c,hc⟩
theorem Iw(hc:MT X c t)(ha:yN X as a)(hb:yN X bs b):MS X (.If c as bs pos) (gY t a b):=ic (Ib hc ha hb) <| by
 rintro E σ H ⟨r,mu,S,f,o,m,n,q,i,hc⟩;obtain⟨⟨k,l⟩,s,i⟩:=oB1.mp i;refine⟨r,mu,S,k,l,n,q,s,λH1 mu1 j u=>?_⟩;have p:∀c:FS,c r l=Z (f,o,m)->vW X.K c E σ H1:=λc i=>by
  refine⟨r,mu1,l,f,o,m,n.ext j,u,i,?_⟩;cases f with
  |nx=>exact λg H2 e h=>hc g H2 e (j.trans h)
  |bk=>exact λg H2 e h=>hc g H2 e (j.trans h)
  |ct=>exact λg H2 e h=>hc g H2 e (j.trans h)
  |rt d=>exact λv H2 e h=>hc v H2 e (j.trans h)
 cases k with
 |true=>exact p a i
 |false=>exact p b i
end
abbrev FG:=D->Ev->Sto->Option (Ev×Sto)
abbrev BM:=List D->Ev->Sto->Option (Ev×Sto)
inductive Cb (K:Fg1)(g:FG)(v:V)(σ:L2.St)(H:Hp)(Q:L2.St->Hp->Prop):Prop
 |mk (r:Ev) (mu:List dE) (S:Sto) (d:D) (r':Ev) (S':Sto) (he:fB K H mu r σ) (hs:Sim K H mu S) (hr:eH K H mu d v) (hm:g d r S=some (r',S')) (hc:∀ σ' H' mu',Ext mu mu' H H'->fB K H' mu' r' σ'->Sim K H' mu' S'->Q σ' H')
inductive J3 (K:Fg1)(g:BM)(vs:List V)(σ:L2.St)(H:Hp)(Q:L2.St->Hp->Prop):Prop
 |mk (r:Ev) (mu:List dE) (S:Sto) (ds:List D) (r':Ev) (S':Sto) (he:fB K H mu r σ) (hs:Sim K H mu S) (hr:d2 K H mu ds vs) (hm:g ds r S=some (r',S')) (hc:∀ σ' H' mu',Ext mu mu' H H'->fB K H' mu' r' σ'->Sim K H' mu' S'->Q σ' H')
abbrev MG(X:Cx)(e:Expr)(g:FG):Prop:=PG X e (Cb X.K g)
abbrev Jq(X:Cx)(es:List Expr)(g:BM):Prop:=Hj X es (J3 X.K g)
noncomputable def gN (i:Nat):FG:=λd r S=>some (r.set i (some d),S)
noncomputable def lF:BM:=λds r S=>match ds with
 |[]=>Z (r,S)
 |_=>Y
noncomputable def gh (g:FG)(gs:BM):BM:=λds r S=>match ds with
 |d::ds=>(g d r S).bind λp=>gs ds p.1 p.2
 |[]=>none
noncomputable def gT (n:Nat)(gs:BM):FG:=λd r S=>match d with
 | .tup ds=>if ds.length=n then gs ds r S else none
 |_=>none
theorem fB.set{K:Fg1}{H:Hp}{mu:List dE}{r:Ev}{σ:L2.St}{i:Nat}{d:D}{v:V}(h:fB K H mu r σ)(q:eH K H mu d v):fB K H mu (r.set i (Z d)) (σ.set i (Z v)):=by
 refine⟨by rw[aW,aW];exact h.len,λj k e=>?_⟩;by_cases a:i=j
 ·subst a;have b:i<r.length:=by
   have:=(gE1.mp e).1
   rwa [aW]at this
  rw[aI b]at e;cases e;exact⟨v,aI (by rw[<- h.len];exact b),q⟩
 ·rw[gS1 a]at e;obtain⟨f,g,c⟩:=h.val j k e;exact⟨f,by rw[gS1 a];exact g,c⟩
section
variable{X:Cx}{pos:Pos}
theorem uU{e:Expr}{t t':TG}(h:PG X e t)(i:∀v σ H Q,t' v σ H Q->t v σ H Q):PG X e t':=λag s σ H v u Q I r q=>h ag s σ H v u Q I r (i v σ H Q q)
theorem wc{e:List Expr}{t t':Eu}(h:Hj X e t)(i:∀v σ H Q,t' v σ H Q->t v σ H Q):Hj X e t':=λag s σ H v u Q I r q=>h ag s σ H v u Q I r (i v σ H Q q)
theorem C5(i:Nat){x:Str}(hN:X.N.Nodup)(hi:X.N[i]?=Z x)(hx:yO X.env.scope x)(hf:X.fn x=M\/X.env.scope.names.lookup x=Z .local:=by first|exact .inl rfl|exact .inr rfl|assumption):MG X (.Name x pos) (gN i):=
 uU (wd hN hi hx hf) <| by
  rintro v σ H Q ⟨r,mu,S,d,g,f,e,a,c,b,hc⟩;cases b;exact hc _ H mu (.refl _ _) (e.set c) a
theorem C4:Jq X [] lF:=wc CC <| by
 rintro vs σ H Q ⟨r,mu,S,ds,f,e,d,b,c,a,hc⟩;unfold lF at a;split at a
 ·cases a;cases c;exact⟨O,hc σ H mu (.refl _ _) d b⟩
 ·cases a
theorem Aq{e:Expr}{es:List Expr}{g:FG}{h:BM}(h1:MG X e g)(h2:Jq X es h)(hs:(assignEach (e::es) X.env).map (·.2)=assign e X.env::(assignEach es X.env).map (·.2):=by rfl):Jq X (e::es) (gh g h):=
 wc (zQ h1 h2 hs) <| by
  rintro vs σ H Q ⟨r,mu,S,ds,o,l,m,hs,p,a,hc⟩;unfold gh at a;split at a
  ·obtain⟨⟨f,j⟩,n,a⟩:=oB1.mp a;cases p with
   |cons q t=>
    exact⟨_,_,O,r,mu,S,_,f,j,m,hs,q,n,λu H1 mu1 i d s=>⟨f,mu1,j,_,o,l,d,s,t.ext i,a,λc H2 b k=>hc c H2 b (i.trans k)⟩⟩
  ·cases a
theorem Gh{es:List Expr}{k:Nat}{b:BM}{n:Nat}(hc:X.calm=M)(h:Jq X es b)(hn:(assignEach es X.env).length=n:=by rfl)(hst:(assignEach es X.env).findIdx? (·.1)=Y:=by rfl):MG X (.Tuple es k pos) (gT n b):=
 uU (Ft hc h hn hst) <| by
  rintro v σ H Q ⟨r,mu,S,d,g,e,c,f,i,a,hc⟩;cases d with
  |tup ds=>
   rw[gT]at a;split at a
   ·rename_i j;cases i with
    |tup q t=>exact⟨_,_,O,q,by rw[<- t.length];exact j,r,mu,S,ds,g,e,c,f,t,a,hc⟩
   ·cases a
  |_=>cases a
inductive rU (K:Fg1)(f:FN)(o i v:V)(H:Hp)(Q:Hp->Prop):Prop
 |mk (mu:List dE) (S:Sto) (ds:List D) (d:D) (S':Sto) (hr:d2 K H mu ds [o,i,v]) (hs:Sim K H mu S) (hm:f ds S=some (d,S')) (hc:∀H' mu',Ext mu mu' H H'->Sim K H' mu' S'->Q H')
noncomputable def gS(f:FN)(a b:FE):FG:=λd r S=>(a r S).bind λp=>(b r p.2).bind λq=>(f [p.1,q.1,d] q.2).bind λt=>Z (r,t.2)
theorem Gi{o i:Expr}{a b:FE}{f:FN}(ho:ME X o a)(hi:ME X i b)(hs:vM X (rU X.K f))(ha:∀v,assign (.Subscript o i pos) X.env v=(do
   let ov<-holding [v] (eval o X.env)
   let iv<-holding [v,ov] (eval i X.env)
   standAt pos
   holding [v,ov,iv] (setItem ov iv v)
   release [v,ov,iv] []):=by intro _;rfl):MG X (.Subscript o i pos) (gS f a b):=
 uU (Fu ho hi hs ha) <| by
  rintro v σ H Q ⟨r,mu,S,d,E,G,k,hs,w,c,hc⟩;obtain⟨⟨m,q⟩,t,c⟩:=oB1.mp c;obtain⟨⟨n,l⟩,s,c⟩:=oB1.mp c;obtain⟨⟨C,F⟩,A,c⟩:=oB1.mp c;cases c;refine⟨r,mu,S,m,q,k,hs,t,λI H1 mu1 e y x=>?_⟩;refine⟨r,mu1,q,n,l,k.ext e,x,s,λD H2 j g r2 B=>?_⟩;exact⟨j,l,[m,n,d],C,_,.cons (y.ext g) (.cons r2 (.cons ((w.ext e).ext g) .nil)),B,A,λz h p u=>hc σ z h ((e.trans g).trans p) (((k.ext e).ext g).ext p) u⟩
noncomputable def eA (m:FE)(g:FG):FS:=λr S=>(m r S).bind λp=>(g p.1 r p.2).bind λq=>some (.nx,q.1,q.2)
theorem rE{K:Fg1}{m:FE}{g:FG}{E:i0}{σ:L2.St}{H:Hp}(h:vW K (eA m g) E σ H):zo (tM K m) (Cb K g) E σ H:=by
 obtain⟨r,mu,S,f,u,s,e,l,a,hc⟩:=h;obtain⟨⟨d,j⟩,p,a⟩:=oB1.mp a;obtain⟨⟨r2,t⟩,o,a⟩:=oB1.mp a;cases a;refine⟨r,mu,S,d,j,e,l,p,λv H1 mu1 i n q=>?_⟩;exact⟨r,mu1,j,d,_,_,e.ext i,q,n,o,λc H2 b k=>hc c H2 b (i.trans k)⟩
theorem Ga{tg e:Expr}{m:FE}{g:FG}(he:ME X e m)(hg:MG X tg g)(hs:swapsWithSole [tg] e pos.line X.env=pure J:=by rfl)(hw:swappedStores [tg] e X.env=pure Y:=by rfl)(h1:(assignEach [tg] X.env).map (·.2)=[assign tg X.env]:=by rfl):MS X (.Assign [tg] e pos) (eA m g):=ic (Fn he hg hs hw h1) λ_ _ _=>rE
theorem F7(i:Nat){x:Str}{e:Expr}{m:FE}{pos':Pos}(hN:X.N.Nodup)(hi:X.N[i]? = some x)(hx:yO X.env.scope x)(he:ME X e m)(hs:swapsWith e (some (.Name x pos')) pos.line X.env=pure false:=by rfl)(hf:X.fn x=true\/X.env.scope.names.lookup x=some .local:=by first | exact .inl rfl | exact .inr rfl | assumption):
  MS X (.Assign [.Name x pos'] e pos) (eA m (gN i)):=ic (Fi hN hi hx he hs hf) λE σ H h=>by
 obtain⟨r,mu,S,d,g,h1,h2,c,n⟩:=rE h;refine⟨r,mu,S,d,g,h1,h2,c,λv H' mu' q k p=>?_⟩;obtain⟨r2,a,u,s,t,w,f,j,o,b,l⟩:=n v H' mu' q k p;cases b;exact l _ H' a (.refl _ _) (f.set o) j
noncomputable def LC(i:Nat)(f:FN)(m:FE):FS:=λr S=>match r[i]? with
 |some (Z d)=>(m r S).bind λp=>(f [d,p.1] p.2).bind λq=>Z (.nx,r.set i (Z q.1),q.2)
 |_=>Y
end
noncomputable def yS (c:FT)(b:FS):Nat->FS
 |0=>λ_ _=>none
 | n+1=>fun r S=>(c r S).bind fun p=>if p.1=true then (b r p.2).bind fun q=>match q.1 with
   | .nx=>yS c b n q.2.1 q.2.2
   | .ct=>yS c b n q.2.1 q.2.2
   | .bk=>some (.nx,q.2.1,q.2.2)
   | .rt d=>some (.rt d,q.2.1,q.2.2)
  else some (.nx,r,p.2)
theorem EB{K:Fg1}{c:FT}{b:FS}{n:Nat}{E:i0}{σ:L2.St}{H:Hp}(h:vW K (yS c b n) E σ H):zk (xz K c) (vW K b) E σ H:=by
 refine⟨λm a H'=>vW K (yS c b m) E a H',⟨n,h⟩,λm t H1 q=>?_⟩;obtain⟨r,mu,S,f,w,B,u,G,i,hc⟩:=q;cases m with
 |zero=>cases i
 |succ m=>
  obtain⟨⟨k,z⟩,F,i⟩:=oB1.mp i;refine⟨r,mu,S,k,z,u,G,F,λH2 e o D=>?_⟩;cases k with
  |false=>
   cases i;exact hc t H2 e o (u.ext o) D
  |true=>
   obtain⟨⟨C,p,s⟩,I,i⟩:=oB1.mp i;have A:∀{a H' mu'},Ext e mu' H2 H'->fB K H' mu' p a->Sim K H' mu' s->yS c b m p s=Z (f,w,B)->vW K (yS c b m) E a H':=λ{a H' mu'} x g l i=>by
    refine⟨p,mu',s,f,w,B,g,l,i,?_⟩;cases f with
    |nx=>exact λj H2 e y=>hc j H2 e ((o.trans x).trans y)
    |bk=>exact λj H2 e y=>hc j H2 e ((o.trans x).trans y)
    |ct=>exact λj H2 e y=>hc j H2 e ((o.trans x).trans y)
    |rt d=>exact λv H2 e y=>hc v H2 e ((o.trans x).trans y)
   refine⟨λa H'=>vW K (yS c b m) E a H',λa H' q=>⟨m,bD _,q⟩,r,e,z,C,p,s,u.ext o,D,I,?_⟩;cases C with
   |nx=>exact λa H' mu' x g l=>A x g l i
   |ct=>exact λa H' mu' x g l=>A x g l i
   |bk=>cases i;exact λa H' mu' x g l=>hc a H' mu' (o.trans x) g l
   |rt d=>cases i;exact λv H' mu' x p l=>hc v H' mu' (o.trans x) p l
theorem Ak{X:Cx}{pos:Pos}(n:Nat){c:Expr}{a:List dR}{t:FT}{b:FS}(hp:PassesOwn (model X.prog X.w) X.A X.env X.xe)(hc:MT X c t)(hb:yN X a b):MS X (.While c a [] pos) (yS t b n):=
 ic (zI hp hc hb) λ_ _ _=>EB
structure BS where
 items:List D
 chk:List (Nat×List D)
noncomputable def pM (S:Sto):List (Nat×List D)->Bool
 |[]=>true
 | (n,xs)::c=>(match S[n]? with
   |some (.lst ys)=>D.sames ys xs
   |_=>false)&&pM S c
def ItR(K:Fg1)(j:It)(am:BS)(mu:List dE)(H:Hp):Prop:=∀i H1 mu1 S1,r6 mu mu1 H H1->Sim K H1 mu1 S1->pM S1 am.chk=M ->
 (∀d,am.items[i]?=Z d->j.go i H1 /\ ∀x H2,j.yld i H1 x H2->Ext mu1 mu1 H1 H2/\Sim K H2 mu1 S1/\eH K H2 mu1 d x)/\(am.items.length<=i->j.stop i H1)
abbrev FI:=Ev->Sto->Option (BS×Sto)
inductive HL (K:Fg1)(m:FI)(σ:L2.St)(H:Hp)(R:It->Hp->Prop):Prop
 |mk (r:Ev) (mu:List dE) (S:Sto) (am:BS) (S':Sto) (he:fB K H mu r σ) (hs:Sim K H mu S) (hm:m r S=some (am,S')) (hc:∀j H' mu',Ext mu mu' H H'->ItR K j am mu' H'->Sim K H' mu' S'->R j H')
abbrev MI(X:Cx)(tg iter:Expr)(m:FI):Prop:=PI X tg iter (HL X.K m)
theorem rj{X:Cx}{tg e:Expr}{t t':TI}(h:PI X tg e t)(i:∀ σ H R,t' σ H R->t σ H R):PI X tg e t':=λag s σ H R I q=>h ag s σ H R I (i σ H R q)
theorem Ic{X:Cx}{tg e:Expr}{t t':TI}(h:PI X tg e t)(h':PI X tg e t'):PI X tg e (fun σ H R=>t σ H R\/t' σ H R):=λag s σ H R I q=>q.elim (h ag s σ H R I) (h' ag s σ H R I)
noncomputable def k4 (c:List (Nat×List D))(g:FG)(b:FS):List D->FS
 |[]=>λr S=>if pM S c=true then some (.nx,r,S)else none
 | d::ds=>fun r S=>if pM S c=true then (g d r S).bind fun p=>(b p.1 p.2).bind fun q=>match q.1 with
   | .nx=>k4 c g b ds q.2.1 q.2.2
   | .ct=>k4 c g b ds q.2.1 q.2.2
   | .bk=>some (.nx,q.2.1,q.2.2)
   | .rt v=>some (.rt v,q.2.1,q.2.2)
  else none
noncomputable def je (m:FI)(g:FG)(b:FS):FS:=λr S=>(m r S).bind λp=>k4 p.1.chk g b p.1.items r p.2
theorem mE{α:Type}{l:List α}{i:Nat}{d:α}{ds:List α}(h:l.drop i=d::ds):l[i]?=Z d/\l.drop (i+1)=ds:=by
 have h1:l[i]?=Z d:=by
  have:=congrArg (·[0]?) h;simpa using this
 refine⟨h1,?_⟩;rw[<- bE,h];rfl
inductive KH (K:Fg1)(mu1:List dE)(H1:Hp)(c:List (Nat×List D))(g:FG)(b:FS)(f:Fl)(r':Ev)(S':Sto)(L:List D)(σ':L2.St)(H':Hp):Prop
 |mk (r2:Ev) (mu2:List dE) (S2:Sto):Ext mu1 mu2 H1 H'->fB K H' mu2 r2 σ'->Sim K H' mu2 S2->k4 c g b L r2 S2=some (f,r',S')->KH K mu1 H1 c g b f r' S' L σ' H'
theorem Dd{K:Fg1}{m:FI}{g:FG}{b:FS}{E:i0}{σ:L2.St}{H:Hp}(h:vW K (je m g b) E σ H):HM (HL K m) (Cb K g) (vW K b) E σ H:=by
 obtain⟨r,mu,S,f,N,T,V,hs,I,hc⟩:=h;obtain⟨⟨am,R⟩,wq,I⟩:=oB1.mp I;refine⟨r,mu,S,am,R,V,hs,wq,λj H1 mu1 z U s1=>?_⟩;refine⟨λi k s H'=>k=(am.items.drop i).length/\KH K mu1 H1 am.chk g b f N T (am.items.drop i) s H',⟨_,O,r,mu1,R,.refl _ _,V.ext z,s1,I⟩,?_⟩;rintro i k D H2 ⟨rfl,r2,l,X,o,u,G,a⟩;cases hl:am.items.drop i with
 |nil=>
  left;rw[hl]at a;rw[k4]at a;dsimp only at a;split at a
  ·rename_i ok;cases a;refine⟨(U i H2 l _ o.w G ok).2 (List.drop_eq_nil_iff.mp hl),?_⟩;exact hc D H2 l (z.trans o) u G
  ·cases a
 |cons d ds=>
  right;rw[hl]at a;obtain⟨hi,au⟩:=mE hl;rw[k4]at a;dsimp only at a;split at a
  ·rename_i ok;obtain⟨⟨Q,P⟩,e3,a⟩:=oB1.mp a;obtain⟨⟨ao,F,B⟩,e4,a⟩:=oB1.mp a;obtain⟨go,yl⟩:=(U i H2 l _ o.w G ok).1 d hi;refine⟨go,KH K mu1 H1 am.chk g b f N T ds,?_,λx H3 y=>?_⟩
   ·intro s H' h5;exact⟨ds.length,bD _,(congrArg List.length au).symm,au.symm ▸ h5⟩
   ·obtain⟨t,s3,q3⟩:=yl x H3 y;refine⟨r2,l,X,d,Q,P,u.ext t,s3,q3,e3,fun σ4 H4 C A L s4=>?_⟩;refine⟨Q,C,P,ao,F,B,L,s4,e4,?_⟩;cases ao with
    |nx=>exact λp w c q e n=>⟨F,c,B,(o.trans t).trans (A.trans q),e,n,a⟩
    |ct=>exact λp w c q e n=>⟨F,c,B,(o.trans t).trans (A.trans q),e,n,a⟩
    |bk=>cases a;exact λp w c q e n=>hc p w c ((z.trans o).trans (t.trans (A.trans q))) e n
    |rt v=>cases a;exact λW w c q aq n=>hc W w c ((z.trans o).trans (t.trans (A.trans q))) aq n
  ·cases a
theorem F9{X:Cx}{pos:Pos}{tg iter:Expr}{a:List dR}{m:FI}{g:FG}{b:FS}(hp:PassesOwn (model X.prog X.w) X.A X.env X.xe)(hc:X.calm=M)(hi:MI X tg iter m)(hg:MG X tg g)(hb:yN X a b)(hs:∀x,foldedSetIterable iter X.env x=pure x:=by intro _;rfl):MS X (.For tg iter a [] pos) (je m g b):=ic (Fm hp hc hi hg hb hs) λ_ _ _=>Dd
noncomputable def gK(n:Nat)(ds:List D):Ev:=ds.map Z++aP (n-ds.length) Y
noncomputable def gW (n:Nat)(b:FS):FN:=λds S=>(b (gK n ds) S).bind λp=>match p.1 with
 | .rt d=>some (d,p.2.2)
 | .nx=>some (.non,p.2.2)
 |_=>none
theorem xF{K:Fg1}{H:Hp}{mu:List dE}{ds:List D}{vs:List V}(N:List Str)(h:d2 K H mu ds vs):fB K H mu (gK N.length ds) (L2.i3 N vs):=by
 refine⟨?_,λi d e=>?_⟩
 ·unfold gK L2.i3;rw[lA1,lA1,lM1,lM1,lR1,lR1,h.length]
 ·unfold gK at e;unfold L2.i3;by_cases hi:i<ds.length
  ·rw[gL1 (by rw[lM1];exact hi),gP1]at e;obtain⟨f,a,b⟩:=oM1.mp e;cases b;obtain⟨v,c,r⟩:=h.get a;refine⟨v,?_,r⟩;rw[gL1 (by rw[lM1,<- h.length];exact hi),gP1,c];rfl
  ·rw[gR1 (by rw[lM1];lia)]at e;have:=gM1 e;rw[List.mem_replicate]at this;cases this.2
theorem IV{P:dF}{w:dH}{K:Fg1}{mg:Str->Option dB}{base:dP}{x c:Str}{st:dR}{f:dE}{fd:dQ}{N ps:List Str}{k:Nat}{b:FS}(F:yU K x c st f fd)(S:gu N ps (d9 st))(i:∀(e:dB) (A:dG) (a:List Env) (s:dD) (H:Hp) (E:XK),fN k (A.deeper (envOfC c (d9 st) s.heap.objs.size f e)) ->
   yN (mT uo P w K mg base N c (d9 st) f e A a s H E).nox (fu st) b):jQ P w K mg base uo (k+1) f fd ps (BO K ps.length (gW N.length b)):=by
 refine yU.ok F S (λvs H Q E h=>h.1) λe A a s H vs Q E q j=>⟨_,i e A a s H E q,?_⟩;obtain⟨_,mu,St,ds,d,t,h1,h2,g,m⟩:=j;unfold gW at g;obtain⟨⟨l,p,r⟩,o,g⟩:=oB1.mp g;refine⟨_,mu,St,l,p,r,xF N h1,h2,o,?_⟩;cases l with
 |nx=>cases g;exact λn H' mu' x u s=>m .non H' mu' x .non s
 |rt d=>cases g;exact m
 |bk=>cases g
 |ct=>cases g
noncomputable def iY(cells:List (Str×dE)):List (Str×NameKind)->List (Str×dE)->Option (List (Str×dE))
 |[],acc=>Z acc
 |(n,k)::r,acc=>if k == .free then(cells.lookup n).bind λc=>iY cells r ((n,c)::acc)else iY cells r acc
theorem vz{env:Env}(f:Str×NameKind->List (Str×dE)->Sem (ForInStep (List (Str×dE))))(hf:∀n k g,f (n,k) g=if k == .free then(do let c<-cellOf env n;pure (.yield ((n,c)::g)))else pure (.yield g)):
  ∀(a:List (Str×NameKind)) (acc b:List (Str×dE)),iY env.cells a acc=Z b->forIn a acc f=(pure b:Sem (List (Str×dE)))
 |[],acc,b,h=>by cases h;rfl
 |(n,k)::r,acc,b,h=>by
  rw[bF,hf];unfold iY at h;split at h
  ·rename_i d;rw[ak d];obtain⟨c,e,h⟩:=oB1.mp h;have:cellOf env n=pure c:=by unfold cellOf;rw[e]
   rw[this,pure_bind,pure_bind];exact vz f hf r _ b h
  ·rename_i d;rw[aj d,pure_bind];exact vz f hf r _ b h
theorem Bj{scope:dS}{env:Env}{cl:List (Str×dE)}(h:iY env.cells scope.names []=Z cl):closureFor scope env=pure cl:=by
 simp only[closureFor];rw[vz (env:=env) _ (λn k a=>by cases hk:k == NameKind.free<;>simp[hk]) scope.names [] cl h];rfl
theorem vy{a:List (Str×dE)}:∀{b:List (Str×NameKind)} {acc d:List (Str×dE)},iY a b acc=Z d->(∀x c,acc.lookup x=Z c->a.lookup x=Z c) -> ∀x c,d.lookup x=Z c->a.lookup x=Z c
 |[],acc,d,h,ha=>by cases h;exact ha
 |(n,k)::r,acc,d,h,ha=>by
  unfold iY at h;split at h
  ·obtain⟨c,e,h⟩:=oB1.mp h;refine vy h λx g q=>?_;rw[bG]at q;split at q
   ·rename_i f;cases q;rw[beq_iff_eq.mp f];exact e
   ·exact ha x g q
  ·exact vy h ha
theorem nj{b:List (Str×dE)}{x:Str}:∀{a:List (Str×NameKind)} {acc d:List (Str×dE)},iY b a acc=Z d->(a.lookup x=Z .free\/(acc.lookup x).isSome=M)->(d.lookup x).isSome=M
 |[],acc,d,h,ha=>by
  cases h;rcases ha with q|q
  ·cases q
  ·exact q
 |(n,k)::r,acc,d,h,ha=>by
  unfold iY at h;split at h
  ·obtain⟨c,e,h⟩:=oB1.mp h;refine nj h ?_;rcases ha with q|q
   ·rw[bG]at q;split at q
    ·rename_i f;right;rw[bG,f];rfl
    ·exact .inl q
   ·right;rw[bG];split
    ·rfl
    ·exact q
  ·rename_i g;refine nj h ?_;rcases ha with q|q
   ·rw[bG]at q;split at q
    ·cases q;exact absurd O g
    ·exact .inl q
   ·exact .inr q
theorem gr{x:Str}{c:dE}:∀{a:List (Str×NameKind)} {n:Nat} {acc:List (Str×dE)},(cellsFrom n a acc).lookup x=Z c->(n<=c/\(x,c)∈cellsFrom n a [])\/acc.lookup x=Z c
 |[],_,_,h=>.inr h
 |(y,k)::r,n,acc,h=>by
  unfold cellsFrom at h ⊢;split at h
  ·rename_i b;rw [if_pos b];have app:∀ (a:List (Str×NameKind)) (m:Nat) (acc:List (Str×dE)),cellsFrom m a acc=cellsFrom m a []++acc:=by
    intro a
    induction a with
    |nil=>intro m acc;rfl
    |cons p r ih=>
     obtain⟨z,q⟩:=p;intro m acc;unfold cellsFrom;split
     ·rw[ih _ ((z,m)::acc),ih _ [(z,m)],bH];rfl
     ·exact ih m acc
   rcases gr h with⟨h1,h2⟩|h1
   ·refine .inl ⟨by lia,?_⟩;rw[app];exact aH _ h2
   ·rw[bG]at h1;split at h1
    ·rename_i d;cases h1;refine .inl ⟨nR1 _,?_⟩;rw[app,beq_iff_eq.mp d];exact mA1 _ mS1
    ·exact .inr h1
  ·rename_i b;rw[aj b];exact gr h
theorem o9{x:Str}{c:dE}{n:Nat}{acc:List (Str×dE)}{a:List (Str×NameKind)}(hx:a.lookup x=Z .cell)(h:(cellsFrom n a acc).lookup x=Z c):n<=c:=by
 have app:∀(a:List (Str×NameKind)) (m:Nat) (acc:List (Str×dE)),cellsFrom m a acc=cellsFrom m a []++acc:=by
  intro a
  induction a with
  |nil=>intro m acc;rfl
  |cons p r ih=>
   obtain⟨z,q⟩:=p;intro m acc;unfold cellsFrom;split
   ·rw[ih _ ((z,m)::acc),ih _ [(z,m)],bH];rfl
   ·exact ih m acc
 rw[app,List.lookup_append]at h;have q:=PySem.W.cellsFrom_some a n [] (.inl hx);obtain⟨b,e⟩:=aQ.mp q;rw[e]at h;cases h;rcases gr e with⟨h1,_⟩|h1
 ·exact h1
 ·cases h1
theorem jV {ao:Model}{A:dG}{E:dB->dD->Prop}{s:dD}{scope:dS}{globals:dE}{c:List (Str×dE)}{qual:Str}{func:Option dE}{code:dB}{env:Env}{b:dE}{Q:Env->dD->Prop}
  (d:Q {scope,locals:=s.heap.objs.size,globals,cells:=cellsFrom (s.heap.objs.size+1) scope.names c,qual,func,code:=env.code,frame:=env.frame,builtins:=env.builtins}
   {s with heap:=pushCells (s.heap.push {cls:=.type "dict",data:=.dict #[]}) scope.names}):
  dM ao A (newFunctionEnv scope globals c [] qual func code (Z env) b) Q E s:=by
 simp only[newFunctionEnv,Option.isSome_some,if_true];refine wB1 (wpAny_alloc ?_);refine wB1 (wpAny_layCells _ (λname a cells=>by cases hkc:a == NameKind.cell<;>simp[hkc]) _ _ _ _ ?_);rw[show({s with heap:=s.heap.push {cls:=.type "dict",data:=.dict #[]}}:dD).heap.objs.size=s.heap.objs.size+1 from hZ1 ..];refine wB1 ?_;rw[List.forIn_nil];exact wP1 (wP1 d)
noncomputable def cxC(X:Cx)(scope:dS)(cl:List (Str×dE))(T:List Str)(keep:List Nat)(s:dD)(H:Hp)(fp:List dE):Cx where
 prog:=X.prog
 w:=X.w
 K:=X.K
 mg:=X.mg
 base:=X.base
 A:=X.A
 N:=T++keep.map λi=>X.N.getD i (Str.ofString "")
 s₀:=s
 H₀:=H
 env:=compEnvC scope (cellsFrom (s.heap.objs.size+1) scope.names cl) s.heap.objs.size X.env
 outer:=X.stack
 stack:=X.stack
 ex:=fp
 fn:=λx=>scope.names.lookup x == Z .cell
 calm:=X.calm
 pn:=[]
 xe:=λ_ _=>False
noncomputable def rH(k:Nat)(keep:List Nat)(σ:L2.St):L2.St:=aP k Y++keep.map λi=>(σ[i]?).join
theorem jf{env:Env}{x:Str}:∀ {a:List (Str×NameKind)},
  (a.map λ(n,k)=>if(k == NameKind.free&&env.scope.kind == .function&&env.kindOf n == Z .cell)then(n,NameKind.cell)else(n,k)).lookup x =
   (a.lookup x).map λk=>if(k == NameKind.free&&env.scope.kind == .function&&env.kindOf x == Z .cell)then NameKind.cell else k
 |[]=>rfl
 |(n,k)::r=>by
  show List.lookup x ((if(k == NameKind.free&&env.scope.kind == .function&&env.kindOf n == Z .cell)=M then(n,NameKind.cell)else(n,k))::_)=_;cases hx:x == n with
  |true=>
   have e:=beq_iff_eq.mp hx;subst e;by_cases hc:(k == NameKind.free&&env.scope.kind == .function&&env.kindOf x == Z .cell)=M
   ·rw[ak hc,bG,hx,bG,hx];simp only[oP1,ak hc]
   ·rw[aj hc,bG,hx,bG,hx];simp only[oP1,aj hc]
  |false=>
   have ih:=@jf env x r;by_cases hc:(k == NameKind.free&&env.scope.kind == .function&&env.kindOf n == Z .cell)=M
   ·rw[ak hc,bG,hx,bG,hx];exact ih
   ·rw[aj hc,bG,hx,bG,hx];exact ih
structure Ho (X:Cx)(scope:dS)(T:List Str)(keep:List Nat):Prop where
 kind:scope.kind = .function
 names:∀x∈scope.names,x.2 = .local->scope.names.lookup x.1=some .local
 free:∀i∈keep,∃x,X.N[i]?=some x/\scope.names.lookup x=some .free/\(X.env.kindOf x=some .cell\/X.env.kindOf x=some .free)/\(x,NameKind.cell)∉scope.names
theorem tG{X:Cx}{ag:List (dE×Obj)}{σ:L2.St}{H:Hp}{s:dD}{scope:dS}{t:List (Str×dE)}{T:List Str}{keep:List Nat}{D:List dE}(I:Inv X ag σ H s)(C:Ho X scope T keep)(B:iY X.env.cells scope.names []=some t)(hf:∀b∈D,jP X ag H b)(K:∀b∈D,∃o,s.heap.get? b=some o):
  Inv (cxC X scope t T keep s H D) [] (rH T.length keep σ) H {s with heap:=pushCells (s.heap.push {cls:=.type "dict",data:=.dict #[]}) scope.names}:=by
 have kept:∀b o,s.heap.get? b=Z o->(pushCells (s.heap.push {cls:=.type "dict",data:=.dict #[]}) scope.names).get? b=Z o:=λb o e=>pushCells_keeps _ _ b o (hP1 _ e);have A:=cellsFrom_ok scope.names (s.heap.push {cls:=.type "dict",data:=.dict #[]}) (s.heap.objs.size+1) [] ⟨λ_ _ hm=>(nomatch hm),List.Pairwise.nil⟩ (by rw[hZ1];exact nR1 _);rw[hZ1]at A;have L:=vy B (λx c q=>by cases q)
 -- a cell of the block: its own or an elder one
 have d:∀x c,(cellsFrom (s.heap.objs.size+1) scope.names t).lookup x=Z c->(s.heap.objs.size+1<=c/\(x,c)∈cellsFrom (s.heap.objs.size+1) scope.names [])\/X.env.cells.lookup x=Z c:=λx c h=>by
  rcases gr h with h1|h1
  ·exact .inl h1
  ·exact .inr (L x c h1)
 have g:∀x c,X.env.cells.lookup x=Z c->c<s.heap.objs.size:=λx c e=>by
  obtain⟨v,z⟩:=I.cell x c e;exact z.lt
 have w:∀b∈D,b<s.heap.objs.size:=λb l=>by
  obtain⟨o,e⟩:=K b l;exact hL1 e
 have fst:∀b∈D,b∉frs X.stack:=λb l z=>by
  rcases aF.mp (I.stkSub b z)with q|q
  ·exact(hf b l).2.1 q
  ·exact(hf b l).2.2.1 q
 have kindOf:∀x,(cxC X scope t T keep s H D).env.kindOf x=(scope.names.lookup x).map λk=>if(k == NameKind.free&&X.env.scope.kind == .function&&X.env.kindOf x == Z .cell)then NameKind.cell else k:=λx=>jf
 refine⟨⟨I.ok.mod,C.kind,I.ok.glob,I.ok.blt,nR1 _,λx y c h1 h2=>?_,λx E=>?_,λx c h1 h2=>?_,I.ok.hd,I.ok.frames,.inl O,λb l=>⟨nN1 (w b l),λx c h z=>?_⟩,λb o e=>I.bs b o e,aC I.ok.bsz I.sz,λb o e l=>?_,fst,I.stack,I.stkFree⟩,
  rfl,I.bare,Un.kept kept,⟨λ_=>Y,(Heap.Ns.new s.heap (.type "dict")).keeps (pushCells_keeps _ _),λi x v h1 h2 h3=>?_⟩,λx c h=>?_,I.hok.fresh (nR1 _),λx c h=>?_,λp U=>absurd (show p∈([]:List (dE×Obj))from U) (by simp),I.hok.kept kept,?_⟩
 ·rcases d x c h1 with⟨a1,a2⟩|a1<;>rcases d y c h2 with⟨b1,b2⟩|b1
  ·exact name_of_addr A.apart a2 b2
  ·exact absurd (bI (bJ a1) (g y c b1)) (az _)
  ·exact absurd (bI (bJ b1) (g x c a1)) (az _)
  ·exact I.ok.inj x y c a1 b1
 ·have F:scope.names.lookup x=some .cell\/scope.names.lookup x=some .free:=by
   rw[kindOf x]at E;cases e:scope.names.lookup x with
   |none=>rw[e]at E;rcases E with z|z<;>cases z
   |some k=>
    rw[e]at E;simp only[oP1]at E;cases k<;>simp_all
  have:((cellsFrom (s.heap.objs.size+1) scope.names t).lookup x).isSome=M:=by
   rcases F with z|z
   ·exact PySem.W.cellsFrom_some _ _ _ (.inl z)
   ·exact PySem.W.cellsFrom_some _ _ _ (.inr (nj B (.inl z)))
  exact aQ.mp this
 ·have f:scope.names.lookup x=Z .cell:=by simpa[cxC]using h1
  have:=o9 f h2;exact aC (aX _) this
 ·subst z;rcases d x c h with⟨a1,_⟩|a1
  ·exact absurd (bI (bJ a1) (w c l)) (az _)
  ·exact(hf c l).2.2.2.2.1 x c a1 O
 ·rcases(hf b l).2.2.2.1 with z|z
  ·exact I.ok.noex b o e z
  ·exact absurd (nL1 (hL1 e) (aC I.ok.bsz z)) (az _)
 ·-- a name of the block that has a value:one of the outer text's
  have hi:T.length<=i:=by
   refine a0 λhi=>?_;unfold rH at h2;rw[gL1 (by rw[lR1];exact hi),aS]at h2;split at h2<;>cases h2
  unfold rH at h2;rw[gR1 (by rw[lR1];exact hi),lR1,gP1]at h2;obtain⟨j,Q,h2⟩:=oM1.mp h2;have f:X.N.getD j (Str.ofString "")=x:=by
   have f:(T++keep.map λi=>X.N.getD i (Str.ofString ""))[i]?=Z x:=h1;rw[gR1 hi,gP1,Q]at f;exact Option.some.inj f
  obtain⟨y,P,au,ky,wq⟩:=C.free j (gM1 Q);have am:y=x:=by rw[<- f,bK,P];rfl
  subst am;have G:σ[j]?=Z (Z v):=by
   cases e:σ[j]? with
   |none=>rw[e]at h2;cases h2
   |some o=>rw[e]at h2;cases h2;rfl
  obtain⟨m,hn,hl⟩:=I.loc;obtain⟨u,V,aq⟩:=hl j y v P G (by
   rcases ky with z|z
   ·exact .inr (.inl z)
   ·exact .inr (.inr z))
  refine⟨u,V,?_⟩;rcases aq with⟨z,_⟩|⟨_,c,W,zc⟩
  ·rcases ky with q|q<;>(rw[z]at q;cases q)
  ·right;refine⟨?_,c,?_,zc.keeps kept⟩
   ·rw[kindOf,au];simp only[oP1];split
    ·exact .inl O
    ·exact .inr O
   ·obtain⟨c',S⟩:=aQ.mp (PySem.W.cellsFrom_some scope.names (s.heap.objs.size+1) t (.inr (nj B (.inl au))):((cellsFrom (s.heap.objs.size+1) scope.names t).lookup y).isSome=M);have N:(cellsFrom (s.heap.objs.size+1) scope.names t).lookup y=Z c':=S;rcases d y c' N with⟨a1,a2⟩|a1
    ·-- an own cell of that name:its kind would be cell
     exfalso;have:∀(names:List (Str×NameKind)) (n:Nat),(y,c')∈cellsFrom n names []->(y,NameKind.cell)∈names:=by
      have app:∀(names:List (Str×NameKind)) (m:Nat) (acc:List (Str×dE)),cellsFrom m names acc=cellsFrom m names []++acc:=by
       intro names
       induction names with
       |nil=>intro m acc;rfl
       |cons p r ih=>
        obtain⟨z,q⟩:=p;intro m acc;unfold cellsFrom;split
        ·rw[ih _ ((z,m)::acc),ih _ [(z,m)],bH];rfl
        ·exact ih m acc
      intro names
      induction names with
      |nil=>intro n h;cases h
      |cons p r ih=>
       obtain⟨z,q⟩:=p;intro n h;unfold cellsFrom at h;split at h
       ·rename_i R;rw[app]at h;rcases aG.mp h with h|h
        ·exact mC1 _ (ih _ h)
        ·have:(y,c')=(z,n):=by simpa using h
         cases this;have ao:q=NameKind.cell:=by simpa using R
         subst ao;exact mS1
       ·exact mC1 _ (ih _ h)
     exact wq (this _ _ a2)
    ·rw[W]at a1;cases a1;exact N
 ·rcases d x c h with⟨a1,a2⟩|a1
  ·exact⟨_,(A.empty x c a2).1⟩
  ·obtain⟨v,z⟩:=I.cell x c a1;exact⟨v,z.keeps kept⟩
 ·rcases d x c h with⟨a1,a2⟩|a1
  ·exact I.hok.fresh (bJ a1)
  ·exact I.freeC x c a1
 ·show(rH T.length keep σ).length=(T++keep.map λi=>X.N.getD i (Str.ofString "")).length;unfold rH;rw[lA1,lA1,lR1,lM1,lM1]
noncomputable def kw(p:Pos)(tg:Expr)(ifs:List Expr)(it:dB)(env:Env)(emit:Sem Unit)(c:Code):Sem PySem.Fin:=do
 standAt p
 match<-pyNext it with
 |none=>pure (.done .next)
 |some v=>
  letOwnedTupleGo tg it v
  assign tg env v
  let mut ok:=M
  for c in ifs do
   if ok then ok<-isTrue c env (eval c env)
  if ok then emit
  again c
noncomputable def mD(elt:Expr)(acc:dB)(env:Env):Sem Unit:=do let _<-call (.builtin "list.append") [acc,<- eval elt env]
noncomputable def qh(e:Expr)(iter:Expr)(acc:dB)(env:Env):Sem Unit:=do
 let x<-eval iter env
 standAt iter.pos
 let x<-foldedSetIterable iter env x
 let _<-runOwn (.compStart e 1 (<- holding [x] (pyIter x)) acc env) env
theorem uI(elt tg iter:Expr)(ifs:List Expr)(scope:dS)(pos:Pos)(it acc:dB)(env:Env):
  compTurn (.ListComp elt [⟨tg,iter,ifs,0⟩] scope pos) 0 it acc env=kw iter.pos tg ifs it env (mD elt acc env) (.compLoop (.ListComp elt [⟨tg,iter,ifs,0⟩] scope pos) 0 it acc env):=by rfl
noncomputable def D6(p:Pos)(tg:Expr)(ifs:List Expr)(it:dB)(env:Env)(e iter:Expr)(acc:dB)(c:Code):Sem PySem.Fin:=do
 standAt p
 match<-pyNext it with
 |none=>pure (.done .next)
 |some v=>
  letOwnedTupleGo tg it v
  assign tg env v
  let mut ok:=M
  for c in ifs do
   if ok then ok<-isTrue c env (eval c env)
  if ok then
   let x<-eval iter env
   standAt iter.pos
   let x<-foldedSetIterable iter env x
   let _<-runOwn (.compStart e 1 (<- holding [x] (pyIter x)) acc env) env
  again c
theorem B7(p:Pos)(tg:Expr)(ifs:List Expr)(it:dB)(env:Env)(e iter:Expr)(acc:dB)(c:Code):D6 p tg ifs it env e iter acc c=kw p tg ifs it env (qh e iter acc env) c:=by
 unfold D6 kw qh;simp only[bind_assoc,pure_bind]
theorem EJ(elt tg iter tg2 iter2:Expr)(ifs ifs2:List Expr)(scope:dS)(pos:Pos)(it acc:dB)(env:Env):
  compTurn (.ListComp elt [⟨tg,iter,ifs,0⟩,⟨tg2,iter2,ifs2,0⟩] scope pos) 0 it acc env =
   kw iter.pos tg ifs it env (qh (.ListComp elt [⟨tg,iter,ifs,0⟩,⟨tg2,iter2,ifs2,0⟩] scope pos) iter2 acc env) (.compLoop (.ListComp elt [⟨tg,iter,ifs,0⟩,⟨tg2,iter2,ifs2,0⟩] scope pos) 0 it acc env):=by
 rw[<- B7];rfl
theorem EI(elt tg iter tg2 iter2:Expr)(ifs ifs2:List Expr)(scope:dS)(pos:Pos)(it acc:dB)(env:Env):
  compTurn (.ListComp elt [⟨tg,iter,ifs,0⟩,⟨tg2,iter2,ifs2,0⟩] scope pos) 1 it acc env =
   kw iter2.pos tg2 ifs2 it env (mD elt acc env) (.compLoop (.ListComp elt [⟨tg,iter,ifs,0⟩,⟨tg2,iter2,ifs2,0⟩] scope pos) 1 it acc env):=by rfl
def oP(X:Cx)(ifs:List Expr)(t:TT):Prop:=
 ∀(ag:List (dE×Obj)) (s:dD) (σ:L2.St) (H:Hp) (Q:Bool->Hp->Prop),Inv X ag σ H s->t σ H Q ->
  dM (model X.prog X.w) X.A (forIn ifs M λc r=>if r=M then do let ok<-isTrue c X.env (eval c X.env);pure (ForInStep.yield ok)else pure (ForInStep.yield r)) (TP X ag σ Q) X.xe s
theorem zN{X:Cx}:oP X [] (fun σ H Q=>Q M H):=λag s σ H Q I h=>wpAny_tests_nil ⟨H,I,h⟩
theorem zM{X:Cx}{c:Expr}{t:TT}(h:PT X c t):oP X [c] t:=λag s σ H Q I q=>wpAny_tests_one (h ag s σ H Q I q)
def PU(X:Cx)(m:Sem Unit)(t:TS):Prop:=
 ∀(ag:List (dE×Obj)) (s:dD) (σ:L2.St) (H:Hp) (E:i0),Inv X ag σ H s->t E σ H->dM (model X.prog X.w) X.A m (λ_ s'=>∃ σ' H',Inv X ag σ' H' s'/\E.nx σ' H') X.xe s
theorem l6{X:Cx}(hx:X.xe=fun _ _=>False)(hc:X.calm=true){elt:Expr}{c:List Comprehension}{scope:dS}{pos p:Pos}{d:Nat}{tg:Expr}{ifs:List Expr}{acc:dB}{emit:Sem Unit}{am:It}{t:List dE}{it:dE}{au:Nat->dP->Prop}{g:TG}{ti:TT}{tb:TS}(eq:compTurn (.ListComp elt c scope pos) d (.ref it) acc X.env=kw p tg ifs (.ref it) X.env emit (.compLoop (.ListComp elt c scope pos) d (.ref it) acc X.env))(T:vI X.prog X.w X.K tg am t it au)(hg:PG X tg g)(hi:oP X ifs ti)(he:PU X emit tb){ag:List (dE×Obj)}{s:dD}{σ:L2.St}{H:Hp}{D:i0}(I:Inv X ag σ H s)(st:au 0 s.heap)(f2:∀b∈t,jP X ag H b)(h:∃W:Nat->Nat->L2.St->Hp->Prop,(∃m,W 0 m σ H) /\ ∀i m σ H,W i m σ H ->
   (am.stop i H/\D.nx σ H)\/(am.go i H /\ ∃N:L2.St->Hp->Prop,(∀a H',N a H' -> ∃P,P<m/\W (i+1) P a H') /\ ∀x H',am.yld i H x H'->g x σ H' λv H2=>ti v H2 λb z=>if b=M then tb {D with nx:=N} v z else N v z)):
  dN (model X.prog X.w) X.A (.compLoop (.ListComp elt c scope pos) d (.ref it) acc X.env) (λr s'=>match r with | .ok _=>∃a H',Inv X ag a H' s'/\D.nx a H' | .error _=>False) s:=by
 obtain⟨W,⟨m0,w0⟩,F⟩:=h;have k:∀{H':Hp},(∀b∈t,H' b=Y) -> ∀b∈t,jP X ag H' b:=λhn b l=>⟨hn b l,(f2 b l).2⟩;refine codeAny_loop O (λn s'=>∃i a H',Inv X ag a H' s'/\au i s'.heap/\(∀b∈t,H' b=Y)/\W i n a H') ?_ m0 ⟨0,σ,H,I,st,λb l=>(f2 b l).1,w0⟩;rintro n S ⟨i,f,z,I3,ao,G,w3⟩;show dM _ _ ((compTurn (.ListComp elt c scope pos) d (.ref it) acc X.env).onRaise (λx=>do noteFrame x X.env;theTreesLotGoes x)) _ _ S;refine wpAny_noted ?_;rw[eq];have C:∀{α:Type} {m:Sem α} {Q:α->dD->Prop} {s:dD} {E:dB->dD->Prop},dM (model X.prog X.w) X.A m Q X.xe s->dM (model X.prog X.w) X.A m Q E s:=λh=>by
  rw[hx]at h;exact wpAny_mono h (λ_ _ q=>q) λ_ _ q=>q.elim
 unfold kw;refine wB1 (wpAny_standAt (wB1 ?_));rcases F i n f z w3 with⟨K,qn⟩|⟨go,N,hN,step⟩
 ·refine C (fh (T.done X O O O hc i ag S f z X.xe I3 (k G) ao K) λr s4 ⟨U,I4⟩=>?_);subst U;exact wP1 ⟨f,z,I4,qn⟩
 ·refine C (fh (T.item X rfl rfl rfl hc i ag S f z X.xe I3 (k G) ao go) fun r s4 ⟨u,U,h4⟩=>?_);subst U;refine wB1 (C (fh h4 fun _ wq ⟨x,H5,I5,r5,y5,y,R⟩=>?_));have V:=I5.pinned (k R) (T.obj _ _ y);refine wB1 (C (fh (hg _ wq f H5 x u _ V r5 (step x H5 y5)) fun _ s6 ⟨L,H6,I6,q6⟩=>?_));refine wB1 (C (fh (hi _ s6 L H6 _ I6 q6) fun ok B ⟨w,A,aq⟩=>?_));have again':∀ {j:L2.St} {w:Hp} {B:dD},Inv X (ag++nR t wq.heap) j w B->N j w -> ∃ m,m<n /\ ∃ i a H',Inv X ag a H' B/\au i B.heap/\(∀ b∈t,H' b=none)/\W i m a H':=fun {j w B} A n7=>by
   obtain⟨P,hm,w7⟩:=hN j w n7;refine⟨P,hm,i+1,j,w,A.unpinned,T.keep _ _ _ y λb l o e=>(A.pin (b,o) (mA1 _ (mA1 _ (iQ l e)))).1,λb l=>?_,w7⟩;obtain⟨o,e,d⟩:=T.obj _ _ y b l;exact(A.pin (b,o) (mA1 _ (mA1 _ (iQ l e)))).2.1
  cases ok with
  |false=>exact wP1 ⟨O,again' A aq⟩
  |true=>exact wB1 (C (fh (he _ B L w _ A aq) λ_ s8 ⟨σ8,H8,I8,q8⟩=>wP1 ⟨O,again' I8 q8⟩))
noncomputable def px(p:dE)(te:TE):TS:=λD σ H=>te σ H λx H1=>∃xs,H1 p=Z (.lst xs)/\xs.length<dL/\D.nx σ (upd H1 p (.lst (xs++[x])))
theorem m5{X:Cx}{elt:Expr}{te:TE}(h:PE X elt te)(p:dE):PU X (mD elt (.ref p) X.env) (px p te):=by
 intro ag s σ H E I q;unfold mD;refine wB1 (fh (h ag s σ H _ I q) λu g ⟨x,H1,i,c,xs,f,a,b⟩=>?_);refine wB1 (fh (pQ ag g σ H1 (.ref p) [x] (.ref p) [u] (λ_ H'=>E.nx σ H') i O (.cons c .nil) ⟨p,xs,x,O,O,f,a,b⟩) λ_ j ⟨_,H2,e,_,d⟩=>?_);exact wP1 ⟨σ,H2,e,d⟩
noncomputable def zm(am:It)(g:TG)(ti:TT)(tb:TS):TS:=λD σ H=>∃W:Nat->Nat->L2.St->Hp->Prop,(∃m,W 0 m σ H) /\ ∀i m σ H,W i m σ H ->
 (am.stop i H/\D.nx σ H)\/(am.go i H /\ ∃N:L2.St->Hp->Prop,(∀ σ' H',N σ' H' -> ∃m',m'<m/\W (i+1) m' σ' H') /\ ∀x H',am.yld i H x H'->g x σ H' fun σ2 H2=>ti σ2 H2 λb H3=>if b=M then tb {D with nx:=N} σ2 H3 else N σ2 H3)
noncomputable def zl(wi:TI)(g:TG)(ti:TT)(tb:TS):TS:=λD σ H=>wi σ H λam H1=>zm am g ti tb D σ H1
theorem t8{prog:dF}{w:dH}{A:dG}{R:Result->dD->Prop}{s:dD}{elt tg iter tg2 iter2:Expr}{ifs ifs2:List Expr}{scope:dS}{pos:Pos}{it acc:dB}{env:Env}(h0:dN (model prog w) A (.compLoop (.ListComp elt [⟨tg,iter,ifs,0⟩,⟨tg2,iter2,ifs2,0⟩] scope pos) 1 it acc env) R s)(h:dM (model prog w) A (pyIter it) (fun a s'=>dN (model prog w) A (.compLoop (.ListComp elt [⟨tg,iter,ifs,0⟩,⟨tg2,iter2,ifs2,0⟩] scope pos) 1 a acc env) R s')
   (notedBy (model prog w) A env λx s'=>R (.error x) s') s):
  dN (model prog w) A (.compStart (.ListComp elt [⟨tg,iter,ifs,0⟩,⟨tg2,iter2,ifs2,0⟩] scope pos) 1 it acc env) R s:=by
 refine codeAny_of_tree ?_;show dM _ _ ((compStart (.ListComp elt [⟨tg,iter,ifs,0⟩,⟨tg2,iter2,ifs2,0⟩] scope pos) 1 it acc env).onRaise (λx=>do noteFrame x env;standAt theWindowsPlace)) _ _ s;refine wpAny_notedAt ?_;unfold compStart;show dM _ _ (ask >>= _) _ _ s;refine wB1 (wpAny_askSetting (wpAny_ite ?_));split
 ·first
   |exact wB1 (wP1 (wP1 (And.intro rfl h0)))
   |exact wP1 (And.intro rfl h0)
 ·first
   |exact wB1 (wpAny_rule (wB1 (wpAny_standAt (wB1 (wpAny_mono h (λa s' h'=>wP1 (And.intro O h')) λ_ _ x=>x)))))
   |(refine wB1 (wpAny_rule ?_);show dM _ _ (standAt iter2.pos >>= _) _ _ s;exact wB1 (wpAny_standAt (wB1 (wpAny_mono h (λa s' h'=>wP1 (And.intro O h')) λ_ _ x=>x))))
theorem Cq{X:Cx}(hx:X.xe=fun _ _=>False)(hc:X.calm=true){elt tg iter tg2 iter2:Expr}{ifs ifs2:List Expr}{scope:dS}{pos:Pos}{acc:dB}{i:TI}{g:TG}{ti:TT}{tb:TS}(hi:PI X tg2 iter2 i)(hg:PG X tg2 g)(hf:oP X ifs2 ti)(he:PU X (mD elt acc X.env) tb)(hs:∀x,foldedSetIterable iter2 X.env x=pure x:=by intro _;rfl):
  PU X (qh (.ListComp elt [⟨tg,iter,ifs,0⟩,⟨tg2,iter2,ifs2,0⟩] scope pos) iter2 acc X.env) (zl i g ti tb):=by
 intro ag s σ H E I q;unfold qh;refine wB1 (fh (hi ag s σ H _ I q) λv u h1=>?_);refine wB1 (wpAny_standAt (wB1 (wpAny_of_eq (hs v) (wB1 (wpAny_holding (fh h1 λj k h2=>?_))))));obtain⟨it,t,w,am,H2,rfl,n,T,b,p,m⟩:=h2;have a:=l6 hx hc (EI elt tg iter tg2 iter2 ifs ifs2 scope pos (.ref it) acc X.env) T hg hf he n b p m;refine wB1 (wpAny_runOwn (h:=Y) ?_);refine codeAny_mono (t8 a (T.self X.A 0 k _ _ b a)) λr s' d=>?_;cases r with
 |error e=>exact d.elim
 |ok f=>
  obtain⟨c,H',o,l⟩:=d;exact wP1 ⟨c,H',o,l⟩
theorem Un.sameBut{fs ex:List dE}{H H':Hp}{h h1 h2:dP}{c:dE}(u:Un fs ex H H' h h1)(hs:Heap.SameBut c h1 h2)(hc:h.get? c=Y):Un fs ex H H' h h2:=by
 have ne:∀{b o},h.get? b=Z o->b≠c:=λe z=>by rw[z,hc]at e;cases e
 refine⟨λb o e n d a=>(hs.2 b (ne e)).trans (u.keep b o e n d a),λb o e n d a=>?_,u.free,λb o e a=>?_,u.tups,u.frzs,u.tbls⟩
 ·obtain⟨f,q⟩:=u.slot b o e n d a;exact⟨f,(hs.2 b (ne e)).trans q⟩
 ·obtain⟨o',q⟩:=u.there b o e a;exact⟨o',(hs.2 b (ne e)).trans q⟩
noncomputable def vX(k:Nat)(keep:List Nat)(wi:TI)(g:TG)(ti:TT)(tb:dE->TS):TE:=fun σ H Q=>wi σ H λam H1=>∀p,H1 p=Y ->
 zm am g ti (tb p) {nx:=λ_ H'=>Q (.ref p) H',rt:=λ_ _=>False} (rH k keep σ) (upd H1 p (.lst []))
theorem wf{X:Cx}(hc:X.calm=true){elt tg iter:Expr}{ifs:List Expr}{rest:List Comprehension}{scope:dS}{pos:Pos}{T:List Str}{keep:List Nat}{k:List (Str×dE)}{ao:TI}{g:TG}{ti:TT}{tb:dE->TS}{emit:dB->Env->Sem Unit}(eq:∀it l i,compTurn (.ListComp elt (⟨tg,iter,ifs,0⟩::rest) scope pos) 0 it l i=kw iter.pos tg ifs it i (emit l i) (.compLoop (.ListComp elt (⟨tg,iter,ifs,0⟩::rest) scope pos) 0 it l i))(C:Ho X scope T keep)(y:iY X.env.cells scope.names []=some k)(hi:PI X tg iter ao)(hb:∀s H d p,PG (cxC X scope k T keep s H d) tg g/\oP (cxC X scope k T keep s H d) ifs ti/\PU (cxC X scope k T keep s H d) (emit (.ref p) (cxC X scope k T keep s H d).env) (tb p))(hs:∀x,foldedSetIterable iter X.env x=pure x:=by intro _;rfl):
  PE X (.ListComp elt (⟨tg,iter,ifs,0⟩::rest) scope pos) (vX T.length keep ao g ti tb):=by
 intro ag s σ H Q I h;rw[eval_ListComp];refine wpAny_comprehension_free (use:=Y) O hs (Bj y) C.kind C.names ?_;refine fh (hi ag s σ H _ I h) λv s1 h1=>fh h1 λR a h2=>?_;obtain⟨it,d,wq,am,H2,rfl,F,TT,w,L,au⟩:=h2;refine wO1 ?_;have E:Inv X ag σ (upd H2 a.heap.objs.size (.lst [])) {a with heap:=a.heap.push {cls:=.type "list",data:=.seq ([]:List dB).toArray}}:=F.lnew (t':=a.toks) .nil (bi _);have old:∀b∈d,∃o,a.heap.get? b=Z o:=λb hb=>by
  obtain⟨o,e,_⟩:=TT.obj 0 a.heap w b hb;exact⟨o,e⟩
 have D:∀b∈d,b≠a.heap.objs.size:=λb hb z=>by
  obtain⟨o,e⟩:=old b hb;have:=hL1 e;rw[z]at this;exact az _ this
 have B:∀b∈d,jP X ag (upd H2 a.heap.objs.size (.lst [])) b:=λb hb=>⟨by rw[dY (D b hb)];exact(L b hb).1,(L b hb).2⟩;have o3:∀b∈d,∃o,({a with heap:=a.heap.push {cls:=.type "list",data:=.seq ([]:List dB).toArray}}:dD).heap.get? b=Z o:=λb hb=>by
  obtain⟨o,e⟩:=old b hb;exact⟨o,hP1 _ e⟩
 have A:=tG E C y B o3;obtain⟨aq,P,he⟩:=hb {a with heap:=a.heap.push {cls:=.type "list",data:=.seq ([]:List dB).toArray}} (upd H2 a.heap.objs.size (.lst [])) d a.heap.objs.size;refine jV ?_;have N:∀b∈d,jP (cxC X scope k T keep {a with heap:=a.heap.push {cls:=.type "list",data:=.seq ([]:List dB).toArray}} (upd H2 a.heap.objs.size (.lst [])) d) [] (upd H2 a.heap.objs.size (.lst [])) b:=λb hb=>
  ⟨(B b hb).1,(A.ok.exf b hb).1,A.ok.exfs b hb,.inl hb,(A.ok.exf b hb).2,λp V=>absurd (show p∈([]:List (dE×Obj))from V) (by simp)⟩
 have t:wq 0 (pushCells ((a.heap.push {cls:=.type "list",data:=.seq ([]:List dB).toArray}).push {cls:=.type "dict",data:=.dict #[]}) scope.names):=
  TT.keep 0 a.heap _ w λb hb o e=>pushCells_keeps scope.names _ b o (hP1 _ (hP1 _ e))
 have j:=l6 (X:=cxC X scope k T keep {a with heap:=a.heap.push {cls:=.type "list",data:=.seq ([]:List dB).toArray}} (upd H2 a.heap.objs.size (.lst [])) d) O hc (eq (.ref it) (.ref a.heap.objs.size) _) TT aq P he A t N
  (au a.heap.objs.size (F.hok.fresh (nR1 _)))
 refine codeAny_mono (codeAny_compStart_list j (TT.self X.A 0 _ _ _ t j)) λr s' G=>?_;cases r with
 |error e=>exact G.elim
 |ok f=>
  obtain⟨S,H',n,U⟩:=G;obtain⟨m,W,_⟩:=id n.loc;refine⟨m,W,λh' u=>⟨.ref a.heap.objs.size,H',?_,O,U⟩⟩;refine E.call' (s':={s' with heap:=h'}) (ch:=d) n.os (Un.sameBut n.base u (Heap.get?_none_of_le (nR1 _))) (λb ob e=>?_) n.bare λb hb=>(B b hb).2.2.2 |> λz=>⟨z.1,(B b hb).2.1,z.2.1,z.2.2⟩
  refine(n.hok b ob e).stay (λc w' hc q=>(u.2 c ?_).trans q) (λ_ q=>q) λ_ _ q=>q;rintro rfl;have K:=n.free;rcases hc with rfl|hc
  ·exact nomatch K.symm.trans e
  ·exact nomatch K.symm.trans hc
section
variable{K:Fg1}{H:Hp}{mu:List dE}{S:Sto}{p:dE}{u:HO}{o:Ob}{n:Nat}
theorem Rd.ne{a:dE}{x:HO}(h:H p=Y)(q:Rd H a x):a≠p:=by
 rintro rfl;rcases q with q|⟨_,q⟩<;>(rw[h]at q;cases q)
theorem Ext.fresh(hp:H p=Y):Ext mu mu H (upd H p u) where
 pre:=bn
 old:=λa o h _=>by rw[dY (ew h hp)];exact h
 tup:=λa xs h=>by
  have ne:=Rd.ne hp h;rcases h with h|⟨b,h⟩
  ·exact .inl (by rw[dY ne];exact h)
  ·exact .inr ⟨b,by rw[dY ne];exact h⟩
 frz:=λa o x h=>by rw[dY (ew h hp)];exact h
 new:=λ_ h=>.inl h
theorem Ext.new_(hp:H p=Y):Ext mu (mu++[p]) H (upd H p u) where
 pre:=bv _ _
 old:=(Ext.fresh (mu:=mu) hp).old
 tup:=(Ext.fresh (mu:=mu) hp).tup
 frz:=(Ext.fresh (mu:=mu) hp).frz
 new:=λa h=>by
  rcases aG.mp h with h|h
  ·exact .inl h
  ·have:a=p:=by simpa using h
   subst this;exact .inr hp
theorem Sim.fresh(s:Sim K H mu S)(hp:H p=Y):Sim K (upd H p u) mu S:=
 ⟨s.len,s.nd,λk o a h1 h2=>(s.ob k o a h1 h2).keep (Ext.fresh hp) λb e=>by rw[dY (ew e hp)];exact e⟩
theorem Sim.notin(s:Sim K H mu S)(hp:H p=Y):p∉mu:=λh=>by
 obtain⟨o,e⟩:=s.here h;rw[hp]at e;cases e
theorem kk.more{a:dE}{mu':List dE}{H':Hp}(e:Ext mu mu' H H')(h:∀o,H a=Z o->H' a=Z o):∀{o:Ob},kk K H mu a o->kk K H' mu' a o
 | .lst _,⟨vs,q,r⟩=>⟨vs,h _ q,r.ext e⟩
 | .dct _,⟨ws,q,r⟩=>⟨ws,h _ q,KR.ext e r⟩
 | .dcT _,⟨ws,q,r,l⟩=>⟨ws,h _ q,KT.ext e r,l⟩
 | .iset _,q=>⟨h _ q.1,q.2⟩
 | .dcF _,⟨ws,⟨o,u,b,c⟩,r,l⟩=>⟨ws,⟨o,u,h _ b,c⟩,KT.ext e r,l⟩
 | .tst _,⟨ws,q,r⟩=>⟨ws,h _ q,KT.ext e r⟩
theorem Sim.new(s:Sim K H mu S)(hp:H p=Y)(ho:kk K (upd H p u) (mu++[p]) p o):Sim K (upd H p u) (mu++[p]) (S++[o]):=by
 refine⟨by rw[lA1,lA1,s.len];rfl,?_,λk o' a h1 h2=>?_⟩
 ·rw[bA];refine⟨s.nd,by simp,λa f b g e=>?_⟩;have:b=p:=by simpa using g
  subst this;subst e;exact s.notin hp f
 ·by_cases d:k<S.length
  ·rw[gL1 d]at h1;rw[gL1 (by rw[s.len];exact d)]at h2;exact(s.ob k o' a h1 h2).more (Ext.new_ hp) λh e=>by rw[dY (ew e hp)];exact e
  ·have c:k=S.length:=by
    have:=(gE1.mp h1).1;rw[lA1]at this;simp at this;lia
   subst c;rw[gR1 (nR1 _)]at h1;rw[<- s.len,gR1 (nR1 _)]at h2;simp at h1 h2;subst h1;subst h2;exact ho
theorem Ext.put{x:HO}(hp:H p=Z x)(hm:Mut (Z x))(b:p∈mu):Ext mu mu H (upd H p u) where
 pre:=bn
 old:=λa o h n=>by rw[dY (λe=>n (by rw[e];exact b))];exact h
 tup:=λa xs h=>by
  have ne:a≠p:=by
   rintro rfl;rcases h with h|⟨_,h⟩<;>(rw[hp]at h;cases h;exact hm)
  rcases h with h|⟨c,h⟩
  ·exact .inl (by rw[dY ne];exact h)
  ·exact .inr ⟨c,by rw[dY ne];exact h⟩
 frz:=λa o y h=>by
  rw[dY (λe=>?_)]
  ·exact h
  ·subst e;rw[hp]at h;cases h;exact hm
 new:=λ_ h=>.inl h
theorem Sim.put(s:Sim K H mu S){x:HO}(hn:mu[n]?=Z p)(hp:H p=Z x)(hm:Mut (Z x))(ho:kk K (upd H p u) mu p o):Sim K (upd H p u) mu (S.set n o):=by
 refine⟨by rw[aW];exact s.len,s.nd,λk o' a h1 h2=>?_⟩;by_cases b:n=k
 ·subst b;have c:n<S.length:=by
   have:=(gE1.mp h1).1
   rwa [aW]at this
  rw[aI c]at h1;cases h1;rw[hn]at h2;cases h2;exact ho
 ·rw [gS1 b] at h1;have ne:a≠p:=fun e=>by
   subst e;obtain⟨g,f⟩:=gE1.mp hn;obtain⟨h,d⟩:=gE1.mp h2;exact b ((List.getElem_inj s.nd).mp (f.trans d.symm))
  exact(s.ob k o' a h1 h2).keep (Ext.put hp hm (gM1 hn)) λi e=>by rw[dY ne];exact e
theorem Sim.lst(s:Sim K H mu S){ds:List D}{a:dE}(h:S[n]?=Z (.lst ds))(hn:mu[n]?=Z a):∃vs,H a=Z (.lst vs)/\d2 K H mu ds vs:=s.ob n _ a h hn
theorem Sim.dcT(s:Sim K H mu S){ks:List (TK×D)}{a:dE}(h:S[n]?=Z (.dcT ks))(hn:mu[n]?=Z a):∃ws,H a=Z (.ext (gf a ws))/\KT K H mu ks ws/\ws.length<=dL:=s.ob n _ a h hn
theorem Sim.dct(s:Sim K H mu S){ks:List (Key×D)}{a:dE}(h:S[n]?=Z (.dct ks))(hn:mu[n]?=Z a):∃ws,H a=Z (.dK ws)/\KR K H mu ks ws:=s.ob n _ a h hn
theorem Sim.newL(s:Sim K H mu S){ds:List D}{vs:List V}(r:d2 K H mu ds vs)(hp:H p=Y):Sim K (upd H p (.lst vs)) (mu++[p]) (S++[.lst ds]):=s.new hp ⟨vs,d8,r.ext (Ext.new_ hp)⟩
theorem Sim.putL(s:Sim K H mu S){ds:List D}{vs ws:List V}(r:d2 K H mu ds vs)(hn:mu[n]?=Z p)(hp:H p=Z (.lst ws)):Sim K (upd H p (.lst vs)) mu (S.set n (.lst ds)):=
 s.put hn hp trivial ⟨vs,d8,r.ext (Ext.put hp trivial (gM1 hn))⟩
end
theorem fQ{mu:List dE}{S:Sto}(h:mu.length=S.length)(p:dE):(mu++[p])[S.length]?=Z p:=by
 rw[<- h,gR1 (nR1 _)];simp
noncomputable def eP (a:FA):FE:=λr S=>(a r S).bind λp=>if p.1.length<=dL then some (.tup p.1,p.2)else none
noncomputable def j8 (a:FA):FE:=λr S=>(a r S).bind λp=>if p.1.length<=dL then some (.ref p.2.length,p.2++[.lst p.1])else none
section
variable{X:Cx}{es:List Expr}{pos:Pos}{a:FA}
theorem Gm{x1}(h:MA X es a):ME X (.Tuple es x1 pos) (eP a):=eR (Fv h) <| by
 rintro σ H Q ⟨r,mu,S,d,l,f,g,b,hc⟩;obtain⟨⟨ds,m⟩,j,b⟩:=oB1.mp b;dsimp only at b;split at b
 ·rename_i i;cases b;refine⟨r,mu,S,ds,_,f,g,j,λvs H1 mu1 x1 e k=>⟨by rw[<- e.length];exact i,λp c=>?_⟩⟩;exact hc _ _ mu1 (x1.trans (Ext.fresh c)) (.tup (j5.of d8) (e.ext (Ext.fresh c))) (k.fresh c)
 ·cases b
theorem Gs(h:MA X es a):ME X (.List es pos) (j8 a):=eR (FC h) <| by
 rintro σ H Q ⟨r,mu,S,d,m,g,i,b,hc⟩;obtain⟨⟨ds,n⟩,k,b⟩:=oB1.mp b;dsimp only at b;split at b
 ·rename_i j;cases b;refine⟨r,mu,S,ds,_,g,i,k,λvs H1 mu1 l c e=>⟨by rw[<- c.length];exact j,λp f=>?_⟩⟩;exact hc _ _ (mu1++[p]) (l.trans (Ext.new_ f)) (.ref (fQ e.len p)) (e.newL c f)
 ·cases b
end
noncomputable def rK(k:Nat)(keep:List Nat)(r:Ev):Ev:=aP k Y++keep.map λi=>(r[i]?).join
noncomputable def fz:FT:=λ_ S=>Z (M,S)
theorem Ei{K:Fg1}{H:Hp}{mu:List dE}{r:Ev}{σ:L2.St}(k:Nat)(keep:List Nat)(h:fB K H mu r σ):fB K H mu (rK k keep r) (rH k keep σ):=by
 refine⟨by unfold rK rH;rw[lA1,lA1,lM1,lM1,lR1,lR1],λi d e=>?_⟩;unfold rK at e;unfold rH;by_cases hi:i<k
 ·rw[gL1 (by rw[lR1];exact hi),aS]at e;split at e<;>cases e
 ·rw [gR1 (by rw [lR1];lia),lR1,gP1] at e;rw [gR1 (by rw [lR1];lia),lR1,gP1];obtain ⟨j,f,e⟩:=oM1.mp e;rw [f];have b:r[j]? = some (some d):=by
   cases q:r[j]? with
   |none=>rw[q]at e;cases e
   |some o=>rw[q]at e;cases e;rfl
  obtain⟨v,c,a⟩:=h.val j d b;exact⟨v,by rw[oP1,c];rfl,a⟩
section
variable{X:Cx}
theorem zO{ifs:List Expr}{t t':L2.TT}(h:oP X ifs t)(i:∀ σ H Q,t' σ H Q->t σ H Q):oP X ifs t':=λag s σ H Q I q=>h ag s σ H Q I (i σ H Q q)
theorem C3:oP X [] (xz X.K fz):=zO zN fun σ H Q ⟨r,mu,S,b,d,e,c,a,hc⟩=>by cases a;exact hc H mu (.refl _ _) c
theorem C2{c:Expr}{t:FT}(h:MT X c t):oP X [c] (xz X.K t):=zM h
end
open PySem.AutoSeq1 (wpAny_loadPart')
def SIt(b:Bool)(h:dP)(it a:dE)(i:Nat):Prop:=match b with
 |true=>h.IsListIter it a i
 |false=>h.IsTupleIter it a i
def SCo(b:Bool)(h:dP)(a:dE)(xs:Array dB):Prop:=match b with
 |true=>h.IsList a xs
 |false=>h.IsTuple a xs
theorem SIt.to{b:Bool}{h h':dP}{it a:dE}{i:Nat}(x:SIt b h it a i)(k:∀o,h.get? it=Z o->h'.get? it=Z o):SIt b h' it a i:=by
 cases b<;>(obtain⟨o,e,r⟩:=x;exact⟨o,k o e,r⟩)
theorem SIt.rec_{b:Bool}{h:dP}{it a:dE}{i:Nat}(x:SIt b h it a i):∃o,h.get? it=Z o /\ ∀v,o.data ≠ .cell v:=by
 cases b<;>(obtain⟨o,e,c,d⟩:=x;exact⟨o,e,λv z=>by rw[d]at z;cases z⟩)
theorem SCo.to{b:Bool}{h h':dP}{a:dE}{xs:Array dB}(x:SCo b h a xs)(k:∀o,h.get? a=Z o->h'.get? a=Z o):SCo b h' a xs:=by
 cases b<;>(obtain⟨o,e,r⟩:=x;exact⟨o,k o e,r⟩)
noncomputable def iy(b:Bool)(a:dE):Obj:=match b with
 |true=>{cls:=.type "list_iterator",data:=.fields #[.ref a,.int 0 0]}
 |false=>{cls:=.type "tuple_iterator",data:=.fields #[.ref a,.int 0 0]}
section
variable{prog:dF}{w:dH}{A:dG}{E:dB->dD->Prop}{s:dD}
theorem vY{b:Bool}{h:dP}{it a:dE}(e:h.get? it=Z (iy b a)):SIt b h it a 0:=by
 cases b<;>exact⟨_,e,O,O⟩
theorem nE{b:Bool}{a:dE}{xs:Array dB}{Q:dB->dD->Prop}(x:SCo b s.heap a xs)(h:Q (.ref s.heap.objs.size) {s with heap:=s.heap.push (iy b a)}):dM (model prog w) A (pyIter (.ref a)) Q E s:=by
 cases b
 ·exact wpAny_pyIter_tuple x h
 ·exact wpAny_pyIter_list x h
theorem Ae{it l:dE}{i:Nat}{xs:Array dB}{x:dB}{Q:dB->dD->Prop}(ti:s.heap.IsTupleIter it l i)(tl:s.heap.IsTuple l xs)(hx:xs[i]? = Z x)(e:∀h',h'.IsTupleIter it l (i+1)->Heap.SameBut it s.heap h'->Q x {s with heap:=h'}):dM (model prog w) A (Builtin.SmallTypes.nextOf (.ref it)) Q E s:=by
 obtain⟨o,b,hc,a⟩:=id ti;obtain⟨g,d,_,f,c⟩:=tl;unfold Builtin.SmallTypes.nextOf;refine wB1 (wpAny_callSpecial?_slot (name:=Str.ofString "__next__") ti.typeIs F.slot_tuple_iterator_next (wE1 F.slot_tuple_iterator_next ti.typeIs F.entry_tuple_iterator_next ?_ (F.args_tuple_iterator_next_1 _)));show dM _ _ (field (.ref it) 0 >>= _) _ _ s;refine wB1 (wpAny_field b a (x:=.ref l) O ?_);show dM _ _ (if(Value.ref l == Value.none)=M then _ else _) _ _ s;rw[aj (show¬ ((Value.ref l == Value.none)=M)from aK)];show dM _ _ (field (.ref it) 1 >>= _) _ _ s;refine wB1 (wpAny_field b a (x:=.int i 0) O ?_);show dM _ _ (seqItems? (.ref l) >>= _) _ _ s;refine wB1 (wpAny_seqItems d c ?_);simp only[Int.toNat_natCast,hx];refine wB1 (wpAny_setField b a (by simp) (wP1 ⟨x,O,wP1 (e _ ⟨_,hW1 _ b (Obj.isFreed_of_fields (Obj.data_mapFields a _)),(Obj.cls_mapFields ..).trans hc,by rw[Obj.data_mapFields a];simp[rawInt]⟩ (Heap.SameBut.update ..))⟩))
theorem rB {it l:dE}{i:Nat}{xs:Array dB}{Q:dB->dD->Prop}(g:A.handled=none)(ti:s.heap.IsTupleIter it l i)(tl:s.heap.IsTuple l xs)(hx:xs[i]? = none)
  (h:∀h' e,Heap.ExtBut it s.heap h'->(∃o,h'.get? e=Z o/\o.cls = .type "StopIteration")->E (.ref e) {s with heap:=h'}):dM (model prog w) A (Builtin.SmallTypes.nextOf (.ref it)) Q E s:=by
 obtain⟨o,b,hc,d⟩:=id ti;obtain⟨k,f,_,j,c⟩:=tl;unfold Builtin.SmallTypes.nextOf;refine wB1 (wpAny_callSpecial?_slot (name:=Str.ofString "__next__") ti.typeIs F.slot_tuple_iterator_next (wE1 F.slot_tuple_iterator_next ti.typeIs F.entry_tuple_iterator_next ?_ (F.args_tuple_iterator_next_1 _)));show dM _ _ (field (.ref it) 0 >>= _) _ _ s;refine wB1 (wpAny_field b d (x:=.ref l) O ?_);show dM _ _ (if(Value.ref l == Value.none)=M then _ else _) _ _ s;rw[aj (show¬ ((Value.ref l == Value.none)=M)from aK)];show dM _ _ (field (.ref it) 1 >>= _) _ _ s;refine wB1 (wpAny_field b d (x:=.int i 0) O ?_);show dM _ _ (seqItems? (.ref l) >>= _) _ _ s;refine wB1 (wpAny_seqItems f c ?_);simp only[Int.toNat_natCast,hx];refine wB1 (wpAny_rule (wB1 (wpAny_setField b d (by simp) ?_)));show dM _ _ (newExc (.type "StopIteration") [] >>= _) _ _ _;refine wB1 ?_;simp only[newExc,newTuple];refine wB1 (wO1 ?_ (by size_fits));refine wB1 (m:=firstArgMember _ _) (wpAny_of_eq (a:=Value.none) (by first|rfl|(simp only[firstArgMember];rfl)) ?_);refine wO1 ?_ (by size_fits);simp only[raiseNew];refine wB1 (wpAny_handled ?_)
 first|rw[show A.in1.handled=Y from g] | rw[g]
 refine wB1 (wP1 (wpAny_throw ?_));exact h _ _ (((Heap.SameBut.update ..).extBut.push _).push _) ⟨_,hS1 _ O,O⟩
theorem nY{b:Bool}{it l:dE}{i:Nat}{xs:Array dB}{x:dB}{Q:dB->dD->Prop}(ti:SIt b s.heap it l i)(tl:SCo b s.heap l xs)(hx:xs[i]? = Z x)(a:∀h',SIt b h' it l (i+1)->Heap.SameBut it s.heap h'->Q x {s with heap:=h'}):dM (model prog w) A (Builtin.SmallTypes.nextOf (.ref it)) Q E s:=by
 cases b
 ·exact Ae ti tl hx a
 ·exact wpAny_nextOf_list_item ti tl hx a
theorem kY {b:Bool}{it l:dE}{i:Nat}{xs:Array dB}{Q:dB->dD->Prop}(c:A.handled=none)(ti:SIt b s.heap it l i)(tl:SCo b s.heap l xs)(hx:xs[i]? = none)
  (a:∀h' e,Heap.ExtBut it s.heap h'->(∃o,h'.get? e=Z o/\o.cls = .type "StopIteration")->E (.ref e) {s with heap:=h'}):dM (model prog w) A (Builtin.SmallTypes.nextOf (.ref it)) Q E s:=by
 cases b
 ·exact rB c ti tl hx a
 ·exact wpAny_nextOf_list_end c ti tl hx a
end
open PySem.AutoSeq1 (wpAny_loadPart')
structure KF (z ti to i1 i2:dE):Prop where
 a1:ti≠z
 a2:to≠z
 a3:i1≠z
 a4:i2≠z
 a5:ti≠to
 a6:ti≠i1
 a7:ti≠i2
 a8:to≠i1
 a9:to≠i2
 a10:i1≠i2
section
variable{prog:dF}{w:dH}{A:dG}{E:dB->dD->Prop}{s:dD}{b1 b2:Bool}
theorem SCo.ne{b:Bool}{h:dP}{a c:dE}{xs:Array dB}{o:Obj}(x:SCo b h a xs)(e:h.get? c=Z o)(n:∀ys k,o.data ≠ .seq ys k):a≠c:=by
 rintro rfl;cases b<;>(obtain⟨o',f,g,k,d⟩:=x;rw[e]at f;cases f;exact n _ _ d)
theorem SCo.ne_it{b f:Bool}{h:dP}{a it l:dE}{xs:Array dB}{i:Nat}(x:SCo b h a xs)(y:SIt f h it l i):a≠it:=by
 cases f<;>(obtain⟨o,e,c,d⟩:=y;exact x.ne e λys k z=>by rw[d]at z;cases z)
theorem yW{z ti to i1 i u r:dE}{P ao:Nat}{xs ys:Array dB}{x y a b:dB}{Q:Option dB->dD->Prop}(D:KF z ti to i1 i)(hz:IsZip s.heap z ti to .none)(hti:IsPair s.heap ti (.ref i1) (.ref i))(W:IsPair s.heap to a b)(n1:u≠to)(n2:r≠to)(h1:SIt b1 s.heap i1 u P)(h2:SIt b2 s.heap i r ao)(c1:SCo b1 s.heap u xs)(V:SCo b2 s.heap r ys)(hx:xs[P]?=some x)(hy:ys[ao]?=some y)(hQ:∀h',IsZip h' z ti to (rawInt s.heap.objs.size)->IsPair h' to x y->SIt b1 h' i1 u (P+1)->SIt b2 h' i r (ao+1)->IsPair h' s.heap.objs.size x y->h'.objs.size=s.heap.objs.size+1 ->
   (∀c o,c≠z->c≠to->c≠i1->c≠i->s.heap.get? c=Z o->h'.get? c=Z o)->Q (Z (.ref s.heap.objs.size)) {s with heap:=h'}):dM (model prog w) A (pyNext (.ref z)) Q E s:=by
 have hT:s.TypeIs (.ref z) "zip":=⟨_,hz,O⟩;have wq:u≠z:=c1.ne hz λ_ _ q=>by cases q
 have R:r≠z:=V.ne hz λ_ _ q=>by cases q
 have am:r≠i1:=V.ne_it h1;unfold pyNext;refine wB1 (wpAny_attempt (wpAny_callSpecial?_slot (name:=Str.ofString "__next__") hT F.slot_zip_next (wE1 F.slot_zip_next hT F.entry_zip_next ?_ (F.args_zip_next_1 _))));show dM _ _ (field (.ref z) 2 >>= _) _ _ _;refine wB1 (wpAny_field hz O (x:=.bool J) O ?_);show dM _ _ (field (.ref z) 3 >>= _) _ _ _;refine wB1 (wpAny_field hz O (x:=.ref ti) O ?_);refine wB1 (wpAny_seqItems hti O ?_);show dM _ _ (Builtin.SmallTypes.ownedTupleIsFree (.ref z) >>= _) _ _ _;refine wB1 ?_;unfold Builtin.SmallTypes.ownedTupleIsFree;refine wB1 (wpAny_field hz O (x:=.none) O (wP1 ?_));simp only[if_true];refine wB1 (wpAny_rule ?_);refine wB1 (wpAny_field hz O (x:=.ref to) O ?_);refine wB1 (wS1 hz (by simp) λg1 m n=>?_);replace m:IsZip g1 z ti to .ellipsis:=m;refine wB1 ?_;simp only[bL,List.zipIdx_nil,bF,List.forIn_nil];refine wB1 (wB1 (wpAny_onRaise ?_));show dM _ _ (Builtin.SmallTypes.nextOf (.ref i1) >>= _) _ _ _
 refine wB1 (nY (h1.to λo q=>n.extBut _ _ D.a3 q) (c1.to λo q=>n.extBut _ _ wq q) hx λg2 h12 v=>wP1 ?_);have j:IsPair g2 to a b:=v.extBut _ _ D.a8 (n.extBut _ _ D.a2 W);refine wB1 (wpAny_seqItems j O ?_);refine wB1 (wpAny_updateSeq_pair j λg3 f t=>?_);replace f:IsPair g3 to x b:=f;refine wB1 (wpAny_letGo (wP1 ?_));refine wB1 (wB1 (wpAny_onRaise ?_));show dM _ _ (Builtin.SmallTypes.nextOf (.ref i) >>= _) _ _ _
 refine wB1 (nY (h2.to λo q=>t.extBut _ _ D.a9.symm (v.extBut _ _ D.a10.symm (n.extBut _ _ D.a4 q))) (V.to λo q=>t.extBut _ _ n2 (v.extBut _ _ am (n.extBut _ _ R q))) hy λg4 T L=>wP1 ?_);have k:IsPair g4 to x b:=L.extBut _ _ D.a9 f;refine wB1 (wpAny_seqItems k O ?_);refine wB1 (wpAny_updateSeq_pair k λd e C=>?_);replace e:IsPair d to x y:=e;refine wB1 (wpAny_letGo (wP1 (wP1 ?_)));refine wB1 (wpAny_seqItems e O ?_);refine wB1 (wpAny_newTuple ?_);have K:d.objs.size=s.heap.objs.size:=by rw[C.1,L.1,t.1,v.1,n.1]
 have B:IsZip d z ti to .ellipsis:=C.extBut _ _ D.a2.symm (L.extBut _ _ D.a4.symm (t.extBut _ _ D.a2.symm (v.extBut _ _ D.a3.symm m)));have U:∀c o,c≠z->c≠to->c≠i1->c≠i->s.heap.get? c=Z o->d.get? c=Z o:=λc o l N aq S q=>C.extBut _ _ N (L.extBut _ _ S (t.extBut _ _ N (v.extBut _ _ aq (n.extBut _ _ l q))));have h15:SIt b1 d i1 u (P+1):=h12.to λo q=>C.extBut _ _ D.a8.symm (L.extBut _ _ D.a10 (t.extBut _ _ D.a8.symm q));have h25:SIt b2 d i r (ao+1):=T.to λo q=>C.extBut _ _ D.a9.symm q;have h:z<d.objs.size:=hL1 B;show dM _ _ (Builtin.SmallTypes.ownedTupleHandOut (.ref z) (.ref d.objs.size) >>= _) _ _ _;refine wB1 ?_;unfold Builtin.SmallTypes.ownedTupleHandOut;have hz6:IsZip (d.push {cls:=.type "tuple",data:=.seq #[x,y]}) z ti to .ellipsis:=hP1 _ B;refine wB1 (wS1 hz6 (by simp) λg7 p s7=>?_);replace p:IsZip g7 z ti to (rawInt d.objs.size):=p;refine wS1 p (by simp) λG g X=>?_;replace g:IsZip G z ti to (rawInt d.objs.size):=g;have au:∀c o,c≠z->d.get? c=Z o->G.get? c=Z o:=λc o l q=>X.extBut _ _ l (s7.extBut _ _ l (hP1 _ q));have I:IsPair G d.objs.size x y:=X.extBut _ _ (nG1 h) (s7.extBut _ _ (nG1 h) (hS1 _ O));have H:G.objs.size=d.objs.size+1:=by rw[X.1,s7.1,hZ1]
 rw[K]at g I H;refine wP1 ⟨_,O,wP1 ?_⟩;show Q (Z (.ref d.objs.size)) _;rw[K]
 exact hQ G g (au _ _ D.a2 e) (h15.to λo q=>au _ o D.a3 q) (h25.to λo q=>au _ o D.a4 q) I H λc o l N aq S q=>au c o l (U c o l N aq S q)
theorem BV{z ti to i1 r C B:dE}{P H:Nat}{xs ys:Array dB}{a b:dB}{Q:Option dB->dD->Prop}(aq:A.handled=Y)(D:KF z ti to i1 r)(hz:IsZip s.heap z ti to .none)(au:IsPair s.heap ti (.ref i1) (.ref r))(K:IsPair s.heap to a b)(n1:C≠to)(n2:B≠to)(h1:SIt b1 s.heap i1 C P)(h2:SIt b2 s.heap r B H)(G:SCo b1 s.heap C xs)(am:SCo b2 s.heap B ys)(v:xs[P]?=Y\/ys[H]?=Y)(X:∀h',(∀c o,c≠z->c≠to->c≠i1->c≠r->s.heap.get? c=Z o->h'.get? c=Z o)->Q Y {s with heap:=h'}):dM (model prog w) A (pyNext (.ref z)) Q E s:=by
 have V:s.TypeIs (.ref z) "zip":=⟨_,hz,O⟩;have u:C≠z:=G.ne hz λ_ _ q=>by cases q
 have I:B≠z:=am.ne hz λ_ _ q=>by cases q
 have y:B≠i1:=am.ne_it h1;unfold pyNext;refine wB1 (wpAny_attempt (wpAny_callSpecial?_slot (name:=Str.ofString "__next__") V F.slot_zip_next (wE1 F.slot_zip_next V F.entry_zip_next ?_ (F.args_zip_next_1 _))));show dM _ _ (field (.ref z) 2 >>= _) _ _ _;refine wB1 (wpAny_field hz O (x:=.bool J) O ?_);show dM _ _ (field (.ref z) 3 >>= _) _ _ _;refine wB1 (wpAny_field hz O (x:=.ref ti) O ?_);refine wB1 (wpAny_seqItems au O ?_);show dM _ _ (Builtin.SmallTypes.ownedTupleIsFree (.ref z) >>= _) _ _ _;refine wB1 ?_;unfold Builtin.SmallTypes.ownedTupleIsFree;refine wB1 (wpAny_field hz O (x:=.none) O (wP1 ?_));simp only[if_true];refine wB1 (wpAny_rule ?_);refine wB1 (wpAny_field hz O (x:=.ref to) O ?_);refine wB1 (wS1 hz (by simp) λg1 g i=>?_);replace g:IsZip g1 z ti to .ellipsis:=g;refine wB1 ?_;simp only[bL,List.zipIdx_nil,bF,List.forIn_nil];refine wB1 (wB1 (wpAny_onRaise ?_));show dM _ _ (Builtin.SmallTypes.nextOf (.ref i1) >>= _) _ _ _
 cases hx:xs[P]? with
 |none=>
  refine wB1 (kY aq (h1.to λo q=>i.extBut _ _ D.a3 q) (G.to λo q=>i.extBut _ _ u q) hx λL e j R=>?_);obtain⟨N,d,f⟩:=R;have p:IsZip L z ti to .ellipsis:=j _ _ D.a3.symm g;have m:e≠z:=λq=>by subst q;rw[p]at d;cases d;simp at f
  refine wS1 p (by simp) λU _ l=>?_;refine wB1 (wpAny_isInstance (T:="StopIteration") (b:=M) ⟨N,l.extBut _ _ m d,f⟩ isSubtype_stop ?_);exact wP1 (X U λc o n _ ao _ q=>l.extBut _ _ n (j _ _ ao (i.extBut _ _ n q)))
 |some x=>
  have hy:ys[H]?=Y:=by rcases v with h|h;rw[hx]at h;cases h;exact h
  refine wB1 (nY (h1.to λo q=>i.extBut _ _ D.a3 q) (G.to λo q=>i.extBut _ _ u q) hx λL h12 j=>wP1 ?_);have k:IsPair L to a b:=j.extBut _ _ D.a8 (i.extBut _ _ D.a2 K);refine wB1 (wpAny_seqItems k O ?_);refine wB1 (wpAny_updateSeq_pair k λU W l=>?_);refine wB1 (wpAny_letGo (wP1 ?_));refine wB1 (wB1 (wpAny_onRaise ?_));show dM _ _ (Builtin.SmallTypes.nextOf (.ref r) >>= _) _ _ _
  refine wB1 (kY aq (h2.to λo q=>l.extBut _ _ D.a9.symm (j.extBut _ _ D.a10.symm (i.extBut _ _ D.a4 q))) (am.to λo q=>l.extBut _ _ n2 (j.extBut _ _ y (i.extBut _ _ I q))) hy λg4 e wq R=>?_);obtain⟨N,d,f⟩:=R;have t:IsZip g4 z ti to .ellipsis:=wq _ _ D.a4.symm (l.extBut _ _ D.a2.symm (j.extBut _ _ D.a3.symm g));have m:e≠z:=λq=>by subst q;rw[t]at d;cases d;simp at f
  refine wS1 t (by simp) λg5 _ S=>?_;refine wB1 (wpAny_isInstance (T:="StopIteration") (b:=M) ⟨N,S.extBut _ _ m d,f⟩ isSubtype_stop ?_);exact wP1 (X g5 λc o n q2 ao q4 q=>S.extBut _ _ n (wq _ _ q4 (l.extBut _ _ q2 (j.extBut _ _ ao (i.extBut _ _ n q)))))
noncomputable def zH(b1 b2:Bool)(h:dP)(l1 l2:dE):dP:=((((h.push (iy b1 l1)).push (iy b2 l2)).push {cls:=.type "tuple",data:=.seq #[.ref h.objs.size,.ref (h.objs.size+1)]}).push {cls:=.type "tuple",data:=.seq #[.none,.none]}).push
 {cls:=.type "zip",data:=.fields #[.none,.bool J,.bool J,.ref (h.objs.size+2),.ref (h.objs.size+3)]}
theorem BU(a b:dE)(xs ys:Array dB):Meets (Builtin.«zip.__new__» ⟨[.type "zip",.ref a,.ref b],[]⟩) (λ_ R s=>SCo b1 s.heap a xs/\SCo b2 s.heap b ys/\R (.ok (.ret (.ref (s.heap.objs.size+4)))) {s with heap:=zH b1 b2 s.heap a b}):=
 .of_wp λprog w A R s h=>by
  obtain⟨c,g,d,tk,f⟩:=s;obtain⟨i,k,h⟩:=h;have e:=sub_zip
  have j:SCo b1 (Shared.heap ⟨c,g,d,tk,f⟩) a xs:=i;have l:SCo b2 (Shared.heap ⟨c.push (iy b1 a),g,d,tk,f⟩) b ys:=k.to λo q=>hP1 _ q
  wp_walk using nE j,nE l
  refine⟨_,O,?_⟩;have m:(c.push (iy b1 a)).objs.size=c.objs.size+1:=hZ1 ..
  simp only[hZ1,zH]at h ⊢;exact h
theorem yX{b d:dE}{xs ys:Array dB}{Q:dB->dD->Prop}(j:SCo b1 s.heap b xs)(k:SCo b2 s.heap d ys)(h:∀h',IsZip h' (s.heap.objs.size+4) (s.heap.objs.size+2) (s.heap.objs.size+3) .none->IsPair h' (s.heap.objs.size+2) (.ref s.heap.objs.size) (.ref (s.heap.objs.size+1))->IsPair h' (s.heap.objs.size+3) .none .none ->
   SIt b1 h' s.heap.objs.size b 0->SIt b2 h' (s.heap.objs.size+1) d 0->h'.objs.size=s.heap.objs.size+5->(∀c o,s.heap.get? c=Z o->h'.get? c=Z o)->Q (.ref (s.heap.objs.size+4)) {s with heap:=h'}):
  dM (model prog w) A (call (.type "zip") [.ref b,.ref d]) Q E s:=by
 refine callType_new F.called_zip (by decide) (F.typeCall_zip_2 _ _) (F.newCall_zip_2 _ _) (λg=>F.args_object_init_3 g _ _) F.entry_zip_new (BU (b1:=b1) (b2:=b2) b d xs ys) ⟨j,k,?_⟩;have a:∀{h:dP} {o:Obj} {c:dE} {u:Obj},h.get? c=Z u->(h.push o).get? c=Z u:=λq=>hP1 _ q;have at_:∀{h:dP} {o:Obj} {n:Nat},h.objs.size=n->o.isFreed=J->(h.push o).get? n=Z o:=λe f=>by rw[<- e];exact hS1 _ f
 have v:(iy b1 b).isFreed=J:=by cases b1<;>rfl
 have r:(iy b2 d).isFreed=J:=by cases b2<;>rfl
 have t:(zH b1 b2 s.heap b d).get? s.heap.objs.size=Z (iy b1 b):=a (a (a (a (at_ O v))));have p:(zH b1 b2 s.heap b d).get? (s.heap.objs.size+1)=Z (iy b2 d):=a (a (a (at_ (by simp only[hZ1]) r)));have m:IsPair (zH b1 b2 s.heap b d) (s.heap.objs.size+2) (.ref s.heap.objs.size) (.ref (s.heap.objs.size+1)):=a (a (at_ (by simp only[hZ1]) O));have l:IsPair (zH b1 b2 s.heap b d) (s.heap.objs.size+3) .none .none:=a (at_ (by simp only[hZ1]) O);have i:IsZip (zH b1 b2 s.heap b d) (s.heap.objs.size+4) (s.heap.objs.size+2) (s.heap.objs.size+3) .none:=at_ (by simp only[hZ1]) O;exact⟨⟨_,i,O⟩,h _ i m l (vY t) (vY p) (by simp only[zH,hZ1]) λc o q=>a (a (a (a (a q))))⟩
end
def vJ(K:Fg1)(b:Bool)(H:Hp)(a:dE)(xs:List V):Prop:=match b with
 |true=>mW K H a xs
 |false=>j5 K H a xs
section
variable{X:Cx}{ag:List (dE×Obj)}{σ:L2.St}{H:Hp}{s:dD}
theorem fm{b:Bool}{a:dE}{xs:List V}(I:Inv X ag σ H s)(h:vJ X.K b H a xs):∃c:List dB,ee xs c/\SCo b s.heap a c.toArray/\xs.length<=dL:=by
 cases b
 ·obtain⟨c,r,p,z⟩:=I.tuple h;exact⟨c,r,p,z⟩
 ·obtain⟨c,r,p,z⟩:=I.list h;exact⟨c,r,p.isList,z⟩
theorem qT{b:Bool}{a:dE}{xs ys:List V}(I:Inv X ag σ H s)(h:vJ X.K b H a xs)(h':vJ X.K b H a ys):xs=ys:=by
 cases b
 ·exact I.tuple_inj h h'
 ·exact I.list_inj h h'
theorem qS{b:Bool}{a c:dE}{xs:List V}(I:Inv X ag σ H s)(h:vJ X.K b H a xs)(f:jP X ag H c):a≠c:=by
 rintro rfl;have d:∀{o},X.K.lookup a=Z o->False:=λ{o} e=>by
  have g:=I.ok.mod.kin _ _ e;rcases f.2.2.2.1 with z|z
  ·exact I.ok.noex _ _ g z
  ·exact absurd (nL1 (hL1 g) (aC I.ok.bsz z)) (az _)
 cases b
 ·rcases h with(h|⟨_,h⟩)|⟨_,_,_,h,_⟩
  ·rw[f.1]at h;cases h
  ·rw[f.1]at h;cases h
  ·exact d h
 ·rcases h with(h|⟨_,h⟩)|⟨_,_,_,h,_⟩
  ·rw[f.1]at h;cases h
  ·rw[f.1]at h;cases h
  ·exact d h
theorem AL(I:Inv X ag σ H s){fp:List dE}(hf:∀ b∈fp,jP X ag H b){h':dP}{p:dE}{xs:List V}{its:List dB}{t':Nat}(hp:s.heap.objs.size<=p)(f:∀ b o,b∉fp->s.heap.get? b=Z o->h'.get? b=Z o)(k:IsTup h' p its.toArray)(l:ee xs its)(hz:xs.length<=dL):Inv X ag σ (upd H p (.tup xs)) {s with heap:=h',toks:=t'}:=by
 have d:H p=Y:=I.hok.fresh hp;have g:∀{b o},s.heap.get? b=Z o->b≠p:=λe=>nN1 (nL1 (hL1 e) hp);have h:∀{b u},H b=Z u->b∉fp:=λe z=>by rw[(hf _ z).1]at e;cases e
 refine I.step (g':=s.gens) (d':=s.drawn) (ch:=fp) (λb a=>⟨(hf b a).2.2.2.1,(hf b a).2.1,(hf b a).2.2.2.2.1,(hf b a).2.2.2.2.2⟩) (λb o _ _ hc e _=>f b o hc e) (λb o _ _ hc e _=>⟨o.slots,f b o hc e⟩) (λb o _ e n=>?_)
  (λb o hc e=>⟨o,f b o hc e⟩) (λb ys e=>?_) (λb o u e=>?_) (λb ps e=>⟨#[],?_⟩) (λm i=>?_) (λb u e=>?_) I.bare
 ·rw[dY (g e)];exact n
 ·rw[dY (ew e d)];exact e
 ·rw[dY (ew e d)];exact e
 ·rw[dY (ew e d),e];simp
 ·obtain⟨o,es,ep,j,r⟩:=i;exact⟨o,es,ep,f _ o (λz=>(hf _ z).2.1 O) j,r⟩
 ·by_cases a:b=p
  ·subst a;rw[d8]at e;cases e;exact⟨hz,its,l,k⟩
  ·rw[dY a]at e;refine(I.hok b u e).stay (λc v hc q=>f c v ?_ q) (λc q=>by rw[dY (ew q d)];exact q) λc ys q=>by rw[dY (ew q d)];exact q
   rcases hc with z|z
   ·rw[z];exact h e
   ·exact h z
theorem vg(I:Inv X ag σ H s){fp:List dE}(hf:∀b∈fp,jP X ag H b){h':dP}{t':Nat}(a:∀b o,b∉fp->s.heap.get? b=Z o->h'.get? b=Z o):Inv X ag σ H {s with heap:=h',toks:=t'}:=by
 have f:∀{b u},H b=Z u->b∉fp:=λe z=>by rw[(hf _ z).1]at e;cases e
 refine I.step (g':=s.gens) (d':=s.drawn) (ch:=fp) (λb d=>⟨(hf b d).2.2.2.1,(hf b d).2.1,(hf b d).2.2.2.2.1,(hf b d).2.2.2.2.2⟩) (λb o _ _ hc e _=>a b o hc e) (λb o _ _ hc e _=>⟨o.slots,a b o hc e⟩) (λb o _ e n=>n)
  (λb o hc e=>⟨o,a b o hc e⟩) (λb ys e=>e) (λb o u e=>e) (λb ps e=>⟨#[],by rw[e];simp⟩) (λm g=>?_) (λb u e=>?_) I.bare
 ·obtain⟨o,es,ep,h,r⟩:=g;exact⟨o,es,ep,a _ o (λz=>(hf _ z).2.1 O) h,r⟩
 ·refine(I.hok b u e).stay (λc v hc q=>a c v ?_ q) (λc q=>q) λc ys q=>q;rcases hc with z|z
  ·rw[z];exact f e
  ·exact f z
end
theorem y7:(2:Nat)<=dL:=by decide
noncomputable def K8(K:Fg1)(b1 b2:Bool)(a1 a2:dE):It:=
 ⟨λi H=>∃xs ys x y,vJ K b1 H a1 xs/\vJ K b2 H a2 ys/\xs[i]?=Z x/\ys[i]?=Z y,λi H x H'=>∃p v u,H p=Y/\x = .ref p/\H'=upd H p (.tup [v,u])/\(∀xs,vJ K b1 H a1 xs->xs[i]?=Z v) /\ ∀ys,vJ K b2 H a2 ys->ys[i]?=Z u,
  λi H=>∃xs ys,vJ K b1 H a1 xs/\vJ K b2 H a2 ys/\(xs.length<=i\/ys.length<=i)⟩
theorem y8{P:dF}{w:dH}{K:Fg1}{elts:List Expr}{k:Nat}{pos:Pos}(b1 b2:Bool)(a1 a2 z ti to p n:dE)(D:KF z ti to p n):vI P w K (.Tuple elts k pos) (K8 K b1 b2 a1 a2) [z,ti,to,p,n] z
  (λi h=>IsZip h z ti to .none/\IsPair h ti (.ref p) (.ref n)/\(∃u v,IsPair h to u v)/\SIt b1 h p a1 i/\SIt b2 h n a2 i) where
 mem:=by simp
 obj:=by
  rintro i h ⟨f,b,⟨u,v,j⟩,d,l⟩ c hc;simp only[aF,bM,or_false]at hc;rcases hc with rfl|rfl|rfl|rfl|rfl
  ·exact⟨_,f,λv q=>by cases q⟩
  ·exact⟨_,b,λv q=>by cases q⟩
  ·exact⟨_,j,λv q=>by cases q⟩
  ·exact d.rec_
  ·exact l.rec_
 keep:=λi h h' ⟨f,b,⟨u,v,j⟩,d,l⟩ G=>⟨G z (by simp) _ f,G ti (by simp) _ b,⟨u,v,G to (by simp) _ j⟩,d.to λo q=>G p (by simp) o q,l.to λo q=>G n (by simp) o q⟩
 item:=by
  intro X aq V L hc i ag s σ H E I g st T;subst aq V L;obtain⟨f,b,⟨u0,v0,j⟩,d,l⟩:=st;obtain⟨xs,ys,x,y,B,A,ex,wq⟩:=T;obtain⟨au,S,ao,hz⟩:=fm I B;obtain⟨F,m,t,am⟩:=fm I A;obtain⟨u,hu,ru⟩:=S.get ex;obtain⟨N,Q,U⟩:=m.get wq;refine yW D f b j (qS I B (g to (by simp))) (qS I A (g to (by simp))) d l ao t (x:=u) (y:=N) (by simpa using hu) (by simpa using Q) λh1 p1 p2 p3 p4 p5 p6 C=>?_;refine⟨.ref s.heap.objs.size,O,?_⟩;refine wpAny_letOwnedTupleGo_zip p1 λh2 z2 a=>?_;have lt:∀c∈[z,ti,to,p,n],c≠s.heap.objs.size:=λc hc e=>by
   obtain⟨o,eo⟩:∃o,s.heap.get? c=some o:=by
    simp only[aF,bM,or_false]at hc;rcases hc with rfl|rfl|rfl|rfl|rfl
    ·exact⟨_,f⟩
    ·exact⟨_,b⟩
    ·exact⟨_,j⟩
    ·obtain⟨o,e,_⟩:=d.rec_;exact⟨o,e⟩
    ·obtain⟨o,e,_⟩:=l.rec_;exact⟨o,e⟩
   rw[e]at eo;exact az _ (hL1 eo)
  have W:∀c o,c∉[z,ti,to,p,n]->s.heap.get? c=Z o->h2.get? c=Z o:=λc o hc q=>by
   simp only[aF,bM,or_false,not_or]at hc;exact a.extBut _ _ hc.1 (C c o hc.1 hc.2.2.1 hc.2.2.2.1 hc.2.2.2.2 q)
  have tp:IsTup h2 s.heap.objs.size [u,N].toArray:=⟨_,a.extBut _ _ (Ne.symm (lt z (by simp))) p5,O,_,O⟩;have I2:=AL I g (t':=s.toks) (nR1 _) W tp (xs:=[x,y]) (.cons ru (.cons U .nil)) y7;have hn:H s.heap.objs.size=Y:=I.hok.fresh (nR1 _);refine⟨.ref s.heap.objs.size,_,I2,O,⟨_,x,y,hn,O,O,λR r=>by rw[qT I r B];exact ex,λR r=>by rw[qT I r A];exact wq⟩,
   ⟨z2,a.extBut _ _ D.a1 (C _ _ D.a1 D.a5 D.a6 D.a7 b),⟨u,N,a.extBut _ _ D.a2 p2⟩,p3.to λo q=>a.extBut _ _ D.a3 q,p4.to λo q=>a.extBut _ _ D.a4 q⟩,λc hc=>?_⟩
  rw[dY (lt c hc)];exact(g c hc).1
 done:=by
  intro X aq V L hc i ag s σ H E I g st T;subst aq V L;obtain⟨f,b,⟨u0,v0,j⟩,d,l⟩:=st;obtain⟨xs,ys,B,A,hl⟩:=T;obtain⟨au,S,ao,hz⟩:=fm I B;obtain⟨F,m,t,am⟩:=fm I A;have l1:=S.length;have l2:=m.length;refine BV (I.ok.hd hc) D f b j (qS I B (g to (by simp))) (qS I A (g to (by simp))) d l ao t (by simp;lia) λh' eb=>⟨O,vg I (t':=s.toks) g λc o hc q=>?_⟩;simp only[aF,bM,or_false,not_or]at hc;exact eb c o hc.1 hc.2.2.1 hc.2.2.2.1 hc.2.2.2.2 q
 self:=λ_ _ _ _ _ ⟨st,_⟩ h=>wpAny_pyIter_zip st h
section
variable{X:Cx}{elts:List Expr}{k:Nat}{tpos:Pos}
noncomputable def Kv(K:Fg1)(ta:TA):TI:=fun σ H R=>ta σ H λvs H1=>∃a1 b1 a2 b2,vs=[.ref a1,.ref a2]/\(∃xs,vJ K b1 H1 a1 xs)/\(∃xs,vJ K b2 H1 a2 xs)/\R (K8 K b1 b2 a1 a2) H1
theorem Fp {a b:Expr}{ta:TA}{p pos:Pos}(hg:Gl X "zip")(hm:X.mg "zip"=none)(ha:PA X [a,b] ta)(hs:dJ [a,b] X.env=[(false,eval a X.env),(false,eval b X.env)]:=by rfl)(hs2:dJ [b] X.env=[(false,eval b X.env)]:=by rfl):
  PI X (.Tuple elts k tpos) (.Call (.Name "zip" p) [a,b] [] pos) (Kv X.K ta):=by
 intro ag s σ H R I h;refine Call_ (kb I hg hm boot_zip (PyProof.Rows.callWith_type1 (fh (ha pos ag s σ H _ I h) λP c ⟨vs,H1,g,K,t⟩=>?_) (by rw[hs,hs2]) (by rw[hs2];rfl)));obtain⟨o,b1,D,b2,e,⟨xs,am⟩,⟨ys,y⟩,q⟩:=t;subst e;cases K with
 |cons r i=>
  cases i with
  |cons A i=>
   cases i;cases r;cases A;obtain⟨C,N,x,Q⟩:=fm g am;obtain⟨n,w,j,v⟩:=fm g y;refine yX x j λh' m L u B F au G=>wpAny_pyIter_zip m ?_;have E:Inv X ag σ H1 {c with heap:=h'}:=g.kept (t':=c.toks) G;refine⟨c.heap.objs.size+4,[c.heap.objs.size+4,c.heap.objs.size+2,c.heap.objs.size+3,c.heap.objs.size,c.heap.objs.size+1],_,_,H1,O,E,y8 b1 b2 o D _ _ _ _ _ ?_,⟨m,L,⟨_,_,u⟩,B,F⟩,λd l=>?_,q⟩
   ·constructor<;>(intro z;have ao:((_:Nat)=_):=z;lia)
   ·have f:c.heap.objs.size<=d:=by
     simp only[aF,bM,or_false]at l;rcases l with rfl|rfl|rfl|rfl|rfl
     ·exact br _ _
     ·exact br _ _
     ·exact br _ _
     ·exact nR1 _
     ·exact br _ _
    exact g.fpOk f (g.hok.fresh f)
end
noncomputable def d4 (S:Sto):D->Option (Bool×List D)
 | .tup xs=>some (false,xs)
 | .rol xs=>some (true,xs)
 | .ref n=>match S[n]? with
  |some (.lst xs)=>some (true,xs)
  |_=>none
 |_=>none
noncomputable def jm(S:Sto):D->List (Nat×List D)
 | .ref n=>match S[n]? with
  |some (.lst xs)=>[(n,xs)]
  |_=>[]
 |_=>[]
section
variable{K:Fg1}{H:Hp}{mu:List dE}{S:Sto}
theorem d6{d:D}{v:V}{b:Bool}{xs:List D}(r:eH K H mu d v)(s:Sim K H mu S)(h:d4 S d=Z (b,xs)):∃a vs,v = .ref a/\vJ K b H a vs/\d2 K H mu xs vs:=by
 cases d with
 |tup ys=>cases h;cases r with|tup q t=>exact⟨_,_,rfl,q,t⟩
 |rol ys=>cases h;cases r with|rol q t=>exact⟨_,_,rfl,q.sq,t⟩
 |ref n=>
  rw[d4]at h;split at h
  ·rename_i ys e;cases h;cases r with
   |ref q=>
    obtain⟨vs,c,f⟩:=s.lst e q;exact⟨_,vs,O,mW.of c,f⟩
  ·cases h
 |_=>cases h
theorem jz{d:D}{a:dE}{b:Bool}{xs:List D}(r:eH K H mu d (.ref a))(s:Sim K H mu S)(h:d4 S d=some (b,xs)){H1:Hp}{mu1:List dE}{S1:Sto}(x:r6 mu mu1 H H1)(f:Sim K H1 mu1 S1)(ok:pM S1 (jm S d)=true):
  ∃vs,vJ K b H1 a vs/\d2 K H1 mu1 xs vs:=by
 have g:=r.exw x;have h1:d4 S1 d=Z (b,xs):=by
  cases d with
  |ref n=>
   rw[d4]at h;split at h
   ·rename_i ys e;cases h;rw[jm,e]at ok;dsimp only[pM]at ok;rw[bN]at ok;rw[d4];split at ok
    ·rename_i zs c
     first|rw[c,D.sames_eq ok] | rw[D.sames_eq ok]
    ·cases ok
   ·cases h
  |_=>exact h
 obtain⟨i,vs,e,q,t⟩:=d6 g f h1;cases e;exact⟨vs,q,t⟩
end
noncomputable def gz (m:FE):FI:=λr S=>(m r S).bind λp=>(d4 p.2 p.1).bind λq=>some (⟨q.2,jm p.2 p.1⟩,p.2)
noncomputable def K3:Nat->List D->List D
 |_,[]=>[]
 |n,d::ds=>.tup [.int n,d]::K3 (n+1) ds
noncomputable def LR (m:FA):FI:=λr S=>(m r S).bind λp=>match p.1 with
 |[d]=>(d4 p.2 d).bind λq=>some (⟨K3 0 q.2,jm p.2 d⟩,p.2)
 |_=>none
noncomputable def ux:List D->List D->List D
 |x::xs,y::ys=>.tup [x,y]::ux xs ys
 |_,_=>[]
noncomputable def GO(m:FA):FI:=λr S=>(m r S).bind λp=>match p.1 with
 |[d,e]=>(d4 p.2 d).bind λq=>(d4 p.2 e).bind λt=>Z (⟨ux q.2 t.2,jm p.2 d++jm p.2 e⟩,p.2)
 |_=>Y
noncomputable def gM(lo:Int):Nat->List D
 |0=>[]
 |n+1=>.int lo::gM (lo+1) n
noncomputable def vh (m:FA):FI:=λr S=>(m r S).bind λp=>match p.1 with
 |[.int j]=>if-(2^62)<=j/\j<2^62 then some (⟨gM 0 j.toNat,[]⟩,p.2)else none
 |_=>none
noncomputable def IM(m:FA):FI:=λr S=>(m r S).bind λp=>match p.1 with
 |[.int i,.int j]=>if-(2^62)<=i/\i<2^62 /\ -(2^62)<=j/\j<2^62 then Z (⟨gM i (j-i).toNat,[]⟩,p.2)else Y
 |_=>Y
theorem vO:∀(xs ys:List D) (i:Nat) (d:D),(ux xs ys)[i]?=Z d -> ∃x y,xs[i]?=Z x/\ys[i]?=Z y/\d = .tup [x,y]
 |[],_,i,d,h=>by simp[ux]at h
 |_::_,[],i,d,h=>by simp[ux]at h
 |x::xs,y::ys,0,d,h=>by simp[ux]at h;exact⟨x,y,O,O,h.symm⟩
 |x::xs,y::ys,i+1,d,h=>by
  rw[ux,gC1]at h;obtain⟨a,e,c,b,f⟩:=vO xs ys i d h;exact⟨a,e,by simpa using c,by simpa using b,f⟩
theorem vN:∀(xs ys:List D) (i:Nat),(ux xs ys).length<=i->xs.length<=i\/ys.length<=i
 |[],_,i,_=>.inl (bi _)
 |_::_,[],i,_=>.inr (bi _)
 |x::xs,y::ys,0,h=>by simp[ux]at h
 |x::xs,y::ys,i+1,h=>by
  rcases vN xs ys i (by simpa[ux]using h)with q|q
  ·exact .inl (by simpa using q)
  ·exact .inr (by simpa using q)
theorem sY:∀(n:Nat) (lo:Int) (i:Nat) (d:D),(gM lo n)[i]?=Z d->i<n/\d = .int (lo+i)
 |0,lo,i,d,h=>by simp[gM]at h
 |n+1,lo,0,d,h=>by simp[gM]at h;exact⟨Nat.succ_pos _,by rw[<- h];simp⟩
 |n+1,lo,i+1,d,h=>by
  rw[gM,gC1]at h;obtain⟨h1,h2⟩:=sY n (lo+1) i d h;refine⟨Nat.succ_lt_succ h1,?_⟩;rw[h2,show lo+1+(i:Int)=lo+((i+1:Nat):Int) by push_cast;lia]
theorem fY:∀(n:Nat) (lo:Int),(gM lo n).length=n
 |0,_=>rfl
 |n+1,lo=>by rw[gM,lC1,fY n]
theorem wl{S:Sto}:∀{c a:List (Nat×List D)},pM S (c++a)=M->pM S c=M/\pM S a=M
 |[],_,h=>⟨O,h⟩
 |(n,xs)::c,a,h=>by
  rw[bj,pM,bA1]at h;obtain⟨h1,h2⟩:=wl h.2;exact⟨by rw[pM,bA1];exact⟨h.1,h1⟩,h2⟩
section
variable{X:Cx}{tg:Expr}
theorem tE(K:Fg1)(lo:Int)(n:Nat)(mu:List dE)(H:Hp):ItR K (Jr lo n) ⟨gM lo n,[]⟩ mu H:=by
 intro i H1 mu1 e x s ok;refine⟨λd c=>?_,λh=>by rw[fY]at h;exact h⟩;obtain⟨h1,h2⟩:=sY n lo i d c;refine⟨h1,λy H2 ⟨a,b⟩=>?_⟩;subst a;subst b;subst h2;exact⟨.refl _ _,s,.int _⟩
theorem Gg{e:Expr}{m:FE}(h:ME X e m):MI X tg e (gz m):=rj (Ic (CB h) (Fq h)) <| by
 rintro σ H R ⟨r,mu,S,am,K,E,D,n,hc⟩;obtain⟨⟨d,I⟩,C,n⟩:=oB1.mp n;obtain⟨⟨b,xs⟩,o,n⟩:=oB1.mp n;cases n;cases b with
 |true=>
  left;refine⟨r,mu,S,d,_,E,D,C,λv H1 mu1 s j f=>?_⟩;obtain⟨a,vs,rfl,q,t⟩:=d6 j f o;refine⟨a,O,⟨vs,q⟩,hc _ H1 mu1 s (λi H2 A F u l ok=>?_) f⟩;obtain⟨ws,c,g⟩:=jz j f o u l ok;refine⟨λd p=>?_,λB=>⟨ws,c,by rw[<- g.length];exact B⟩⟩;obtain⟨v,k,x⟩:=g.get p;refine⟨⟨ws,v,c,k⟩,λy G ⟨w,z⟩=>?_⟩;subst w;have:=z ws c;rw[k]at this;cases this;exact⟨.refl _ _,l,x⟩
 |false=>
  right;refine⟨r,mu,S,d,_,E,D,C,λv H1 mu1 s j f=>?_⟩;obtain⟨a,vs,rfl,q,t⟩:=d6 j f o;refine⟨a,O,⟨vs,q⟩,hc _ H1 mu1 s (λi H2 A F u l ok=>?_) f⟩;obtain⟨ws,c,g⟩:=jz j f o u l ok;refine⟨λd p=>?_,λB=>⟨ws,c,by rw[<- g.length];exact B⟩⟩;obtain⟨v,k,x⟩:=g.get p;refine⟨⟨ws,v,c,k⟩,λy G ⟨w,z⟩=>?_⟩;subst w;have:=z ws c;rw[k]at this;cases this;exact⟨.refl _ _,l,x⟩
theorem sH{K:Fg1}{H:Hp}{mu:List dE}{d:D}{vs:List V}(r:d2 K H mu [d] vs):∃v,vs=[v]/\eH K H mu d v:=by
 cases r with|cons r t=>cases t;exact⟨_,O,r⟩
theorem sG{K:Fg1}{H:Hp}{mu:List dE}{d e:D}{vs:List V}(r:d2 K H mu [d,e] vs):∃v u,vs=[v,u]/\eH K H mu d v/\eH K H mu e u:=by
 cases r with|cons r t=>cases t with|cons q t=>cases t;exact⟨_,_,O,r,q⟩
theorem xW {a:Expr}{m:FA}{p pos:Pos}(hg:Gl X "range")(hm:X.mg "range"=Y)(ha:MA X [a] m)(hs:dJ [a] X.env=[(J,eval a X.env)]:=by rfl):MI X tg (.Call (.Name "range" p) [a] [] pos) (vh m):=
 rj (xN hg hm ha hs) <| by
  rintro σ H R ⟨r,mu,S,am,i,c,hs,hm,hc⟩;obtain⟨⟨ds,k⟩,e,hm⟩:=oB1.mp hm;dsimp only at hm;split at hm
  ·rename_i j;split at hm
   ·rename_i b;cases hm;refine⟨r,mu,S,_,_,c,hs,e,λvs H1 mu1 h d f=>?_⟩;obtain⟨v,rfl,g⟩:=sH d;cases g;exact⟨j,O,b.1,b.2,hc _ H1 mu1 h (tE _ _ _ _ _) f⟩
   ·cases hm
  ·cases hm
theorem xV {a b:Expr}{m:FA}{p pos:Pos}(hg:Gl X "range")(hm:X.mg "range"=Y)(ha:MA X [a,b] m)(hs:dJ [a,b] X.env=[(J,eval a X.env),(J,eval b X.env)]:=by rfl)(hs2:dJ [b] X.env=[(J,eval b X.env)]:=by rfl):MI X tg (.Call (.Name "range" p) [a,b] [] pos) (IM m):=
 rj (xM hg hm ha hs hs2) <| by
  rintro σ H R ⟨r,mu,S,am,n,c,hs,hm,hc⟩;obtain⟨⟨ds,o⟩,f,hm⟩:=oB1.mp hm;dsimp only at hm;split at hm
  ·rename_i i j;split at hm
   ·rename_i e;cases hm;refine⟨r,mu,S,_,_,c,hs,f,λvs H1 mu1 l d g=>?_⟩;obtain⟨v,u,rfl,h,k⟩:=sG d;cases h;cases k;exact⟨i,j,O,e,hc _ H1 mu1 l (tE _ _ _ _ _) g⟩
   ·cases hm
  ·cases hm
variable{elts:List Expr}{k:Nat}{tpos:Pos}
theorem Gf {a b:Expr}{m:FA}{p pos:Pos}(hg:Gl X "zip")(hm:X.mg "zip"=Y)(ha:MA X [a,b] m)(hs:dJ [a,b] X.env=[(J,eval a X.env),(J,eval b X.env)]:=by rfl)(hs2:dJ [b] X.env=[(J,eval b X.env)]:=by rfl):MI X (.Tuple elts k tpos) (.Call (.Name "zip" p) [a,b] [] pos) (GO m):=
 rj (Fp hg hm ha hs hs2) <| by
  rintro σ H R ⟨r,mu,S,am,S',he,hs,hm,hc⟩;obtain⟨⟨ds,S1⟩,P,hm⟩:=oB1.mp hm;dsimp only at hm;split at hm
  ·rename_i d e;obtain⟨⟨b1,xs⟩,x,hm⟩:=oB1.mp hm;obtain⟨⟨b2,ys⟩,F,hm⟩:=oB1.mp hm;cases hm;refine⟨r,mu,S,_,_,he,hs,P,λvs H1 mu1 Q wq f=>?_⟩;obtain⟨v,u,rfl,D,E⟩:=sG wq;obtain⟨a1,w,rfl,ao,t1⟩:=d6 D f x;obtain⟨a2,h,rfl,N,t2⟩:=d6 E f F;refine⟨a1,b1,a2,b2,O,⟨w,ao⟩,⟨h,N⟩,hc _ H1 mu1 Q (λi H2 W S2 B q ok=>?_) f⟩;obtain⟨s,o⟩:=wl ok;obtain⟨ws,n,A⟩:=jz D f x B q s;obtain⟨c,j,K⟩:=jz E f F B q o;refine⟨λd T=>?_,λhl=>⟨ws,c,n,j,?_⟩⟩
   ·obtain⟨x',y',ex,aq,rfl⟩:=vO xs ys i d T;obtain⟨v,G,l⟩:=A.get ex;obtain⟨u,I,t⟩:=K.get aq;refine⟨⟨ws,c,v,u,n,j,G,I⟩,λy H3 ⟨p,v',u',g,U,V,z3,au⟩=>?_⟩;have L:=z3 ws n;have C:=au c j;rw[G]at L;cases L;rw[I]at C;cases C;subst U;subst V;exact⟨Ext.fresh g,q.fresh g,.tup (j5.of d8) (.cons (l.ext (Ext.fresh g)) (.cons (t.ext (Ext.fresh g)) .nil))⟩
   ·rcases vN xs ys i hl with z|z
    ·exact .inl (by rw[<- A.length];exact z)
    ·exact .inr (by rw[<- K.length];exact z)
  ·cases hm
end
abbrev G1:=D->Sto->Option (D×Sto)
abbrev G2:=D->D->Sto->Option (D×Sto)
abbrev G3:=D->D->D->Sto->Option (D×Sto)
noncomputable def b1 (f:G1):FN:=λds S=>match ds with
 |[a]=>f a S
 |_=>none
noncomputable def b2 (f:G2):FN:=λds S=>match ds with
 |[a,b]=>f a b S
 |_=>none
noncomputable def b3 (f:G3):FN:=λds S=>match ds with
 |[a,b,c]=>f a b c S
 |_=>none
section
variable{X:Cx}{K:Fg1}{H:Hp}{Q:VK}
theorem pE{f:G2}{x y:V}(h:rN K (b2 f) [x,y] H Q):∃mu S d e r a,eH K H mu d x/\eH K H mu e y/\Sim K H mu S/\f d e S=Z (r,a)/\ph K mu H r a Q:=by
 obtain⟨mu,S,ds,r,a,i,b,g,hc⟩:=h;cases i with
 |cons q t=>cases t with
  |cons c t=>cases t;exact⟨mu,S,_,_,r,a,q,c,b,g,hc⟩
theorem Ci{f:G1}{xs:List V}(h:rN K (b1 f) xs H Q):∃x mu S d r a,xs=[x]/\eH K H mu d x/\Sim K H mu S/\f d S=Z (r,a)/\ph K mu H r a Q:=by
 obtain⟨mu,S,ds,r,a,e,c,b,hc⟩:=h;cases e with
 |nil=>cases b
 |cons q t=>cases t with
  |nil=>exact⟨_,mu,S,_,r,a,O,q,c,b,hc⟩
  |cons g t=>cases b
theorem zy{f:G2}{xs:List V}(h:rN K (b2 f) xs H Q):∃x y mu S d e r a,xs=[x,y]/\eH K H mu d x/\eH K H mu e y/\Sim K H mu S/\f d e S=Z (r,a)/\ph K mu H r a Q:=by
 obtain⟨mu,S,ds,r,a,i,c,b,hc⟩:=h;cases i with
 |nil=>cases b
 |cons q t=>cases t with
  |nil=>cases b
  |cons g t=>cases t with
   |nil=>exact⟨_,_,mu,S,_,_,r,a,O,q,g,c,b,hc⟩
   |cons j t=>cases b
theorem ph.now{mu:List dE}{S:Sto}{d:D}{v:V}(c:ph K mu H d S Q)(r:eH K H mu d v)(s:Sim K H mu S):Q v H:=c v H mu (.refl _ _) r s
end
noncomputable def eV(i j:Int):Bool:=(decide (-(2^64)<i)&&decide (i<2^64))||(decide (-(2^64)<j)&&decide (j<2^64))||(decide (i.natAbs<2^1000)&&decide (j.natAbs<2^1000))
noncomputable def gl:G2:=λd e S=>match d,e with
 | .int i,.int j=>Z (.int (i+j),S)
 | .tup xs,.tup ys=>if xs.length+ys.length<=dL then Z (.tup (xs++ys),S)else Y
 | .str x,.str y=>if x.length+y.length<=dL then Z (.str (x++y),S)else Y
 | .ref a,.ref b=>match S[a]?,S[b]? with
  |some (.lst xs),Z (.lst ys)=>if xs.length+ys.length<=dL then Z (.ref S.length,S++[.lst (xs++ys)])else Y
  |_,_=>Y
 |_,_=>Y
noncomputable def gSub:G2:=λd e S=>match d,e with
 | .int i,.int j=>Z (.int (i-j),S)
 |_,_=>Y
noncomputable def jO:G2:=λd e S=>match d,e with
 | .int i,.int j=>if eV i j=M then Z (.int (i*j),S)else Y
 |_,_=>Y
noncomputable def lf:G2:=λd e S=>match d,e with
 | .int i,.int j=>if 0<j then Z (.int (i%j),S)else Y
 |_,_=>Y
noncomputable def vo:G2:=λd e S=>match d,e with
 | .int i,.int j=>if 0<j/\j<1073741824 then Z (.int (i/j),S)else Y
 |_,_=>Y
noncomputable def vm:G2:=λd e S=>match d,e with
 | .int i,.int j=>if 0<=j/\j<=1000000/\i.natAbs<2^64 then Z (.int (i^j.toNat),S)else Y
 |_,_=>Y
section
variable{X:Cx}
theorem u8{i j:Int}(h:eV i j=M):IntMulOk i j:=by
 unfold eV at h;simp only[bO,bA1,al]at h;rcases h with(⟨h1,h2⟩|⟨h1,h2⟩)|⟨h1,h2⟩
 ·exact .of_left (intBits_le_64 h1 h2)
 ·exact .of_right (intBits_le_64 h1 h2)
 ·exact .of_bits (aC (intBits_le h1) (by decide)) (aC (intBits_le h2) (by decide))
theorem m7{f:dB->dB->Sem dB}{g:G2}{c:Int->Int->Prop}{v:Int->Int->D}(hg:∀ d e S r a,g d e S=Z (r,a) -> ∃ i j,d = .int i/\e = .int j/\c i j/\r=v i j/\a=S){b:Int->Int->V}(hv:∀i j K H mu,eH K H mu (v i j) (b i j))(ho:fV X f (rI c b)):fV X f (r2 X.K (b2 g)):=by
 intro ag s σ H x y u w Q I p o h;obtain⟨mu,S,d,e,r,a,l,r2,k,n,hc⟩:=pE h;obtain⟨i,j,rfl,rfl,m,rfl,rfl⟩:=hg d e S r a n;cases l;cases r2;exact ho ag s σ H _ _ u w Q I p o ⟨i,j,O,O,m,hc.now (hv i j _ _ _) k⟩
theorem kQ{f:dB->dB->Sem dB}{g:G2}{v:Int->Int->D}(hg:∀ d e S r a,g d e S=Z (r,a) -> ∃ i j,d = .int i/\e = .int j/\r=v i j/\a=S){b:Int->Int->V}(hv:∀i j K H mu,eH K H mu (v i j) (b i j))(ho:fV X f (Ec b)):fV X f (r2 X.K (b2 g)):=by
 intro ag s σ H x y u w Q I n m h;obtain⟨mu,S,d,e,r,a,k,r2,c,l,hc⟩:=pE h;obtain⟨i,j,rfl,rfl,rfl,rfl⟩:=hg d e S r a l;cases k;cases r2;exact ho ag s σ H _ _ u w Q I n m ⟨i,j,O,O,hc.now (hv i j _ _ _) c⟩
theorem wo:fV X (binaryOp .Sub) (r2 X.K (b2 gSub)):=kQ (v:=λi j=>.int (i-j)) (λd e S r a h=>by
 unfold gSub at h;split at h
 ·cases h;exact⟨_,_,O,O,O,O⟩
 ·cases h) (λ_ _ _ _ _=>.int _) FL
theorem kW:fV X (binaryOp .Mult) (r2 X.K (b2 jO)):=m7 (c:=λi j=>IntMulOk i j) (v:=λi j=>.int (i*j)) (λd e S r a h=>by
 unfold jO at h;split at h
 ·split at h
  ·rename_i q;cases h;exact⟨_,_,O,O,u8 q,O,O⟩
  ·cases h
 ·cases h) (λ_ _ _ _ _=>.int _) (JB λ_ _ _ _ _ _ _ hc q=>mul_int q hc)
theorem mq:fV X (binaryOp .Mod) (r2 X.K (b2 lf)):=m7 (c:=λ_ j=>0<j) (v:=λi j=>.int (i%j)) (λd e S r a h=>by
 unfold lf at h;split at h
 ·split at h
  ·rename_i q;cases h;exact⟨_,_,O,O,q,O,O⟩
  ·cases h
 ·cases h) (λ_ _ _ _ _=>.int _) FP
theorem z9:fV X (binaryOp .FloorDiv) (r2 X.K (b2 vo)):=m7 (c:=Jv) (v:=λi j=>.int (i/j)) (λd e S r a h=>by
 unfold vo at h;split at h
 ·split at h
  ·rename_i q;cases h;exact⟨_,_,O,O,q,O,O⟩
  ·cases h
 ·cases h) (λ_ _ _ _ _=>.int _) CL
theorem z0:fV X (binaryOp .Pow) (r2 X.K (b2 vm)):=m7 (c:=Ju) (v:=λi j=>.int (i^j.toNat)) (λd e S r a h=>by
 unfold vm at h;split at h
 ·split at h
  ·rename_i q;cases h;exact⟨_,_,O,O,q,O,O⟩
  ·cases h
 ·cases h) (λ_ _ _ _ _=>.int _) FM
theorem yG{s:dD}{prog:dF}{w:dH}{A:dG}{E:dB->dD->Prop}{t b:dE}{ws:List dB}{Q:dB->dD->Prop}(ht:IsTup s.heap t ([]:List dB).toArray)(hb:IsTup s.heap b ws.toArray)(h:Q (.ref b) s):
  dM (model prog w) A (binaryOp .Add (.ref t) (.ref b)) Q E s:=by
 obtain⟨⟨m,q,j,p⟩,i,hc,n,k⟩:=id ht;obtain⟨⟨l,f,g,e⟩,c,d,o,a⟩:=id hb;simp only at hc k d a;subst hc k d a;exact concat_meets ⟨_,i,O⟩ ⟨_,c,O⟩ noFill_tuple_add seq_tuple_add PySem.F.slot_tuple_add PySem.F.entry_tuple_add (PySem.F.args_tuple_add_2 _ _) (tuple_addW0 t b ([]:List dB).toArray ws.toArray n o q f p e (by simp)) ⟨i,c,h⟩
theorem gi:fV X (binaryOp .Add) (r2 X.K (b2 gl)):=by
 intro ag s σ H x y u w Q I q t h;obtain⟨mu,S,d,e,r,R,v,r2,f,c,hc⟩:=pE h;unfold gl at c;split at c
 ·cases c;cases v;cases r2;exact FU ag s σ H _ _ u w Q I q t ⟨_,_,O,O,hc.now (.int _) f⟩
 ·rename_i xs ys;split at c
  ·rename_i o;cases c;cases v with
   |tup A l=>
    cases r2 with
    |tup B m=>
     rename_i g a1 k a2;by_cases D:g=[]
     ·subst D;have:xs=[]:=by cases l;rfl
      subst this;cases q;cases t;obtain⟨C,N,ao,_⟩:=I.tuple A;obtain⟨E,am,p2,_⟩:=I.tuple B;have:C=[]:=N.nil_iff.mpr O;subst this;exact yG ao p2 ⟨.ref a2,H,I,O,hc.now (.tup B m) f⟩
     ·refine CM ag s σ H _ _ u w Q I q t ⟨a1,a2,g,k,O,O,A,B,D,by rw[<- l.length,<- m.length];exact o,λz=>?_,λz p n=>?_⟩
      ·subst z;have:ys=[]:=by cases m;rfl
       subst this;rw[aN]at hc;exact hc.now (.tup A l) f
      ·exact hc _ _ mu (Ext.fresh n) (.tup (j5.of d8) ((l.append m).ext (Ext.fresh n))) (f.fresh n)
  ·cases c
 ·rename_i i j;split at c
  ·rename_i o;cases c;cases v;cases r2;exact uY ag s σ H _ _ u w Q I q t ⟨i,j,O,O,o,hc.now (.str _) f⟩
  ·cases c
 ·rename_i a b;split at c
  ·rename_i xs ys P au;split at c
   ·rename_i o;cases c;cases v with
    |ref G=>
     cases r2 with
     |ref L=>
      obtain⟨g,K,l⟩:=f.lst P G;obtain⟨k,F,m⟩:=f.lst au L;refine FR ag s σ H _ _ u w Q I q t ⟨_,_,g,k,O,O,K,F,by rw[<- l.length,<- m.length];exact o,λp n=>?_⟩;exact hc _ _ (mu++[p]) (Ext.new_ n) (.ref (fQ f.len p)) (f.newL (l.append m) n)
   ·cases c
  ·cases c
 ·cases c
end
noncomputable def iC(p:Int->Int->Bool):G2:=λd e S=>match d,e with
 | .int i,.int j=>Z (.bl (p i j),S)
 |_,_=>Y
section
variable{X:Cx}
theorem rM{p:Int->Int->Bool}(d e:D)(S:Sto)(r:D)(a:Sto)(h:iC p d e S=Z (r,a)):∃i j,d = .int i/\e = .int j/\r = .bl (p i j)/\a=S:=by
 unfold iC at h;split at h
 ·cases h;exact⟨_,_,O,O,O,O⟩
 ·cases h
theorem Km:fV X (compareOp .LtE) (r2 X.K (b2 (iC λi j=>decide (i<=j)))):=kQ rM (λ_ _ _ _ _=>.bl _) Ik
theorem z8:fV X (compareOp .Gt) (r2 X.K (b2 (iC λi j=>decide (j<i)))):=kQ rM (λ_ _ _ _ _=>.bl _) Il
theorem Ko:fV X (compareOp .GtE) (r2 X.K (b2 (iC λi j=>decide (j<=i)))):=kQ rM (λ_ _ _ _ _=>.bl _) Im
end
noncomputable def lg:D->Bool
 | .non=>M
 | .bl _=>M
 | .int _=>M
 | .str _=>M
 |_=>J
noncomputable def JJ:D->D->Option Bool
 | .non,.non=>some true
 | .bl a,.bl b=>some (a == b)
 | .bl a,.int b=>some ((if a then 1 else 0) == b)
 | .int a,.bl b=>some (a == (if b then 1 else 0))
 | .int a,.int b=>some (a == b)
 | .str a,.str b=>some (a == b)
 |d,e=>if lg d&&lg e then some false else none
noncomputable def lj(f:D->D->Option Bool):List D->List D->Option Bool
 |x::xs,y::ys=>(f x y).bind λb=>(lj f xs ys).map λc=>b&&c
 |[],[]=>Z M
 |_,_=>Z J
noncomputable def fU(S:Sto):Nat->D->D->Option Bool
 |0,_,_=>Y
 |n+1,d,e=>match d4 S d,d4 S e with
  |some p,Z q=>if p.1=q.1 then(if p.1=M/\p.2.length≠q.2.length then Z J else lj (fU S n) p.2 q.2)else Z J
  |some _,Y=>if lg e=M then Z J else Y
  |none,Z _=>if lg d=M then Z J else Y
  |none,Y=>JJ d e
section
variable{X:Cx}{ag:List (dE×Obj)}{σ:L2.St}{H:Hp}{s:dD}{mu:List dE}{S:Sto}
theorem fI{K:Fg1}{d:D}{v:V}(r:eH K H mu d v)(h:lg d=M):jY v=M /\ ∀e w,eH K H mu e w->lg e=M->JJ d e=Z (ut v w):=by
 cases d with
 |non=>cases r;refine⟨O,λe w q f=>?_⟩;cases e with
  |non=>cases q;rfl
  |bl _=>cases q;rfl
  |int _=>cases q;rfl
  |str _=>cases q;rfl
  |_=>cases f
 |bl b=>cases r;refine⟨O,λe w q f=>?_⟩;cases e with
  |non=>cases q;rfl
  |bl _=>cases q;rfl
  |int _=>cases q;rfl
  |str _=>cases q;rfl
  |_=>cases f
 |int i=>cases r;refine⟨O,λe w q f=>?_⟩;cases e with
  |non=>cases q;rfl
  |bl _=>cases q;rfl
  |int _=>cases q;rfl
  |str _=>cases q;rfl
  |_=>cases f
 |str x=>cases r;refine⟨O,λe w q f=>?_⟩;cases e with
  |non=>cases q;rfl
  |bl _=>cases q;rfl
  |int _=>cases q;rfl
  |str _=>cases q;rfl
  |_=>cases f
 |_=>cases h
theorem oy{d e:D}{b:Bool}(h:JJ d e=Z b):lg d=M/\lg e=M:=by
 cases d<;>cases e<;>first|exact⟨rfl,rfl⟩|(cases h;done)|exact nomatch h|(simp[JJ,lg]at h)
theorem A9{v:V}(h:jY v=M):ut v v=M:=by
 cases v<;>first|rfl|(cases h;done)|exact beq_self_eq_true _|(simp[ut];done)
theorem tQ(I:Inv X ag σ H s)(hs:Sim X.K H mu S):∀(n:Nat) {d e:D} {v:V} {b:Bool},eH X.K H mu d v->eH X.K H mu e v->fU S n d e=Z b->b=M
 |0,_,_,_,_,_,_,h=>by cases h
 |n + 1,d,e,v,b,m,l,h=>by
  rw[fU]at h;have g:∀{xs ys:List D} {vs:List V} {b:Bool},d2 X.K H mu xs vs->d2 X.K H mu ys vs->lj (fU S n) xs ys=Z b->b=M:=by
   intro xs
   induction xs with
   |nil=>intro ys vs b B A h;cases B;cases A;cases h;rfl
   |cons x xs ih=>
    intro ys vs b B A h;cases B with
    |cons r t=>
     cases A with
     |cons G R=>
      rw[lj]at h;obtain⟨b1,i,h⟩:=oB1.mp h;obtain⟨b2,c,h⟩:=oM1.mp h;subst h;rw[tQ I hs n r G i,ih t R c];rfl
  cases hd:d4 S d with
  |some p=>
   obtain⟨F,xs⟩:=p;obtain⟨a,vs,rfl,q,t⟩:=d6 m hs hd;cases he:d4 S e with
   |some p2=>
    obtain⟨qb,ys⟩:=p2;obtain⟨a2,w,c,y,z⟩:=d6 l hs he;cases c;rw[hd,he]at h;dsimp only at h;obtain⟨L,U,C,_⟩:=fm I q;obtain⟨E,am,k,_⟩:=fm I y;have au:F=qb:=by
     cases F<;>cases qb
     ·rfl
     ·obtain⟨o,i,u,_⟩:=C;obtain⟨ao,c,j,_⟩:=k;rw[i]at c;cases c;rw[u]at j;exact absurd j (by decide)
     ·obtain⟨o,i,u,_⟩:=C;obtain⟨ao,c,j,_⟩:=k;rw[i]at c;cases c;rw[u]at j;exact absurd j (by decide)
     ·rfl
    subst au;have P:=qT I q y;subst P;rw[ak O,aj (by rw[t.length,z.length];simp)]at h;exact g t z h
   |none=>
    rw[hd,he]at h;dsimp only at h;split at h
    ·rename_i f;have:=(fI l f).1;cases this
    ·cases h
  |none=>
   cases he:d4 S e with
   |some p2=>
    obtain⟨qb,ys⟩:=p2;obtain⟨a2,w,c,y,z⟩:=d6 l hs he;subst c;rw[hd,he]at h;dsimp only at h;split at h
    ·rename_i f;have:=(fI m f).1;cases this
    ·cases h
   |none=>
    rw[hd,he]at h;dsimp only at h;obtain⟨Q,T⟩:=oy h;obtain⟨K,N⟩:=fI m Q;rw[N e v l T]at h;cases h;exact A9 K
theorem ft{A:dG}{b:Bool}{a:dE}{its:Array dB}{v:V}{u:dB}(c:SCo b s.heap a its)(r:d5 v u)(f:jY v=true)(d:A.units<cLine):
   SeqAt.EqAt A s (.ref a) u J/\SeqAt.EqAt A s u (.ref a) J/\SeqAt.RcAt A s (.ref a) u J/\SeqAt.RcAt A s u (.ref a) J:=by
 cases v with
 | non => cases r;cases b
          · exact⟨.tuple_none c d,.none_tuple c d,.tuple_none c d,.none_tuple c d⟩
          · exact⟨.list_none c d,.none_list c d,.list_none c d,.none_list c d⟩
 | bl k => cases r;cases b
           · exact⟨.tuple_bool k c d,.bool_tuple k c d,.tuple_bool k c d,.bool_tuple k c d⟩
           · exact⟨.list_bool k c d,.bool_list k c d,.list_bool k c d,.bool_list k c d⟩
 | int i => obtain ⟨t,rfl⟩:=r;cases b
            · exact⟨.tuple_int i t c d,.int_tuple i t c d,.tuple_int i t c d,.int_tuple i t c d⟩
            · exact⟨.list_int i t c d,.int_list i t c d,.list_int i t c d,.int_list i t c d⟩
 | str x => obtain ⟨t,rfl⟩:=r;cases b
            · exact⟨.tuple_str x t c d,.str_tuple x t c d,.tuple_str x t c d,.str_tuple x t c d⟩
            · exact⟨.list_str x t c d,.str_list x t c d,.list_str x t c d,.str_list x t c d⟩
 |_=>cases f
theorem Cm{A:dG}{x y:V}{u w:dB}(g:d5 x u)(a:d5 y w)(h:jY x=M)(f:jY y=M):SeqAt.RcAt A s u w (ut x y):=by
 cases x with
 |non=>cases g;cases y with
  |non=>cases a;exact .none_none
  |bl k=>cases a;exact .none_bool k
  |int i=>obtain⟨t,rfl⟩:=a;exact .none_int i t
  |str z=>obtain⟨t,rfl⟩:=a;exact .none_str z t
  |_=>cases f
 |bl e=>cases g;cases y with
  |non=>cases a;exact .bool_none e
  |bl k=>cases a;exact .bool_bool e k
  |int i=>obtain⟨t,rfl⟩:=a;exact .bool_int e i t
  |str z=>obtain⟨t,rfl⟩:=a;exact .bool_str e z t
  |_=>cases f
 |int d=>obtain⟨b,rfl⟩:=g;cases y with
  |non=>cases a;exact .int_none d b
  |bl k=>cases a;exact .int_bool d b k
  |int i=>obtain⟨t,rfl⟩:=a;exact .int_int d b i t
  |str z=>obtain⟨t,rfl⟩:=a;exact .int_str d b z t
  |_=>cases f
 |str c=>obtain⟨b,rfl⟩:=g;cases y with
  |non=>cases a;exact .str_none c b
  |bl k=>cases a;exact .str_bool c b k
  |int i=>obtain⟨t,rfl⟩:=a;exact .str_int c b i t
  |str z=>obtain⟨t,rfl⟩:=a;exact .str_str c b z t
  |_=>cases f
 |_=>cases h
theorem vx(f:D->D->Option Bool):∀{xs ys:List D} {b:Bool},lj f xs ys=Z b -> ∃e:Nat->Bool,(∀j x y,xs[j]?=Z x->ys[j]?=Z y->f x y=Z (e j))/\b=((af (min xs.length ys.length)).all e&&xs.length == ys.length)
 |[],[],b,h=>by cases h;exact⟨λ_=>M,λj x y h=>by simp at h,O⟩
 |[],y::ys,b,h=>by cases h;exact⟨λ_=>M,λj x y h=>by simp at h,by simp⟩
 |x::xs,[],b,h=>by cases h;exact⟨λ_=>M,λj x y h h'=>by simp at h',by simp⟩
 |x::xs,y::ys,b,h=>by
  rw[lj]at h;obtain⟨b1,l,h⟩:=oB1.mp h;obtain⟨b2,i,h⟩:=oM1.mp h;obtain⟨e,g,k⟩:=vx f i;refine⟨λj=>match j with|0=>b1|j+1=>e j,λj d m a c=>?_,?_⟩
  ·cases j with
   |zero=>simp at a c;subst a;subst c;exact l
   |succ j=>exact g j d m (by simpa using a) (by simpa using c)
  ·rw[<- h,k,lC1,lC1,Nat.succ_min_succ,List.range_succ_eq_map,bP,List.all_map];have:((xs.length+1 == ys.length+1):Bool)=(xs.length == ys.length):=by simp
   rw[this,Bool.and_assoc];rfl
theorem l0(I:Inv X ag σ H s)(hs:Sim X.K H mu S):∀(n:Nat) {A:dG} {d e:D} {v w:V} {u z:dB} {b:Bool},A.units+n<cLine->eH X.K H mu d v->eH X.K H mu e w->d5 v u->d5 w z->fU S n d e=Z b->SeqAt.EqAt A s u z b/\SeqAt.RcAt A s u z b
 |0,_,_,_,_,_,_,_,_,_,_,_,_,_,h=>by cases h
 |n + 1,A,d,e,v,w,u,z,b,hu,N,r,R,L,h=>by
  have g:A.units<cLine:=by lia
  have h0:=h;rw[fU]at h;cases hd:d4 S d with
  |some p=>
   obtain⟨pb,xs⟩:=p;obtain⟨a,vs,rfl,q,t⟩:=d6 N hs hd;obtain⟨k,Q,o,_⟩:=fm I q;cases R;cases he:d4 S e with
   |some p2=>
    obtain⟨qb,ys⟩:=p2;obtain⟨a2,B,rfl,T,au⟩:=d6 r hs he;obtain⟨c,l,i,_⟩:=fm I T;cases L;rw[hd,he]at h;dsimp only at h;have m:SeqAt.RcAt A s (.ref a) (.ref a2) b->SeqAt.EqAt A s (.ref a) (.ref a2) b/\SeqAt.RcAt A s (.ref a) (.ref a2) b:=λrc=>by
     refine⟨?_,rc⟩;by_cases ha:a=a2
     ·subst ha;rw[tQ I hs (n+1) N r h0];exact .same _
     ·exact .of_refs ha rc
    split at h
    ·rename_i P;have W:pb=qb:=P;subst W;split at h
     ·rename_i wq;cases h;obtain⟨h1,h2⟩:=wq;subst h1;refine m (.lists_lengths o i ?_ g);have l1:=t.length;have l2:=au.length;have l3:=Q.length;have l4:=l.length
      simp only[sT1,bne_iff_ne,ne_eq];lia
     ·rename_i wq;obtain ⟨f,hf,K⟩:=vx _ h;have elts:∀ j (h1:j<k.toArray.size) (h2:j<c.toArray.size),SeqAt.EqAt A.in1 s k.toArray[j] c.toArray[j] (f j):=fun j h1 h2=>by
       have G:j<k.length:=by simpa using h1
       have F:j<c.length:=by simpa using h2
       have k1:j<vs.length:=by rw[Q.length];exact G
       have k2:j<B.length:=by rw[l.length];exact F
       obtain⟨x,ex,rx⟩:=t.getV (gG1 k1);obtain⟨y,ey,ry⟩:=au.getV (gG1 k2);obtain⟨u1,ao,aq⟩:=Q.get (gG1 k1);obtain⟨u2,am,ru2⟩:=l.get (gG1 k2);have E:k.toArray[j]=u1:=by
        rw[gG1 G]at ao;simpa using ao
       have U:c.toArray[j]=u2:=by
        rw[gG1 F]at am;simpa using am
       rw[E,U];exact(l0 I hs n (A:=A.in1) (by show A.units+1+n<cLine;lia) rx ry aq ru2 (hf j x y ex ey)).1
      have l1:=t.length;have l2:=au.length;have l3:=Q.length;have l4:=l.length
      cases pb with
      |false=>
       refine m ?_;have:=SeqAt.RcAt.tuples o i g elts;rw[K];have E:k.toArray.size=xs.length:=by simp;lia
       have U:c.toArray.size=ys.length:=by simp;lia
       rw[E,U]at this;exact this
      |true=>
       refine m ?_;have C:xs.length=ys.length:=by
        by_cases z:xs.length=ys.length
        ·exact z
        ·exact absurd ⟨O,z⟩ wq
       have:=SeqAt.RcAt.lists o i (by simp;lia) g elts;rw[K];have E:k.toArray.size=xs.length:=by simp;lia
       rw[E]at this;rw[C,Nat.min_self,beq_self_eq_true,bN,<- C];exact this
    ·rename_i P;cases h;cases pb with
     |true=>
      cases qb with
      |true=>exact absurd O P
      |false=>exact⟨.list_tuple o i g,.list_tuple o i g⟩
     |false=>
      cases qb with
      |false=>exact absurd O P
      |true=>exact⟨.tuple_list o i g,.tuple_list o i g⟩
   |none=>
    rw[hd,he]at h;dsimp only at h;split at h
    ·rename_i f;cases h;obtain⟨r1,r2,r3,r4⟩:=ft o L (fI r f).1 g;exact⟨r1,r3⟩
    ·cases h
  |none=>
   cases he:d4 S e with
   |some p2=>
    obtain⟨qb,ys⟩:=p2;obtain⟨a2,B,rfl,T,au⟩:=d6 r hs he;obtain⟨c,l,i,_⟩:=fm I T;cases L;rw[hd,he]at h;dsimp only at h;split at h
    ·rename_i f;cases h;obtain⟨r1,r2,r3,r4⟩:=ft i R (fI N f).1 g;exact⟨r2,r4⟩
    ·cases h
   |none=>
    rw[hd,he]at h;dsimp only at h;obtain⟨f1,f2⟩:=oy h;obtain⟨g1,g2⟩:=fI N f1;have g3:=(fI r f2).1;rw[g2 e w r f2]at h;cases h;exact⟨ke R L g1 g3,Cm R L g1 g3⟩
end
noncomputable def eL:Nat:=60
noncomputable def wT:G2:=λd e S=>(fU S eL d e).map λb=>(.bl b,S)
section
variable{X:Cx}
theorem sX(l:X.A.units+64<cLine):fV X (compareOp .Eq) (r2 X.K (b2 wT)):=by
 intro ag s σ H x y u w Q I j i h;obtain⟨mu,S,d,e,r,k,f,r2,c,a,hc⟩:=pE h;obtain⟨b,g,a⟩:=oM1.mp a;cases a;exact(l0 I c eL (by show _+60<cLine;lia) f r2 j i g).2 X.prog X.w X.xe _ ⟨.bl b,H,I,O,hc.now (.bl b) c⟩
end
section
variable{X:Cx}{ag:List (dE×Obj)}{σ:L2.St}{H:Hp}{s:dD}{mu:List dE}{S:Sto}
theorem CQ{A:dG}{x y:V}{u w:dB}(g:d5 x u)(a:d5 y w)(h:jY x=M)(f:jY y=M):SeqAt.RcNeAt A s u w (!ut x y):=by
 cases x with
 |non=>cases g;cases y with
  |non=>cases a;exact .none_none
  |bl k=>cases a;exact .none_bool k
  |int i=>obtain⟨t,rfl⟩:=a;exact .none_int i t
  |str z=>obtain⟨t,rfl⟩:=a;exact .none_str z t
  |_=>cases f
 |bl e=>cases g;cases y with
  |non=>cases a;exact .bool_none e
  |bl k=>cases a;exact .bool_bool e k
  |int i=>obtain⟨t,rfl⟩:=a;exact .bool_int e i t
  |str z=>obtain⟨t,rfl⟩:=a;exact .bool_str e z t
  |_=>cases f
 |int d=>obtain⟨b,rfl⟩:=g;cases y with
  |non=>cases a;exact .int_none d b
  |bl k=>cases a;exact .int_bool d b k
  |int i=>obtain⟨t,rfl⟩:=a;exact .int_int d b i t
  |str z=>obtain⟨t,rfl⟩:=a;exact .int_str d b z t
  |_=>cases f
 |str c=>obtain⟨b,rfl⟩:=g;cases y with
  |non=>cases a;exact .str_none c b
  |bl k=>cases a;exact .str_bool c b k
  |int i=>obtain⟨t,rfl⟩:=a;exact .str_int c b i t
  |str z=>obtain⟨t,rfl⟩:=a;exact .str_str c b z t
  |_=>cases f
 |_=>cases h
theorem mx{A:dG}{b:Bool}{a:dE}{its:Array dB}{v:V}{u:dB}(c:SCo b s.heap a its)(r:d5 v u)(f:jY v=M)(d:A.units<cLine):SeqAt.RcNeAt A s (.ref a) u M/\SeqAt.RcNeAt A s u (.ref a) M:=by
 cases v with
 | non => cases r;cases b
          · exact⟨.tuple_none c d,.none_tuple c d⟩
          · exact⟨.list_none c d,.none_list c d⟩
 | bl k => cases r;cases b
           · exact⟨.tuple_bool k c d,.bool_tuple k c d⟩
           · exact⟨.list_bool k c d,.bool_list k c d⟩
 | int i => obtain ⟨t,rfl⟩:=r;cases b
            · exact⟨.tuple_int i t c d,.int_tuple i t c d⟩
            · exact⟨.list_int i t c d,.int_list i t c d⟩
 | str x => obtain ⟨t,rfl⟩:=r;cases b
            · exact⟨.tuple_str x t c d,.str_tuple x t c d⟩
            · exact⟨.list_str x t c d,.str_list x t c d⟩
 |_=>cases f
theorem F2(I:Inv X ag σ H s)(hs:Sim X.K H mu S)(n:Nat){A:dG}{d e:D}{v w:V}{u z:dB}{b:Bool}(hu:A.units+n<cLine)(N:eH X.K H mu d v)(am:eH X.K H mu e w)(U:d5 v u)(ao:d5 w z)(h:fU S n d e=Z b):SeqAt.RcNeAt A s u z (!b):=by
 cases n with
 |zero=>cases h
 |succ n=>
  have g:A.units<cLine:=by lia
  rw[fU]at h;cases hd:d4 S d with
  |some p=>
   obtain⟨pb,xs⟩:=p;obtain⟨a,vs,rfl,q,t⟩:=d6 N hs hd;obtain⟨k,T,m,_⟩:=fm I q;cases U;cases he:d4 S e with
   |some p2=>
    obtain⟨qb,ys⟩:=p2;obtain⟨a2,o,rfl,au,R⟩:=d6 am hs he;obtain⟨c,l,i,_⟩:=fm I au;cases ao;rw[hd,he]at h;dsimp only at h;have l1:=t.length;have l2:=R.length;have l3:=T.length;have l4:=l.length
    split at h
    ·rename_i L;have Q:pb=qb:=L;subst Q;split at h
     ·rename_i aq;cases h;obtain⟨h1,h2⟩:=aq;subst h1;refine .lists_lengths m i ?_ g;simp only[sT1,bne_iff_ne,ne_eq];lia
     ·rename_i aq;obtain ⟨f,hf,G⟩:=vx _ h;have elts:∀ j (h1:j<k.toArray.size) (h2:j<c.toArray.size),SeqAt.EqAt A.in1 s k.toArray[j] c.toArray[j] (f j):=fun j h1 h2=>by
       have E:j<k.length:=by simpa using h1
       have C:j<c.length:=by simpa using h2
       have k1:j<vs.length:=by rw[T.length];exact E
       have k2:j<o.length:=by rw[l.length];exact C
       obtain⟨x,ex,rx⟩:=t.getV (gG1 k1);obtain⟨y,ey,ry⟩:=R.getV (gG1 k2);obtain⟨u1,K,W⟩:=T.get (gG1 k1);obtain⟨u2,F,wq⟩:=l.get (gG1 k2);have r:k.toArray[j]=u1:=by
        rw[gG1 E]at K;simpa using K
       have P:c.toArray[j]=u2:=by
        rw[gG1 C]at F;simpa using F
       rw[r,P];exact(l0 I hs n (A:=A.in1) (by show A.units+1+n<cLine;lia) rx ry W wq (hf j x y ex ey)).1
      cases pb with
      |false=>
       have:=SeqAt.RcNeAt.tuples m i g elts;rw[G];have r:k.toArray.size=xs.length:=by simp;lia
       have P:c.toArray.size=ys.length:=by simp;lia
       rw[r,P]at this;exact this
      |true=>
       have B:xs.length=ys.length:=by
        by_cases z:xs.length=ys.length
        ·exact z
        ·exact absurd ⟨O,z⟩ aq
       have:=SeqAt.RcNeAt.lists m i (by simp;lia) g elts;rw[G];have r:k.toArray.size=xs.length:=by simp;lia
       rw[r]at this;rw[B,Nat.min_self,beq_self_eq_true,bN,<- B];exact this
    ·rename_i L;cases h;cases pb with
     |true=>
      cases qb with
      |true=>exact absurd O L
      |false=>exact .list_tuple m i g
     |false=>
      cases qb with
      |false=>exact absurd O L
      |true=>exact .tuple_list m i g
   |none=>
    rw[hd,he]at h;dsimp only at h;split at h
    ·rename_i f;cases h;exact(mx m ao (fI am f).1 g).1
    ·cases h
  |none=>
   cases he:d4 S e with
   |some p2=>
    obtain⟨qb,ys⟩:=p2;obtain⟨a2,o,rfl,au,R⟩:=d6 am hs he;obtain⟨c,l,i,_⟩:=fm I au;cases ao;rw[hd,he]at h;dsimp only at h;split at h
    ·rename_i f;cases h;exact(mx i U (fI N f).1 g).2
    ·cases h
   |none=>
    rw[hd,he]at h;dsimp only at h;obtain⟨f1,f2⟩:=oy h;obtain⟨g1,g2⟩:=fI N f1;have g3:=(fI am f2).1;rw[g2 e w am f2]at h;cases h;exact CQ U ao g1 g3
end
noncomputable def Hs:G2:=λd e S=>(fU S eL d e).map λb=>(.bl (!b),S)
noncomputable def BP(f:D->D->Option Bool)(x:D):List D->Option Bool
 |[]=>Z J
 |y::ys=>(f y x).bind λb=>(BP f x ys).map λc=>b||c
noncomputable def Ht:G2:=λd e S=>(d4 S e).bind λp=>(BP (fU S eL) d p.2).map λb=>(.bl b,S)
noncomputable def ot:G2:=λd e S=>(d4 S e).bind λp=>(BP (fU S eL) d p.2).map λb=>(.bl (!b),S)
noncomputable def p8:D->Bool
 | .non=>M
 |_=>J
noncomputable def Kz:G2:=λd e S=>match e with
 | .non=>Z (.bl (p8 d),S)
 |_=>Y
noncomputable def DF:G2:=λd e S=>match e with
 | .non=>Z (.bl (!p8 d),S)
 |_=>Y
section
variable{X:Cx}
theorem Ip(l:X.A.units+64<cLine):fV X (compareOp .NotEq) (r2 X.K (b2 Hs)):=by
 intro ag s σ H x y u w Q I j i h;obtain⟨mu,S,d,e,r,k,f,r2,c,a,hc⟩:=pE h;obtain⟨b,g,a⟩:=oM1.mp a;cases a;exact F2 I c eL (by show _+60<cLine;lia) f r2 j i g X.prog X.w X.xe _ ⟨.bl (!b),H,I,O,hc.now (.bl _) c⟩
theorem AR(f:D->D->Option Bool)(x:D):∀{ys:List D} {b:Bool},BP f x ys=Z b -> ∃bs:List Bool,bs.length=ys.length/\(∀(j:Nat) (y:D) (k:Bool),ys[j]?=Z y->bs[j]?=Z k->f y x=Z k)/\b=bs.any id
 |[],b,h=>by cases h;exact⟨[],O,λj y k h=>by simp at h,O⟩
 |y::ys,b,h=>by
  rw[BP]at h;obtain⟨b1,l,h⟩:=oB1.mp h;obtain⟨b2,g,h⟩:=oM1.mp h;obtain⟨bs,e,i,a⟩:=AR f x g;refine⟨b1::bs,by simp[e],λj m k c d=>?_,?_⟩
  ·cases j with
   |zero=>simp at c d;subst c;subst d;exact l
   |succ j=>exact i j m k (by simpa using c) (by simpa using d)
  ·rw[<- h,a];simp
open Classical in
theorem Eh{ag:List (dE×Obj)}{σ:L2.St}{H:Hp}{s:dD}{mu:List dE}{S:Sto}(I:Inv X ag σ H s)(hs:Sim X.K H mu S){A:dG}(ao:A.units+61<cLine){x:D}{v:V}{u:dB}(F:eH X.K H mu x v)(B:d5 v u){ys:List D}{vs:List V}{a:List dB}{b:Bool}(q:d2 X.K H mu ys vs)(o:ee vs a)(h:BP (fU S eL) x ys=Z b):∃e:dB->Bool,(∀w∈a,SeqAt.EqAt A.in1 s w u (e w))/\a.any e=b:=by
 obtain⟨bs,am,t,rfl⟩:=AR _ x h;have G:=q.length;have L:=o.length;have at_:∀(j:Nat) w k,a[j]?=Z w->bs[j]?=Z k->SeqAt.EqAt A.in1 s w u k:=λj w k g d=>by
  have p:j<a.length:=(gE1.mp g).1;obtain⟨y,C,E⟩:=q.getV (i:=j) (v:=vs[j]'(by lia)) (gG1 (by lia));obtain⟨K,n,r2⟩:=o.get (i:=j) (x:=vs[j]'(by lia)) (gG1 (by lia));rw[g]at n;cases n;exact(l0 I hs eL (A:=A.in1) (by show A.units+1+60<cLine;lia) E F r2 B (t j y k C d)).1
 refine⟨λw=>decide (∃j:Nat,a[j]?=Z w/\bs[j]?=Z M),λw g=>?_,?_⟩
 ·by_cases z:∃j:Nat,a[j]?=Z w/\bs[j]?=Z M
  ·dsimp only;rw[ah z];obtain⟨j,m,c⟩:=z;exact at_ j w M m c
  ·dsimp only;rw[ai z];obtain⟨j,f⟩:=bq g;have p:j<a.length:=(gE1.mp f).1;have l:j<bs.length:=by lia
   have c:=gG1 l;cases d:bs[j]with
   |true=>rw[d]at c;exact absurd ⟨j,f,c⟩ z
   |false=>rw[d]at c;exact at_ j w J f c
 ·rw[bQ,bR,bR];constructor
  ·rintro⟨w,g,z⟩;obtain⟨j,m,c⟩:=of_decide_eq_true z;exact⟨M,gM1 c,O⟩
  ·rintro⟨k,d,z⟩;obtain⟨j,f⟩:=bq d;have p:j<bs.length:=(gE1.mp f).1;have l:j<a.length:=by lia
   have r:k=M:=z;subst r;exact⟨a[j],bS l,ah ⟨j,gG1 l,f⟩⟩
theorem Kn(F:X.A.units+64<cLine):fV X (compareOp .In) (r2 X.K (b2 Ht)):=by
 intro ag s σ H x y u w Q I D B h;obtain⟨mu,S,d,e,r,E,n,r2,j,i,hc⟩:=pE h;obtain⟨⟨o,ys⟩,v,i⟩:=oB1.mp i;obtain⟨b,p,i⟩:=oM1.mp i;cases i;obtain⟨a,vs,rfl,q,t⟩:=d6 r2 j v;cases B;obtain⟨c,C,m,_⟩:=fm I q;obtain⟨f,l,z⟩:=Eh I j (A:=X.A) (by lia) n D t C p;have g:EP X ag σ Q (.bool (c.toArray.any f)) s:=⟨.bl b,H,I,by rw[show c.toArray.any f=c.any f by simp,z];rfl,hc.now (.bl b) j⟩;cases o
 ·exact SeqAt.in_tupleAt f m (λy k=>l y (by simpa using k)) g
 ·exact SeqAt.in_listAt f m (λy k=>l y (by simpa using k)) g
theorem CO(F:X.A.units+64<cLine):fV X (compareOp .NotIn) (r2 X.K (b2 ot)):=by
 intro ag s σ H x y u w Q I D B h;obtain⟨mu,S,d,e,r,E,n,r2,j,i,hc⟩:=pE h;obtain⟨⟨o,ys⟩,v,i⟩:=oB1.mp i;obtain⟨b,p,i⟩:=oM1.mp i;cases i;obtain⟨a,vs,rfl,q,t⟩:=d6 r2 j v;cases B;obtain⟨c,C,m,_⟩:=fm I q;obtain⟨f,l,z⟩:=Eh I j (A:=X.A) (by lia) n D t C p;have g:EP X ag σ Q (.bool (!c.toArray.any f)) s:=⟨.bl (!b),H,I,by rw[show c.toArray.any f=c.any f by simp,z];rfl,hc.now (.bl _) j⟩;cases o
 ·exact SeqAt.notIn_tupleAt f m (λy k=>l y (by simpa using k)) g
 ·exact SeqAt.notIn_listAt f m (λy k=>l y (by simpa using k)) g
theorem wt{K:Fg1}{H:Hp}{mu:List dE}{d:D}{v:V}(r:eH K H mu d v):p8 d=decide (v = .non):=by
 cases r<;>simp[p8]
theorem Iq:fV X (compareOp .Is) (r2 X.K (b2 Kz)):=by
 intro ag s σ H x y u w Q I g f h;obtain⟨mu,S,d,e,r,i,c,r2,b,a,hc⟩:=pE h;cases e with
 |non=>
  cases a;cases r2;refine FQ ag s σ H _ _ u w Q I g f ⟨O,?_⟩;rw[<- wt c];exact hc.now (.bl _) b
 |_=>cases a
theorem FY:fV X (compareOp .IsNot) (r2 X.K (b2 DF)):=by
 intro ag s σ H x y u w Q I g f h;obtain⟨mu,S,d,e,r,i,c,r2,b,a,hc⟩:=pE h;cases e with
 |non=>
  cases a;cases r2;refine CK ag s σ H _ _ u w Q I g f ⟨O,?_⟩;rw[<- wt c];exact hc.now (.bl _) b
 |_=>cases a
end
noncomputable def fx:G1:=λd S=>match d with
 | .str x=>if x.length<=dL then Z (.int x.length,S)else Y
 |_=>(d4 S d).map λp=>(.int p.2.length,S)
noncomputable def BQ:G2:=λd e S=>match e with
 | .int i=>(d4 S d).bind λp=>(vF p.2 i).map λx=>(x,S)
 |_=>Y
noncomputable def gTup:G1:=λd S=>(d4 S d).map λp=>(.tup p.2,S)
noncomputable def DE:G1:=λd S=>(d4 S d).map λp=>(.ref S.length,S++[.lst p.2])
noncomputable def kd:G3:=λo i v S=>match o,i with
 | .ref n,.int k=>match S[n]? with
  |some (.lst xs)=>(yd xs.length k).map λj=>(.non,S.set n (.lst (xs.set j v)))
  |_=>Y
 |_,_=>Y
noncomputable def BB:List D->Option Bool
 |[]=>Z M
 | .bl b::r=>(BB r).map λc=>b&&c
 |_=>Y
noncomputable def vp:G1:=λd S=>(d4 S d).bind λp=>(BB p.2).map λb=>(.bl b,S)
noncomputable def oZ:G1:=λd S=>match d with
 | .int i=>Z (.int i,S)
 | .bl b=>Z (.int (if b then 1 else 0),S)
 |_=>Y
noncomputable def DC:G2:=λd e S=>match d,e with
 | .int i,.int j=>Z (.int (if j>i then j else i),S)
 |_,_=>Y
noncomputable def DB:G2:=λd e S=>match d,e with
 | .int i,.int j=>Z (.int (if j<i then j else i),S)
 |_,_=>Y
section
variable{X:Cx}
theorem fJ:eZ X (.builtin "len") (rN X.K (b1 fx)):=by
 intro ag s σ H xs g Q I r h;obtain⟨x,mu,S,d,l,k,rfl,f,e,c,hc⟩:=Ci h;unfold fx at c;split at c
 ·split at c
  ·rename_i z j;cases c;cases f;exact rV ag s σ H _ g Q I r ⟨_,O,j,hc.now (.int _) e⟩
  ·cases c
 ·obtain⟨⟨b,ys⟩,i,c⟩:=oM1.mp c;cases c;obtain⟨a,vs,rfl,q,t⟩:=d6 f e i;refine rW ag s σ H _ g Q I r ⟨a,vs,O,?_,?_⟩
  ·cases b
   ·exact .inr q
   ·exact .inl q
  ·rw[<- t.length];exact hc.now (.int _) e
theorem DZ{K:Fg1}{H:Hp}{mu:List dE}{ds:List D}{vs:List V}{i:Int}{d:D}(t:d2 K H mu ds vs)(h:vF ds i=Z d):∃v,vF vs i=Z v/\eH K H mu d v:=by
 unfold vF at h ⊢;rw[<- t.length];obtain⟨j,b,h⟩:=oB1.mp h;obtain⟨v,c,a⟩:=t.get h;exact⟨v,by rw[b];exact c,a⟩
theorem JS:Ey X (r2 X.K (b2 BQ)):=by
 intro value c ag s σ H x y v u Q I o l h g;obtain⟨mu,S,d,e,r,B,p,r2,j,f,hc⟩:=pE h;cases e with
 |int i=>
  obtain⟨⟨b,ys⟩,A,f⟩:=oB1.mp f;obtain⟨z,w,f⟩:=oM1.mp f;cases f;cases r2;obtain⟨a,vs,rfl,q,t⟩:=d6 p j A;obtain⟨k,n,m⟩:=DZ t w;cases b
  ·exact GN value c ag s σ H _ _ v u Q I o l ⟨a,vs,i,k,O,O,q,n,hc.now m j⟩ g
  ·exact Do value c ag s σ H _ _ v u Q I o l ⟨a,vs,i,k,O,O,q,n,hc.now m j⟩ g
 |_=>cases f
theorem fA:eZ X (.type "tuple") (rN X.K (b1 gTup)):=by
 intro ag s σ H xs i Q I r h;obtain⟨x,mu,S,d,m,k,rfl,g,c,e,hc⟩:=Ci h;obtain⟨⟨b,ys⟩,j,e⟩:=oM1.mp e;cases e;obtain⟨a,vs,rfl,q,t⟩:=d6 g c j;refine pd ag s σ H _ i Q I r ⟨a,vs,O,?_⟩;cases b
 ·exact .inr ⟨q,hc.now (.tup q t) c⟩
 ·exact .inl ⟨q,λl f=>hc _ _ mu (Ext.fresh f) (.tup (j5.of d8) (t.ext (Ext.fresh f))) (c.fresh f)⟩
theorem G5:eZ X (.type "list") (rN X.K (b1 DE)):=by
 intro ag s σ H xs i Q I r h;obtain⟨x,mu,S,d,m,k,rfl,g,c,e,hc⟩:=Ci h;obtain⟨⟨b,ys⟩,j,e⟩:=oM1.mp e;cases e;obtain⟨a,vs,rfl,q,t⟩:=d6 g c j;refine rT ag s σ H _ i Q I r ⟨a,vs,O,?_,λl f=>hc _ _ (mu++[l]) (Ext.new_ f) (.ref (fQ c.len l)) (c.newL t f)⟩;cases b
 ·exact .inr q
 ·exact .inl q
theorem HW:vM X (rU X.K (b3 kd)):=by
 intro ag s σ H o i v x A u Q I C r z h;obtain⟨mu,S,ds,d,F,y,f,a,hc⟩:=h;cases y with
 |cons l g=>cases g with
  |cons m p=>cases p with
   |cons w q=>
    cases q;rename_i D E G;dsimp only[b3]at a;unfold kd at a;split at a
    ·rename_i n k;split at a
     ·rename_i xs e;obtain⟨j,B,a⟩:=oM1.mp a;cases a;cases l with
      |ref b=>
       cases m;obtain⟨vs,c,t⟩:=f.lst e b;refine zv ag s σ H _ _ v x A u Q I C r z ⟨_,vs,k,j,O,O,c,by rw[<- t.length];exact B,?_⟩;exact hc _ mu (Ext.put c trivial (gM1 b)) (f.putL (t.set w j) b c)
     ·cases a
    ·cases a
theorem D2{K:Fg1}{H:Hp}{mu:List dE}:∀{ds:List D} {vs:List V} {a:List dB} {b:Bool},d2 K H mu ds vs->ee vs a->BB ds=Z b -> ∃bs:List Bool,a=bs.map Value.bool/\b=bs.all id:=by
 intro ds
 induction ds with
 |nil=>intro vs a b r v h;cases r;cases v;cases h;exact⟨[],O,O⟩
 |cons d ds ih=>
  intro vs a b r v h;cases r with
  |cons f t=>
   cases v with
   |cons r j=>
    cases f
    case bl k=>
     obtain⟨c,e,h⟩:=oM1.mp h;obtain⟨bs,i,g⟩:=ih t j e;cases r;exact⟨k::bs,by rw[i];rfl,by rw[<- h,g];rfl⟩
    all_goals cases h
theorem pG(bs:List Bool):(af bs.length).all (λi=>bs.getD i M)=bs.all id:=by
 rw[bQ,bC,bC];constructor
 ·intro h b c;obtain⟨i,hi,rfl⟩:=List.mem_iff_getElem.mp c;have:=h i (aB.mpr hi);simpa[bK,hi]using this
 ·intro h i hi;have a:=aB.mp hi;have:=h _ (bS a);simpa[bK,a]using this
theorem uE{s:dD}{b:Bool}{a:dE}{bs:List Bool}(hc:X.A.handled=Y)(g:SCo b s.heap a (bs.map Value.bool).toArray){Q:dB->dD->Prop}(all:∀h' tk,(∀c o,s.heap.get? c=Z o->h'.get? c=Z o)->Q (.bool (bs.all id)) {s with heap:=h',toks:=tk}):dM (model X.prog X.w) X.A (call (.builtin "all") [.ref a]) Q X.xe s:=by
 refine call_all_walk (nE g ?_);have j:a<s.heap.objs.size:=by cases b<;>(obtain⟨o,e,_⟩:=g;exact hL1 e)
 have ne:a≠s.heap.objs.size:=nN1 j;have l:TruthOf X.prog X.w X.A.in1 (λi v=>(bs.map Value.bool).toArray[i]?=Z v) (λi=>bs.getD i M):=λi v s' q p n h=>by
  have f:(bs.map Value.bool)[i]?=Z v:=by simpa using n
  rw[gP1]at f;obtain⟨k,m,rfl⟩:=oM1.mp f;dsimp only at h;rw[bK,m]at h;exact wpAny_truthy_bool h
 have keep:∀(h':dP),(∀c o,c∉[s.heap.objs.size]->(s.heap.push (iy b a)).get? c=Z o->h'.get? c=Z o) -> ∀c o,s.heap.get? c=Z o->h'.get? c=Z o:=λh' d c o e=>
  d c o (by simpa using nN1 (hL1 e)) (hP1 _ e)
 have hi:(s.heap.push (iy b a)).get? s.heap.objs.size=Z (iy b a):=hS1 _ (by cases b<;>rfl);cases b with
 |true=>
  refine⟨s.heap.objs.size,_,_,_,_,_,_,O,Walks.list (A:=X.A.in1) hc s.heap.objs.size a ne (bs.map Value.bool).toArray,⟨⟨_,hi,O,O⟩,SCo.to (b:=M) g λo e=>hP1 _ e⟩,l,λh' tk d=>?_⟩;have e:(bs.map Value.bool).toArray.size=bs.length:=by simp
  rw[e,pG];exact all h' tk (keep h' d)
 |false=>
  refine⟨s.heap.objs.size,_,_,_,_,_,_,O,Walks.tuple (A:=X.A.in1) hc s.heap.objs.size a ne (bs.map Value.bool).toArray,⟨⟨_,hi,O,O⟩,SCo.to (b:=J) g λo e=>hP1 _ e⟩,l,λh' tk d=>?_⟩;have e:(bs.map Value.bool).toArray.size=bs.length:=by simp
  rw[e,pG];exact all h' tk (keep h' d)
theorem xc(hc:X.calm=M):eZ X (.builtin "all") (rN X.K (b1 vp)):=by
 intro ag s σ H xs w Q I r h;obtain⟨x,mu,S,d,y,v,rfl,i,f,c,e⟩:=Ci h;obtain⟨⟨b,ys⟩,m,c⟩:=oB1.mp c;obtain⟨k,j,c⟩:=oM1.mp c;cases c;obtain⟨a,vs,rfl,q,t⟩:=d6 i f m;obtain⟨u,rfl,p⟩:=g0 r;cases p;obtain⟨g,o,l,_⟩:=fm I q;obtain⟨bs,rfl,rfl⟩:=D2 t o j;exact uE (I.ok.hd hc) l λh' tk n=>⟨.bl _,H,I.kept n,O,e.now (.bl _) f⟩
theorem xa:eZ X (.type "int") (rN X.K (b1 oZ)):=by
 intro ag s σ H xs f Q I r h;obtain⟨x,mu,S,d,j,g,rfl,e,c,a,hc⟩:=Ci h;cases d with
 |int i=>cases a;cases e;exact ql ag s σ H _ f Q I r (.inl ⟨i,O,hc.now (.int _) c⟩)
 |bl b=>cases a;cases e;exact ql ag s σ H _ f Q I r (.inr ⟨b,O,hc.now (.int _) c⟩)
 |_=>cases a
theorem Jd(hc:X.calm=M):eZ X (.builtin "max") (rN X.K (b2 DC)):=by
 intro ag s σ H xs g Q I r h;obtain⟨x,y,mu,S,d,e,j,i,rfl,f,r2,c,a,b⟩:=zy h;unfold DC at a;split at a
 ·cases a;cases f;cases r2;exact yK hc ag s σ H _ g Q I r ⟨_,_,O,b.now (.int _) c⟩
 ·cases a
theorem Jc(hc:X.calm=M):eZ X (.builtin "min") (rN X.K (b2 DB)):=by
 intro ag s σ H xs g Q I r h;obtain⟨x,y,mu,S,d,e,j,i,rfl,f,r2,c,a,b⟩:=zy h;unfold DB at a;split at a
 ·cases a;cases f;cases r2;exact yJ hc ag s σ H _ g Q I r ⟨_,_,O,b.now (.int _) c⟩
 ·cases a
end
open PySem.SeqAt
open PySem.AutoSeq1 (wpAny_loadPart')
open PySem.MeetsSeq PySem.MeetsSeq2 PySem.MeetsSeq3
def BI(A:dG)(s:dD)(y x:dB)(b:Bool):Prop:=∀(prog:dF) (w:dH) (E:dB->dD->Prop) (Q:dB->dD->Prop),Q (.bool b) s->dM (model prog w) A (richCompare .Lt y x) Q E s
inductive uk (A:dG)(s:dD):List dB->List dB->Bool->Prop
 |nn:uk A s [] [] false
 |nc (y:dB) (ys:List dB):uk A s [] (y::ys) true
 |cn (x:dB) (xs:List dB):uk A s (x::xs) [] false
 |eq {x y:dB} {xs ys:List dB} {k:Bool} (e:EqAt A.in1 s x y true) (t:uk A s xs ys k):uk A s (x::xs) (y::ys) k
 |lt {x y:dB} {xs ys:List dB} {k:Bool} (e:EqAt A.in1 s x y false) (t:BI A.in1 s x y k):uk A s (x::xs) (y::ys) k
theorem EK(l b:dE)(items items2:Array dB)(n z:Nat)(dd q:Option dE)(sl p:Array (Option dB))(c:Bool):
  Meets (Builtin.«tuple.__lt__» ⟨[.ref l,.ref b],[]⟩) (fun A R s=>s.heap.get? l=some {cls:=.type "tuple",dict:=dd,data:=.seq items n,slots:=sl}/\s.heap.get? b=some {cls:=.type "tuple",dict:=q,data:=.seq items2 z,slots:=p} /\
    uk A s items.toList items2.toList c/\R (.ok (.ret (.bool c))) s):=
 .of_wp λprog w A R s h=>by
  obtain⟨v,g,d,tk,u⟩:=s;obtain⟨E,B,D,h⟩:=h;have G:=AutoSeq1.sub_tuple_tuple
  wp_walk using wpAny_loadPart' E,wpAny_loadPart' B,wpAny_forIn_list _ (λrest b s'=>b.1=Y/\s'=⟨v,g,d,tk,u⟩ /\ ∃vs ws:List dB,rest=vs.zip ws/\uk A ⟨v,g,d,tk,u⟩ vs ws c/\vs.length+items2.size=ws.length+items.size) _
  case turn=>
   rintro⟨y,x⟩ rest b s' ⟨k,rfl,vs,ws,f,r,a⟩;cases r with
   |nn=>cases f
   |nc _ _=>cases f
   |cn _ _=>cases f
   |eq e t=>
    rw[bT]at f;injection f with j i;injection j with m o;subst m o
    simp only[lC1]at a;refine wB1 (e prog w _ _ ?_)
    wp_walk
    exact⟨O,O,_,_,i,t,by lia⟩
   |lt e t=>
    rw[bT]at f;injection f with j i;injection j with m o;subst m o
    refine wB1 (e prog w _ _ ?_);have F:=t prog w
    wp_walk using F
    exact⟨_,O,by simpa using h⟩
  case fin=>
   rintro⟨b1,b2⟩ s' ⟨k,rfl,vs,ws,f,r,a⟩;simp only at k;subst k;have C:c=decide (items.size<items2.size):=by
    cases r with
    |nn=>simp only[bf]at a;exact(ai (by lia)).symm
    |nc _ _=>simp only[bf,lC1]at a;exact(ah (by lia)).symm
    |cn _ _=>simp only[bf,lC1]at a;exact(ai (by lia)).symm
    |eq _ _=>rw[bT]at f;cases f
    |lt _ _=>rw[bT]at f;cases f
   rw[C]at h
   wp_walk
   exact⟨_,O,by simpa[Builtin.Tuple.tupleCompareSizes]using h⟩
  case h=>exact⟨O,O,items.toList,items2.toList,O,D,by simp;lia⟩
theorem AD(l b:dE)(items items2:Array dB)(n C:Nat)(dd B:Option dE)(sl z:Array (Option dB))(c:Bool)(k:Nat):
  ∀i:Nat,items.size-i=k->i<=items.size->i<=items2.size->Meets (Builtin.«list.__eq__.loop» ⟨[.ref l,.ref b,rawInt i,rawInt 0],[]⟩)
   (λA R s=>s.heap.get? l=Z {cls:=.type "list",dict:=dd,data:=.seq items n,slots:=sl}/\s.heap.get? b=Z {cls:=.type "list",dict:=B,data:=.seq items2 C,slots:=z} /\
    uk A s (items.toList.drop i) (items2.toList.drop i) c/\R (.ok (.ret (.bool c))) s):=by
 induction k with
 |zero=>
  intro i F v x prog w A R s h;obtain⟨G,g,d,tk,D⟩:=s;obtain⟨j,f,a,h⟩:=h
  wp_walk using wpAny_loadPart' j,wpAny_loadPart' f
  have o:items[((i:Nat):Int).toNat]?=Y:=by simp;lia
  have r:items.toList.drop i=[]:=by simp;lia
  rw[r]at a;rw[o]
  wp_walk using wpAny_loadPart' j,wpAny_loadPart' f
  have E:c=decide (items.size<items2.size):=by
   cases h2:items2.toList.drop i with
   |nil=>
    rw[h2]at a;cases a;have:=congrArg List.length h2;simp at this;exact(ai (by lia)).symm
   |cons y ys=>
    rw[h2]at a;cases a;have:=congrArg List.length h2;simp at this;exact(ah (by lia)).symm
  show R (.ok (.ret (.bool (decide (items.size<items2.size))))) _;rw[<- E];exact h
 |succ k ih=>
  intro i F v x prog w A R s h;obtain⟨G,g,d,tk,D⟩:=s;obtain⟨j,f,a,h⟩:=h;have p:i<items.size:=by lia
  have r:items.toList.drop i=items[i]::items.toList.drop (i+1):=by simp[bU,p]
  have o:items[((i:Nat):Int).toNat]?=Z items[i]:=by simp[p]
  have hc:((i:Int)+1)=((i+1:Nat):Int):=by push_cast;rfl
  rw[r]at a;rcases bV i items2.size with m|H
  ·have u:items2.toList.drop i=items2[i]::items2.toList.drop (i+1):=by simp[bU,m]
   have q:items2[((i:Nat):Int).toNat]?=Z items2[i]:=by simp[m]
   rw[u]at a
   wp_walk using wpAny_loadPart' j,wpAny_loadPart' f
   rw[o,q];cases a with
   |eq e t=>
    refine wB1 (e prog w _ _ ?_)
    wp_walk
    rw[hc];exact⟨plainId_quiet plain_eq_loop _,wD1 entry_eq_loop (by rw[Around.under_plainId plain_eq_loop _];exact ih (i+1) (by lia) (by lia) (by lia) prog w A R _ ⟨j,f,t,h⟩)⟩
   |lt e t=>
    refine wB1 (e prog w _ _ ?_);have I:=t prog w
    wp_walk using wpAny_loadPart' j,wpAny_loadPart' f
    rw[o,q]
    wp_walk using I
    simpa using h
  ·have q:items2[((i:Nat):Int).toNat]?=Y:=by simp;lia
   have u:items2.toList.drop i=[]:=by simp;lia
   rw[u]at a;cases a
   wp_walk using wpAny_loadPart' j,wpAny_loadPart' f
   rw[o,q]
   wp_walk using wpAny_loadPart' j,wpAny_loadPart' f
   show R (.ok (.ret (.bool (decide (items.size<items2.size))))) _;rw[ai (by lia)];exact h
theorem GA(l b:dE)(items items2:Array dB)(n f:Nat)(dd e:Option dE)(sl a:Array (Option dB))(c:Bool):
  Meets (Builtin.«list.__lt__» ⟨[.ref l,.ref b],[]⟩) (fun A R s=>s.heap.get? l=some {cls:=.type "list",dict:=dd,data:=.seq items n,slots:=sl}/\s.heap.get? b=some {cls:=.type "list",dict:=e,data:=.seq items2 f,slots:=a} /\
    uk A s items.toList items2.toList c/\R (.ok (.ret (.bool c))) s):=by
 intro prog w A R s h;obtain⟨o,g,d,tk,p⟩:=s;obtain⟨j,i,k,h⟩:=h;have m:=AutoSeq1.sub_list_list
 wp_walk using wpAny_loadPart' j,wpAny_loadPart' i
 exact⟨plainId_quiet plain_eq_loop _,wD1 entry_eq_loop (by rw[Around.under_plainId plain_eq_loop _];exact AD l b items items2 n f dd e sl a c _ 0 O (bi _) (bi _) prog w A R _ ⟨j,i,by simpa using k,h⟩)⟩
theorem E2{A:dG}{s:dD}{k:Bool}{l b:dE}{xs ys:Array dB}{c:Bool}(y:SCo k s.heap l xs)(z:SCo k s.heap b ys)(B:A.units<cLine)(h:uk A s xs.toList ys.toList c):BI A s (.ref l) (.ref b) c:=λprog w E Q q=>by
 cases k
 ·obtain⟨⟨t,v,m,r⟩,j,hc,n,o⟩:=id y;obtain⟨⟨p,f,i,g⟩,d,e,u,a⟩:=id z;simp only at hc o e a;subst hc o e a;exact richCompare_meets_room (op:=.Lt) ⟨_,j,O⟩ ⟨_,d,O⟩ PySem.F.slot_tuple_lt PySem.F.entry_tuple_lt (PySem.F.args_tuple_lt_2 _ _) (EK l b xs ys n u v f r g c) ⟨j,d,h,show Value.bool c≠Value.notImplemented/\Q (.bool c) s from⟨(λx=>nomatch x),q⟩⟩ B
 ·obtain⟨⟨t,v,m,r⟩,j,hc,n,o⟩:=id y;obtain⟨⟨p,f,i,g⟩,d,e,u,a⟩:=id z;simp only at hc o e a;subst hc o e a;exact richCompare_meets_room (op:=.Lt) ⟨_,j,O⟩ ⟨_,d,O⟩ PySem.F.slot_list_lt PySem.F.entry_list_lt (PySem.F.args_list_lt_2 _ _) (GA l b xs ys n u v f r g c) ⟨j,d,h,show Value.bool c≠Value.notImplemented/\Q (.bool c) s from⟨(λx=>nomatch x),q⟩⟩ B
noncomputable def oX(f g:D->D->Option Bool):List D->List D->Option Bool
 |[],[]=>Z J
 |[],_::_=>Z M
 |_::_,[]=>Z J
 |x::xs,y::ys=>(f x y).bind λb=>if b=M then oX f g xs ys else g x y
noncomputable def JE:D->D->Option Bool
 | .int i,.int j=>Z (decide (i<j))
 | .str x,.str y=>Z (decide (x.cps.toList<y.cps.toList))
 |_,_=>Y
noncomputable def ka(S:Sto):Nat->D->D->Option Bool
 |0,_,_=>Y
 |n+1,d,e=>match JE d e with
  |some b=>Z b
  |none=>match d4 S d,d4 S e with
   |some p,Z q=>if p.1=q.1 then oX (fU S n) (ka S n) p.2 q.2 else Y
   |_,_=>Y
noncomputable def wS:G2:=λd e S=>(ka S eL d e).map λb=>(.bl b,S)
section
variable{X:Cx}{ag:List (dE×Obj)}{σ:L2.St}{H:Hp}{s:dD}{mu:List dE}{S:Sto}
theorem AC(I:Inv X ag σ H s)(hs:Sim X.K H mu S){n:Nat}{A:dG}(q:A.units+1+n<cLine)(ih:∀ {d e:D} {v w:V} {u z:dB} {b:Bool},eH X.K H mu d v->eH X.K H mu e w->d5 v u->d5 w z->ka S n d e=some b->BI A.in1 s u z b):
  ∀{xs ys:List D} {vs ws:List V} {f zs:List dB} {b:Bool},d2 X.K H mu xs vs->d2 X.K H mu ys ws->ee vs f->ee ws zs->oX (fU S n) (ka S n) xs ys=Z b->uk A s f zs b
 :=by
 intro xs
 induction xs with
 |nil=>
  intro ys vs ws f zs b a r2 g c h;cases a;cases g;cases r2 with
  |nil=>cases c;cases h;exact .nn
  |cons _ _=>cases c;cases h;exact .nc _ _
 |cons x xs r=>
  intro ys vs ws f zs b a r2 g c h;cases a with
  |cons a l=>
   cases g with
   |cons i o=>
    cases r2 with
    |nil=>cases c;cases h;exact .cn _ _
    |cons r2 m=>
     cases c with
     |cons j p2=>
      rw[oX]at h;obtain⟨k,p,h⟩:=oB1.mp h;have eq:=(l0 I hs n (A:=A.in1) q a r2 i j p).1;cases k with
      |true=>exact .eq eq (r l m o p2 h)
      |false=>exact .lt eq (ih a r2 i j h)
theorem vb(I:Inv X ag σ H s)(hs:Sim X.K H mu S):∀(n:Nat) {A:dG} {d e:D} {v w:V} {u z:dB} {b:Bool},A.units+n<cLine->eH X.K H mu d v->eH X.K H mu e w->d5 v u->d5 w z->ka S n d e=Z b->BI A s u z b
 |0,_,_,_,_,_,_,_,_,_,_,_,_,_,h=>by cases h
 |n + 1,A,d,e,v,w,u,z,b,W,f,m,j,o,h=>by
  rw[ka]at h;split at h
  ·rename_i k c;cases h;unfold JE at c;split at c
   ·cases c;cases f;cases m;obtain⟨t,rfl⟩:=j;obtain⟨l,rfl⟩:=o;exact λprog w E Q q=>(PyProof.Rows.lt_int q:dM (model prog w) A (compareOp .Lt (.int _ t) (.int _ l)) Q E s)
   ·cases c;cases f;cases m;obtain⟨t,rfl⟩:=j;obtain⟨l,rfl⟩:=o;exact λprog w E Q q=>(PyProof.Rows.lt_str q:dM (model prog w) A (compareOp .Lt (.str _ t) (.str _ l)) Q E s)
   ·cases c
  ·split at h
   ·rename_i p q K T;split at h
    ·rename_i N;obtain⟨U,xs⟩:=p;obtain⟨qb,ys⟩:=q;have g:U=qb:=N;subst g;obtain⟨a,vs,rfl,C,B⟩:=d6 f hs K;obtain⟨a2,y,rfl,F,G⟩:=d6 m hs T;cases j;cases o;obtain⟨L,au,am,_⟩:=fm I C;obtain⟨x,i,r,_⟩:=fm I F;refine E2 am r (by lia) ?_;have:=AC I hs (A:=A) (n:=n) (by lia) (λP r2 ao R h=>vb I hs n (A:=A.in1) (by show A.units+1+n<cLine;lia) P r2 ao R h) B G au i h;simpa using this
    ·cases h
   ·cases h
theorem nX(l:X.A.units+64<cLine):fV X (compareOp .Lt) (r2 X.K (b2 wS)):=by
 intro ag s σ H x y u w Q I j i h;obtain⟨mu,S,d,e,r,k,f,r2,c,a,hc⟩:=pE h;obtain⟨b,g,a⟩:=oM1.mp a;cases a;exact vb I c eL (by show _+60<cLine;lia) f r2 j i g X.prog X.w X.xe _ ⟨.bl b,H,I,O,hc.now (.bl b) c⟩
end
inductive Ty where
 |int|bool|str|tuple|list|dict
 deriving DecidableEq
noncomputable def Ty.nm:Ty->String
 | .int=>"int" | .bool=>"bool" | .str=>"str" | .tuple=>"tuple" | .list=>"list" | .dict=>"dict"
noncomputable def vd (S:Sto)(T:Ty):D->Option Bool
 | .non=>some false
 | .bl _=>some (decide (T = .bool)||decide (T = .int))
 | .int _=>some (decide (T = .int))
 | .str _=>some (decide (T = .str))
 | .tup _=>some (decide (T = .tuple))
 | .rol _=>some (decide (T = .list))
 | .ref n=>match S[n]? with
  |some (.lst _)=>some (decide (T = .list))
  |some (.dct _)=>some (decide (T = .dict))
  |some (.dcT _)=>some (decide (T = .dict))
  |_=>none
 | .fn _=>none
noncomputable def j9(T:Ty)(m:FE):FE:=λr S=>(m r S).bind λp=>(vd p.2 T p.1).map λb=>(.bl b,p.2)
section
variable{X:Cx}{ag:List (dE×Obj)}{σ:L2.St}{H:Hp}{s:dD}{mu:List dE}{S:Sto}{K:Fg1}
theorem Dj(T:Ty):PySem.W.kitOne K (.type "NoneType") (.type T.nm)=Z J:=by cases T<;>rfl
theorem GH(T:Ty):PySem.W.kitOne K (.type "bool") (.type T.nm)=Z (decide (T = .bool)||decide (T = .int)):=by cases T<;>rfl
theorem Dl(T:Ty):PySem.W.kitOne K (.type "int") (.type T.nm)=Z (decide (T = .int)):=by cases T<;>rfl
theorem Di(T:Ty):PySem.W.kitOne K (.type "str") (.type T.nm)=Z (decide (T = .str)):=by cases T<;>rfl
theorem Dh(T:Ty):PySem.W.kitOne K (.type "tuple") (.type T.nm)=Z (decide (T = .tuple)):=by cases T<;>rfl
theorem Dk(T:Ty):PySem.W.kitOne K (.type "list") (.type T.nm)=Z (decide (T = .list)):=by cases T<;>rfl
theorem wH(T:Ty):PySem.W.kitOne K (.type "dict") (.type T.nm)=Z (decide (T = .dict)):=by cases T<;>rfl
theorem Dr{T:Ty}{d:D}{v:V}{u:dB}{b:Bool}{Q:dB->dD->Prop}{E:dB->dD->Prop}(I:Inv X ag σ H s)(hs:Sim X.K H mu S)(r:eH X.K H mu d v)(f:d5 v u)(h:vd S T d=some b)(q:∀ tk,Q (.bool b) {s with toks:=tk}):
  dM (model X.prog X.w) X.A (call (.builtin "isinstance") [u,.type T.nm]) Q E s:=by
 have j:∀{k:Bool} {a:dE} {vs:List V},vJ X.K k H a vs->b=(match k with|true=>decide (T = .list)|false=>decide (T = .tuple))->dM (model X.prog X.w) X.A (call (.builtin "isinstance") [.ref a,.type T.nm]) Q E s:=λ{k a vs} g w=>by
  obtain⟨y,C,p,_⟩:=fm I g;cases k
  ·obtain⟨o,e,c,_⟩:=p;subst w;exact PySem.W.kia_one PySem.W.kitx_tuple I.kIn ⟨o,e,c⟩ (Dh T) (λz=>nomatch z) q
  ·obtain⟨o,e,c,_⟩:=p;subst w;exact PySem.W.kia_one PySem.W.kitx_list I.kIn ⟨o,e,c⟩ (Dk T) (λz=>nomatch z) q
 cases d with
 |non=>cases h;cases r;exact iz I f .non (Dj T) q
 |bl k=>cases h;cases r;exact iz I f (.bl k) (GH T) q
 |int i=>cases h;cases r;exact iz I f (.int i) (Dl T) q
 |str x=>cases h;cases r;exact iz I f (.str x) (Di T) q
 |tup xs=>
  cases h;obtain⟨a,vs,rfl,g,t⟩:=d6 (S:=S) r hs O;cases f;exact j g O
 |fn x=>cases h
 |rol xs=>
  cases h;obtain⟨a,vs,rfl,g,t⟩:=d6 (S:=S) r hs O;cases f;exact j g O
 |ref n=>
  rw[vd]at h;split at h
  ·rename_i xs e;cases h;obtain⟨a,vs,rfl,g,t⟩:=d6 (S:=S) r hs (by rw[d4,e]);cases f;exact j g O
  ·rename_i ks e;cases h;cases r with
   |ref m=>
    obtain⟨ws,l,_⟩:=hs.dct e m;exact iz I f (.dK l) (wH T) q
  ·rename_i ks e;cases h;cases r with
   | @ref _ a m=>
    cases(show u=Value.ref a from f);obtain⟨ws,l,_⟩:=hs.dcT e m;obtain⟨⟨_,_,o,_,_,A,B,_⟩,_⟩:=(show eG X.prog X.w H s.heap a (.ext (gf a ws))from I.hok a _ l);exact PySem.W.kia_one PySem.W.kitx_dict I.kIn ⟨o,A,B.1⟩ (wH T) (λz=>nomatch z) q
  ·cases h
theorem Bo(T:Ty):eZ X (.builtin "isinstance") (λxs H Q=>∃x mu S d b,xs=[x,.ty T.nm]/\eH X.K H mu d x/\Sim X.K H mu S/\vd S T d=Z b/\Q (.bl b) H):=by
 intro ag s σ H xs g Q I r h;obtain⟨x,mu,S,d,b,rfl,c,a,e,hc⟩:=h;obtain⟨u,i,rfl,f,rt⟩:=y4 r;cases rt;exact Dr I a c f e λtk=>⟨.bl b,H,I.tok tk,O,hc⟩
theorem xY (T:Ty){e:Expr}{m:FE}{nm:Str}{p p2 pos:Pos}(hg:Gl X "isinstance")(hm:X.mg "isinstance"=none)(hg2:Gl X nm)(hm2:X.mg nm=none)(hv2:bootBuiltins nm=some (.type T.nm))(h:ME X e m)
  (hn:nm≠"__name__":=by decide) (hd:(nm == ("__debug__":Str))=J:=by decide)
  (hs1:dJ [e,.Name nm p2] X.env=(J,eval e X.env)::dJ [.Name nm p2] X.env:=by rfl) (hs2:dJ [.Name nm p2] X.env=(J,eval (.Name nm p2) X.env)::dJ [] X.env:=by rfl)
  (hpl:(backTo pos (dJ [.Name nm p2] X.env)).any (·.1)=J:=by rfl):ME X (.Call (.Name "isinstance" p) [e,.Name nm p2] [] pos) (j9 T m):=
 eR (nT (Bo T) hg hm (by decide+kernel) (jC h (jC (CI (v:=.ty T.nm) hg2 hm2 hv2 O hn hd) nV hs2) hs1) (by decide) (by decide) hs1 hpl) <| by
  rintro σ H Q ⟨r,mu,S,d,n,f,g,hm,hc⟩;obtain⟨⟨a,o⟩,k,hm⟩:=oB1.mp hm;obtain⟨b,j,hm⟩:=oM1.mp hm;cases hm;refine⟨r,mu,S,a,_,f,g,k,λv H1 mu1 l i c=>?_⟩;exact⟨v,mu1,_,a,b,O,i,c,j,hc _ H1 mu1 l (.bl b) c⟩
end
abbrev FO:=Ev->Sto->Option (Option Int×Sto)
noncomputable def Le(K:Fg1)(m:FO):TO:=fun σ H Q=>∃r mu S o S',fB K H mu r σ/\Sim K H mu S/\m r S=Z (o,S') /\ ∀H' mu',Ext mu mu' H H'->Sim K H' mu' S'->Q o H'
abbrev MO(X:Cx)(e:Option Expr)(m:FO):Prop:=PO X e (Le X.K m)
noncomputable def pO:FO:=λ_ S=>Z (Y,S)
noncomputable def pN(m:FE):FO:=λr S=>(m r S).bind λp=>match p.1 with
 | .int i=>Z (Z i,p.2)
 |_=>Y
noncomputable def yD(xs:List D)(lo hi:Option Int):List D:=(xs.drop (HT.sIx xs.length 0 lo)).take (HT.sIx xs.length xs.length hi-HT.sIx xs.length 0 lo)
section
variable{X:Cx}
theorem C0:MO X Y pO:=by
 rintro ag s σ H Q I ⟨r,mu,S,o,c,d,b,a,hc⟩;cases a;exact Cz ag s σ H Q I (hc H mu (.refl _ _) b)
theorem CZ{e:Expr}{m:FE}(h:ME X e m):MO X (Z e) (pN m):=by
 rintro ag s σ H Q I ⟨r,mu,S,o,l,b,c,a,hc⟩;obtain⟨⟨d,n⟩,g,a⟩:=oB1.mp a;cases d with
 |int i=>
  cases a;refine Cy h ag s σ H Q I ⟨r,mu,S,_,_,b,c,g,λv H1 mu1 k f j=>?_⟩;cases f;exact⟨i,O,hc H1 mu1 k j⟩
 |_=>cases a
theorem w5{K:Fg1}{H:Hp}{mu:List dE}{ds:List D}{vs:List V}(t:d2 K H mu ds vs)(lo hi:Option Int):d2 K H mu (yD ds lo hi) (t7 vs lo hi):=by
 unfold yD t7;rw[<- t.length];exact(t.drop _).take _
noncomputable def HG(ta:TA):TE:=fun σ H Q=>ta σ H λvs H1=>∃j:Int,vs=[.int j] /\ ∀p,H1 p=Y->Q (.ref p) (upd H1 p (.rng 0 j))
theorem xO {a:Expr}{ta:TA}{p pos:Pos}(hg:Gl X "range")(hm:X.mg "range"=Y)(ha:PA X [a] ta)(hs:dJ [a] X.env=[(J,eval a X.env)]:=by rfl):PE X (.Call (.Name "range" p) [a] [] pos) (HG ta):=by
 intro ag s σ H Q I h;refine Call_ (kb I hg hm boot_range (PyProof.Rows.callWith_type1 (fh (ha pos ag s σ H _ I h) λk i ⟨vs,H1,c,d,f⟩=>?_) hs O));obtain⟨j,e,q⟩:=f;subst e;cases d with
 |cons r g=>
  cases g;obtain⟨t,rfl⟩:=r;refine call_range_1 ⟨.ref i.heap.objs.size,_,c.laid (λb o e=>hP1 _ e) (nR1 _) (o:=.rng 0 j) ?_,O,q _ (c.hok.fresh (nR1 _))⟩;exact⟨_,_,_,hS1 _ O⟩
noncomputable def mL(i:Int):Nat->List V
 |0=>[]
 |n+1=>.int i::mL (i+1) n
theorem nP:∀(n:Nat) (i:Int),(mL i n).length=n
 |0,_=>rfl
 |n+1,i=>by rw[mL,lC1,nP n]
theorem sE:∀(n:Nat) (i:Int) (k:Nat) (v:V),(mL i n)[k]?=Z v->v = .int (i+k)
 |0,i,k,v,h=>by simp[mL]at h
 |n+1,i,0,v,h=>by simp[mL]at h;rw[<- h];simp
 |n+1,i,k+1,v,h=>by
  rw[mL,gC1]at h;rw[sE n (i+1) k v h,show i+1+(k:Int)=i+((k+1:Nat):Int) by push_cast;lia]
theorem sD{K:Fg1}{H:Hp}{mu:List dE}:∀(n:Nat) (i:Int),d2 K H mu (gM i n) (mL i n)
 |0,_=>.nil
 |n+1,i=>.cons (.int i) (sD n (i+1))
theorem vQ:∀{xs:List V} {a:List dB},xs.length=a.length->(∀(i:Nat) x u,xs[i]?=Z x->a[i]?=Z u->d5 x u)->ee xs a
 |[],[],_,_=>.nil
 |x::xs,u::a,h,f=>.cons (f 0 x u O O) (vQ (by simpa using h) λi y w h1 h2=>f (i+1) y w (by simpa using h1) (by simpa using h2))
 |[],_::_,h,_=>by simp at h
 |_::_,[],h,_=>by simp at h
theorem DV(hc:X.calm=M):eZ X (.type "list") (λxs H Q=>∃p i j,xs=[.ref p]/\H p=Z (.rng i j)/\(-(2^62)<=i/\i<2^62 /\ -(2^62)<=j/\j<2^62)/\(j-i).toNat<=2^20 /\ ∀l,H l=Y->Q (.ref l) (upd H l (.lst (mL i (j-i).toNat)))):=by
 intro ag s σ H xs F Q I r h;obtain⟨p,i,j,rfl,D,⟨h1,h2,o,y⟩,f,q⟩:=h;obtain⟨u,rfl,E⟩:=g0 r;cases E;obtain⟨t,u,v,e⟩:=I.hok p _ D;have B:(((j-i).toNat:Nat):Int)=Builtin.Range.rangeSize i j 1:=by rw[rangeSize_one];split<;>lia
 refine call_list_range (n:=(j-i).toNat) (I.ok.hd hc) e (small_one h1 h2 o y) B.symm (aC f (by decide)) λh' tk c A C z hi=>?_;obtain⟨d,a⟩:=hi;have b:ee (mL i (j-i).toNat) c.toList:=vQ (by rw[nP];simpa using d.symm) λk x u g m=>by
  rw[sE _ _ _ _ g];obtain⟨w,rfl⟩:=a k u (by simpa using m);exact⟨w,by rw[Int.mul_one]⟩
 refine⟨.ref s.heap.objs.size,_,I.laid (t':=tk) C (nR1 _) (show eG X.prog X.w _ h' _ (.lst (mL i (j-i).toNat))from⟨?_,c.toList,A,b,by simpa using z⟩),O,q _ (I.hok.fresh (nR1 _))⟩;rw[nP];exact aC f (by decide)
noncomputable def v3(i j:Int):Bool:=decide (-(2^62)<=i)&&decide (i<2^62)&&decide (-(2^62)<=j)&&decide (j<2^62)&&decide ((j-i).toNat<=2^20)
noncomputable def x4(m:FA):FE:=λr S=>(m r S).bind λp=>match p.1 with
 |[.int j]=>if v3 0 j=M then Z (.ref p.2.length,p.2++[.lst (gM 0 j.toNat)])else Y
 |_=>Y
theorem sF{i j:Int}(h:v3 i j=M):(-(2^62)<=i/\i<2^62 /\ -(2^62)<=j/\j<2^62)/\(j-i).toNat<=2^20:=by
 unfold v3 at h;simp only[bA1,al]at h;obtain⟨⟨⟨⟨h1,h2⟩,c⟩,a⟩,b⟩:=h;exact⟨⟨h1,h2,c,a⟩,b⟩
theorem GB{K:Fg1}{mu:List dE}{H H1:Hp}{S1:Sto}{i j:Int}{Q:VK}{mu1:List dE}(c:Ext mu mu1 H H1)(a:Sim K H1 mu1 S1)(hc:ph K mu H (.ref S1.length) (S1++[.lst (gM i (j-i).toNat)]) Q){p l:dE}(hp:H1 p=none)(b:upd H1 p (.rng i j) l=none):
  Q (.ref l) (upd (upd H1 p (.rng i j)) l (.lst (mL i (j-i).toNat))):=
 hc _ _ (mu1++[l]) ((c.trans (Ext.fresh hp)).trans (Ext.new_ b)) (.ref (fQ a.len l)) ((a.fresh hp).newL (sD _ _) b)
theorem xX {a:Expr}{m:FA}{f p2 b c:Pos}(hc:X.calm=true)(hg:Gl X "range")(hm:X.mg "range"=none)(hg2:Gl X "list")(hm2:X.mg "list"=none)(ha:MA X [a] m)(hs:dJ [a] X.env=[(false,eval a X.env)]:=by rfl)
  (hs2:dJ [.Call (.Name "range" f) [a] [] b] X.env=[(J,eval (.Call (.Name "range" f) [a] [] b) X.env)]:=by rfl):ME X (.Call (.Name "list" p2) [.Call (.Name "range" f) [a] [] b] [] c) (x4 m):=
 eR (lP (DV hc) hg2 hm2 (by decide+kernel) (jC (xO hg hm ha hs) nV hs2) (by decide) (by decide) hs2) <| by
  rintro σ H Q ⟨r,mu,S,d,u,h,hs,hm,e⟩;obtain⟨⟨ds,w⟩,n,hm⟩:=oB1.mp hm;dsimp only at hm;split at hm
  ·rename_i j;split at hm
   ·rename_i g;cases hm;refine⟨r,mu,S,_,_,h,hs,n,λvs H1 mu1 s i o=>?_⟩;obtain⟨v,rfl,q⟩:=sH i;cases q;refine⟨j,O,λp t=>⟨p,0,j,O,d8,(sF g).1,(sF g).2,λl k=>GB s o (by rw[Int.sub_zero];exact e) t k⟩⟩
   ·cases hm
  ·cases hm
end
noncomputable def lY:G2:=λo v S=>match o with
 | .ref n=>match S[n]? with
  |some (.lst xs)=>if xs.length<dL then Z (.non,S.set n (.lst (xs++[v])))else Y
  |_=>Y
 |_=>Y
noncomputable def AX:G2:=λo i S=>match o,i with
 | .ref n,.int k=>match S[n]? with
  |some (.lst xs)=>if-(2^63)<=k/\k<2^63 then(yd xs.length k).bind λj=>(xs[j]?).map λy=>(y,S.set n (.lst (xs.eraseIdx j)))else Y
  |_=>Y
 |_,_=>Y
noncomputable def tm (f:FN)(o:FE)(a:FA):FE:=λr S=>(o r S).bind λp=>match p.1 with
 | .ref n=>match p.2[n]? with
  |some (.lst _)=>(a r p.2).bind λq=>f (p.1::q.1) q.2
  |_=>none
 |_=>none
section
variable{X:Cx}
theorem HD:Ew X "list.append" (λx xs H Q=>rN X.K (b2 lY) (x::xs) H Q):=by
 intro ag s σ H x xs v j Q I o m h;obtain⟨p,y,mu,S,d,e,r,q,g,i,r2,f,a,hc⟩:=zy h;cases g;cases d with
 |ref n=>
  rw[lY]at a;split at a
  ·rename_i ys k;split at a
   ·rename_i l;cases a;cases i with
    |ref b=>
     obtain⟨vs,c,t⟩:=f.lst k b;refine pQ ag s σ H _ [y] v j Q I o m ⟨_,vs,y,O,O,c,by rw[<- t.length];exact l,?_⟩;exact hc _ _ mu (Ext.put c trivial (gM1 b)) .non (f.putL (t.append (.cons r2 .nil)) b c)
   ·cases a
  ·cases a
 |_=>cases a
theorem HB:Ew X "list.pop" (λx xs H Q=>rN X.K (b2 AX) (x::xs) H Q):=by
 intro ag s σ H x xs v q Q I C B h;obtain⟨D,y,mu,S,d,e,F,E,l,p,r2,g,a,hc⟩:=zy h;cases l;unfold AX at a;split at a
 ·rename_i n k;split at a
  ·rename_i ys r;split at a
   ·rename_i i;obtain⟨j,A,a⟩:=oB1.mp a;obtain⟨z,o,a⟩:=oM1.mp a;cases a;cases p with
    |ref c=>
     cases r2;obtain⟨vs,f,t⟩:=g.lst r c;obtain⟨w,m,b⟩:=t.get o;refine Ah ag s σ H _ [.int k] v q Q I C B ⟨_,vs,k,j,w,O,O,f,i.1,i.2,?_,m,?_⟩
     ·rw[<- t.length];exact(rF A).1
     ·have x:=Ext.put (u:=.lst (vs.eraseIdx j)) f trivial (gM1 c);exact hc _ _ mu x (b.ext x) (g.putL (t.eraseIdx j) c f)
   ·cases a
  ·cases a
 ·cases a
theorem As {o e:Expr}{es:List Expr}{m:FE}{a:FA}{f:FN}{name:Str}{apos cpos:Pos}{id:String}(slot:Slot "list" name id)(hty:typeOf (.builtin id)=pure (.type "method_descriptor"))(hm:Ew X id (fun x xs H Q=>rN X.K f (x::xs) H Q))(ho:ME X o m)(ha:MA X (e::es) a)
  (hbase:attributeBase o name X.env (eval o X.env)=eval o X.env:=by rfl)
  (hfew:((backTo cpos (dJ (e::es) X.env)).all (λx=> !x.1)&&(backToKw cpos (keywordEach [] X.env)).all (λx=>x.1.isSome)&&decide ((e::es).length+([]:List Keyword).length+(if([]:List Keyword).isEmpty then 0 else 1)<30))=M:=by rfl)
  (hline:(apos.endLine == cpos.line)=M:=by rfl) (hs:dJ (e::es) X.env=(J,eval e X.env)::dJ es X.env:=by rfl) (hplain:(backTo cpos (dJ es X.env)).any (·.1)=J:=by rfl):
  ME X (.Call (.Attribute o name apos) (e::es) [] cpos) (tm f m a):=
 eR (Ih PySem.F.plainAttrs_list slot hty hm ho ha hbase hfew hline hs hplain) <| by
  rintro σ H Q ⟨r,mu,S,d,A,q,hs,hm,hc⟩;obtain⟨⟨i,l⟩,w,hm⟩:=oB1.mp hm;refine⟨r,mu,S,i,l,q,hs,w,λv H1 mu1 h p k=>?_⟩;cases i with
  |ref n=>
   dsimp only at hm;split at hm
   ·rename_i xs E;obtain⟨⟨ds,g⟩,s,hm⟩:=oB1.mp hm;refine⟨?_,r,mu1,l,ds,g,q.ext h,k,s,λvs H2 c j r2 D=>?_⟩
    ·cases p with
     |ref u=>
      obtain⟨vs,C,t⟩:=k.lst E u;exact .inl ⟨O,vs,mW.of C⟩
    ·exact⟨c,g,.ref n::ds,d,A,.cons (p.ext j) r2,D,hm,λz B b y=>hc z B b ((h.trans j).trans y)⟩
   ·cases hm
  |_=>cases hm
end
theorem wa{X:Cx}(hc:X.calm=true){elt tg iter:Expr}{ifs:List Expr}{rest:List Comprehension}{scope:dS}{pos n N:Pos}{y:Str}{i:Nat}{T:List Str}{keep:List Nat}{t:List (Str×dE)}{wi:TI}{g:TG}{ti:TT}{tb:dE->TS}{emit:dB->Env->Sem Unit}(W:swapsWith (.ListComp elt (⟨tg,iter,ifs,0⟩::rest) scope pos) (some (.Name y N)) n.line X.env=pure true)(eq:∀it A k,compTurn (.ListComp elt (⟨tg,iter,ifs,0⟩::rest) scope pos) 0 it A k=kw iter.pos tg ifs it k (emit A k) (.compLoop (.ListComp elt (⟨tg,iter,ifs,0⟩::rest) scope pos) 0 it A k))(C:Ho X scope T keep)(ao:iY X.env.cells scope.names []=some t)(hi:PI X tg iter wi)(hb:∀s H d p,PG (cxC X scope t T keep s H d) tg g/\oP (cxC X scope t T keep s H d) ifs ti/\PU (cxC X scope t T keep s H d) (emit (.ref p) (cxC X scope t T keep s H d).env) (tb p))(hN:X.N.Nodup)(hy:X.N[i]?=some y)(hx:yO X.env.scope y)(hf:X.fn y=true\/X.env.scope.names.lookup y=some .local)(hs:∀x,foldedSetIterable iter X.env x=pure x:=by intro _;rfl):
  PS X (.Assign [.Name y N] (.ListComp elt (⟨tg,iter,ifs,0⟩::rest) scope pos) n) (zo (vX T.length keep wi g ti tb) (wR i)):=by
 intro ag s σ H D I h;rw[exec_Assign_Name_used _ _ _ _ W];refine wB1 (wpAny_standAt (wB1 ?_));show dM _ X.A (do let _<-comprehension (.ListComp elt (⟨tg,iter,ifs,0⟩::rest) scope pos) scope X.env _ (newList []) J (eval iter X.env) (Z (assign (.Name y N) X.env))) _ _ s;refine wB1 (wpAny_mono (wpAny_comprehension_free (use:=Z (assign (.Name y N) X.env)) (Q:=λ_ s'=>SP X ag D .next s') O hs (Bj ao) C.kind C.names ?_) (λ_ s' hq=>wP1 (wP1 hq)) λ_ _ e=>e);refine fh (hi ag s σ H _ I h) λv s1 h1=>fh h1 λitv a h2=>?_;obtain⟨it,d,tn,am,H2,rfl,I2,TT,F,f2,q2⟩:=h2;refine wO1 ?_;have u:Inv X ag σ (upd H2 a.heap.objs.size (.lst [])) {a with heap:=a.heap.push {cls:=.type "list",data:=.seq ([]:List dB).toArray}}:=I2.lnew (t':=a.toks) .nil (bi _);have old:∀b∈d,∃o,a.heap.get? b=Z o:=λb hb=>by
  obtain⟨o,e,_⟩:=TT.obj 0 a.heap F b hb;exact⟨o,e⟩
 have V:∀b∈d,b≠a.heap.objs.size:=λb hb z=>by
  obtain⟨o,e⟩:=old b hb;have:=hL1 e;rw[z]at this;exact az _ this
 have R:∀b∈d,jP X ag (upd H2 a.heap.objs.size (.lst [])) b:=λb hb=>⟨by rw[dY (V b hb)];exact(f2 b hb).1,(f2 b hb).2⟩;have o3:∀b∈d,∃o,({a with heap:=a.heap.push {cls:=.type "list",data:=.seq ([]:List dB).toArray}}:dD).heap.get? b=Z o:=λb hb=>by
  obtain⟨o,e⟩:=old b hb;exact⟨o,hP1 _ e⟩
 have P:=tG u C ao R o3;obtain⟨hg,wq,he⟩:=hb {a with heap:=a.heap.push {cls:=.type "list",data:=.seq ([]:List dB).toArray}} (upd H2 a.heap.objs.size (.lst [])) d a.heap.objs.size;refine jV ?_;have f4:∀b∈d,jP (cxC X scope t T keep {a with heap:=a.heap.push {cls:=.type "list",data:=.seq ([]:List dB).toArray}} (upd H2 a.heap.objs.size (.lst [])) d) [] (upd H2 a.heap.objs.size (.lst [])) b:=λb hb=>
  ⟨(R b hb).1,(P.ok.exf b hb).1,P.ok.exfs b hb,.inl hb,(P.ok.exf b hb).2,λp K=>absurd (show p∈([]:List (dE×Obj))from K) (by simp)⟩
 have E:tn 0 (pushCells ((a.heap.push {cls:=.type "list",data:=.seq ([]:List dB).toArray}).push {cls:=.type "dict",data:=.dict #[]}) scope.names):=
  TT.keep 0 a.heap _ F λb hb o e=>pushCells_keeps scope.names _ b o (hP1 _ (hP1 _ e))
 have l:=l6 (X:=cxC X scope t T keep {a with heap:=a.heap.push {cls:=.type "list",data:=.seq ([]:List dB).toArray}} (upd H2 a.heap.objs.size (.lst [])) d) O hc (eq (.ref it) (.ref a.heap.objs.size) _) TT hg wq he P E f4
  (q2 a.heap.objs.size (I2.hok.fresh (nR1 _)))
 refine codeAny_mono (codeAny_compStart_list l (TT.self X.A 0 _ _ _ E l)) λr s' hr=>?_;cases r with
 |error e=>exact hr.elim
 |ok f=>
  obtain⟨σ',H',B,q'⟩:=hr;have J1:Inv X ag σ H' s':=u.call' (s':=s') (ch:=d) B.os B.base B.hok B.bare λb hb=>(R b hb).2.2.2 |> λz=>⟨z.1,(R b hb).2.1,z.2.1,z.2.2⟩
  -- the block's own dict is kept aside
  obtain⟨m,hn,_⟩:=id B.loc;obtain⟨au,es,ep,eC,dC,rC⟩:=id hn;have hCz:(a.heap.push {cls:=.type "list",data:=.seq ([]:List dB).toArray}).get? (a.heap.push {cls:=.type "list",data:=.seq ([]:List dB).toArray}).objs.size=Y:=Heap.get?_none_of_le (nR1 _);have L:(a.heap.push {cls:=.type "list",data:=.seq ([]:List dB).toArray}).objs.size≠X.env.locals:=λz=>by
   have:=u.lt;rw[<- z]at this;exact az _ this
  have S:H' (a.heap.push {cls:=.type "list",data:=.seq ([]:List dB).toArray}).objs.size=Y:=B.free;have J2:Inv X (ag++[((a.heap.push {cls:=.type "list",data:=.seq ([]:List dB).toArray}).objs.size,au)]) σ H' s':=J1.pins_of λp K=>by
   rcases aG.mp K with z|z
   ·exact J1.pin p (mA1 _ z)
   ·have z':p=((a.heap.push {cls:=.type "list",data:=.seq ([]:List dB).toArray}).objs.size,au):=by simpa using z
    subst z';exact⟨eC,S,L,u.nofs (nR1 _),λv q=>by rw[dC]at q;cases q⟩
  refine fh (wd hN hy hx hf _ s' σ H' (.ref a.heap.objs.size) (.ref a.heap.objs.size) D.nx J2 O q') λ_ s5 ⟨G,H5,J5,q5⟩=>?_;obtain⟨e5,n5,_⟩:=J5.pin ((a.heap.push {cls:=.type "list",data:=.seq ([]:List dB).toArray}).objs.size,au) (mA1 _ (mA1 _ mS1));refine⟨m,⟨au,es,ep,e5,dC,rC⟩,λh' U=>?_⟩;have J6:Inv X ag G H5 s5:=J5.unpinned;refine⟨G,H5,J6.turned (t':=s5.toks) (λb o hb e=>(U.2 b hb).trans e) n5 L (.inr ?_) (λx c w z=>?_) (λp K z=>?_),q5⟩
  ·exact u.sz
  ·obtain⟨w',zc⟩:=u.cell x c w;have j:=zc.lt;rw[z]at j;exact az _ j
  ·obtain⟨aq,_⟩:=u.pin p K;have j:=hL1 aq;rw[z]at j;exact az _ j
section
variable{X:Cx}
theorem Bx{K:Fg1}{te:TE}{m:FE}{i:Nat}(hm:∀ σ H Q,tM K m σ H Q->te σ H Q){E:i0}{σ:L2.St}{H:Hp}(h:vW K (eA m (gN i)) E σ H):zo te (wR i) E σ H:=by
 obtain⟨r,mu,S,d,f,h1,h2,c,l⟩:=rE h;refine hm _ _ _ ⟨r,mu,S,d,f,h1,h2,c,λv H' mu' p j o=>?_⟩;obtain⟨r2,a,t,q,s,u,e,g,n,b,k⟩:=l v H' mu' p j o;cases b;exact k _ H' a (.refl _ _) (e.set n) g
theorem mv (i:Nat){x:Str}{pos:Pos}(hN:X.N[i]? = some x:=by rfl)(hv:Hf X.env.scope x:=by first | exact Or.inl rfl | exact Or.inr (Or.inl rfl) | exact Or.inr (Or.inr rfl))(hd:(x == ("__debug__":Str))=false:=by decide)(hcd:(x == ("__classdict__":Str))=false:=by decide):
  ME X (.Name x pos) (mV i):=Gk i hN hv hd hcd
end
def fg(P:dF)(w:dH)(K:Fg1)(mg:Str->Option dB)(base:dP)(k:Nat)(x:Str)(n:Nat)(m:FN):Prop:=
 ∃(f:dE) (fd:dQ) (ps:List Str),jQ P w K mg base uo k f fd ps (BO K n m)/\lE K fd ps []/\wK1 K (.ref f)=M/\mg x=Z (.ref f)
theorem Go {X:Cx}{k k' n:Nat}{x:Str}{m:FN}{p pos:Pos}{e:Expr}{es:List Expr}{a:FA}(h:fg X.prog X.w X.K X.mg X.base k x n m)(hr:fN k' X.A)(hk:k<=k')(hg:Gl X x)(ha:MA X (e::es) a)(hdb:(x == ("__debug__":Str))=false:=by decide)
  (he:dJ (e::es) X.env=(J,eval e X.env)::dJ es X.env:=by rfl) (hpl:(backTo pos (dJ es X.env)).any (·.1)=J:=by rfl):ME X (.Call (.Name x p) (e::es) [] pos) (mN (dW n m) a):=by
 obtain⟨f,fd,ps,F,b,c,d⟩:=h;exact C7 F (hr.mono hk) hg d c b ha hdb he hpl
theorem FK{P:dF}{w:dH}{K:Fg1}{mg:Str->Option dB}{base:dP}{x a:Str}{st:dR}{f:dE}{fd:dQ}{N ps:List Str}{k n:Nat}{b:FS}(F:yU K x a st f fd)(hb:lE K fd ps [])(hm:mg x=some (.ref f))(S:gu N ps (d9 st))(hn:ps.length=n)(c:∀(e:dB) (A:dG) (d:List Env) (s:dD) (H:Hp) (E:XK),fN k (A.deeper (envOfC a (d9 st) s.heap.objs.size f e)) ->
   yN (mT uo P w K mg base N a (d9 st) f e A d s H E).nox (fu st) b):fg P w K mg base (k+1) x n (gW N.length b):=by
 subst hn;exact⟨f,fd,ps,IV F S c,hb,F.kp,hm⟩
def CGl(K:Fg1)(mg:Str->Option dB)(x:Str)(d:D):Prop:=∃(v:V) (u:dB),mg x=Z u/\d5 v u /\ ∀H mu,eH K H mu d v
theorem C6 {X:Cx}{x:Str}{d:D}{pos:Pos}(h:CGl X.K X.mg x d)(hg:Gl X x)(hd:(x == ("__debug__":Str))=J:=by decide):ME X (.Name x pos) (mC d):=by
 obtain⟨v,u,a,r,q⟩:=h;exact Av d (CD hg a r hd) q
noncomputable def fM:List Bool->Ev->Ev
 |true::bs,o::r=>o::fM bs r
 |false::bs,_::r=>Y::fM bs r
 |[],_::r=>Y::fM [] r
 |_,[]=>[]
noncomputable def kF:Ev->Bool
 |[]=>M
 |none::r=>kF r
 |some d::r=>d.und 0&&kF r
noncomputable def pS (ki ko:List Bool)(b:FS):FS:=fun r S=>if kF (fM ki r)=true then
  (b (fM ki r) []).bind λp=>match p.1 with
   | .rt d=>if d.und 0=true then some (.rt d,[],S)else none
   |f=>if kF (fM ko p.2.1)=true then some (f,fM ko p.2.1,S)else none
 else none
theorem jD:∀(bs:List Bool) (r:Ev),(fM bs r).length=r.length
 |true::bs,o::r=>congrArg (· + 1) (jD bs r)
 |false::bs,o::r=>congrArg (· + 1) (jD bs r)
 |[],o::r=>congrArg (· + 1) (jD [] r)
 |[],[]=>rfl
 |true::_,[]=>rfl
 |false::_,[]=>rfl
theorem jE:∀(bs:List Bool) (r:Ev) (i:Nat) (d:D),(fM bs r)[i]?=Z (Z d)->r[i]?=Z (Z d)
 |true::bs,o::r,0,d,h=>h
 |true::bs,o::r,i+1,d,h=>by
  rw[gC1];exact jE bs r i d (by rw[fM,gC1]at h;exact h)
 |false::bs,o::r,0,d,h=>by simp[fM]at h
 |false::bs,o::r,i+1,d,h=>by
  rw[gC1];exact jE bs r i d (by rw[fM,gC1]at h;exact h)
 |[],o::r,0,d,h=>by simp[fM]at h
 |[],o::r,i+1,d,h=>by
  rw[gC1];exact jE [] r i d (by rw[fM,gC1]at h;exact h)
 |[],[],i,d,h=>by simp[fM]at h
 |true::_,[],i,d,h=>by simp[fM]at h
 |false::_,[],i,d,h=>by simp[fM]at h
theorem lN:∀(r:Ev) (i:Nat) (d:D),kF r=M->r[i]?=Z (Z d)->d.und 0=M
 |none::r,0,d,_,h=>by simp at h
 |none::r,i+1,d,hs,h=>lN r i d hs (by simpa using h)
 |some e::r,0,d,hs,h=>by
  rw[kF,bA1]at hs;simp at h;subst h;exact hs.1
 |some e::r,i+1,d,hs,h=>by
  rw[kF,bA1]at hs;exact lN r i d hs.2 (by simpa using h)
theorem fB.mask{K:Fg1}{H:Hp}{mu mu':List dE}{r:Ev}{σ:L2.St}{bs:List Bool}(h:fB K H mu r σ)(hs:kF (fM bs r)=M):fB K H mu' (fM bs r) σ:=
 ⟨by rw[jD];exact h.len,λi d e=>by
  obtain⟨v,b,c⟩:=h.val i d (jE bs r i d e);exact⟨v,b,c.cut (n:=0) (λk a=>absurd a (bw _)) (lN _ i d hs e)⟩⟩
theorem Ax{K:Fg1}{l w:List Bool}{b:FS}{E:i0}{σ:L2.St}{H:Hp}(h:vW K (pS l w b) E σ H):vW K b E σ H:=by
 obtain⟨r,mu,S,f,C,B,p,j,c,hc⟩:=h;unfold pS at c;split at c
 ·rename_i t;obtain⟨⟨m,q,A⟩,u,c⟩:=oB1.mp c;refine⟨fM l r,[],[],m,q,A,p.mask t,.nil,u,?_⟩;have back:∀{H':Hp} {mu':List dE},Ext [] mu' H H'->Ext mu mu H H':=λ{H' mu'} x=>⟨bn,λa o e _=>x.old a o e (by simp),x.tup,x.frz,λ_ z=>.inl z⟩;have keep:∀{H':Hp} {mu':List dE},Ext [] mu' H H'->Sim K H' mu S:=λ{H' mu'} x=>⟨j.len,j.nd,λn o a h1 h2=>(j.ob n o a h1 h2).keep (back x) λo e=>x.old a o e (by simp)⟩;cases m with
  |rt d=>
   dsimp only at c;split at c
   ·rename_i i;cases c;exact λv H' mu' x r s=>hc v H' mu (back x) (r.cut (n:=0) (λk y=>absurd y (bw _)) i) (keep x)
   ·cases c
  |nx=>
   dsimp only at c;split at c
   ·rename_i i;cases c;exact λg H' mu' x r s=>hc g H' mu (back x) (r.mask i) (keep x)
   ·cases c
  |bk=>
   dsimp only at c;split at c
   ·rename_i i;cases c;exact λg H' mu' x r s=>hc g H' mu (back x) (r.mask i) (keep x)
   ·cases c
  |ct=>
   dsimp only at c;split at c
   ·rename_i i;cases c;exact λg H' mu' x r s=>hc g H' mu (back x) (r.mask i) (keep x)
   ·cases c
 ·cases c
theorem Ai{X:Cx}{sts:List dR}{b:FS}(c a:List Bool)(h:yN X sts b):yN X sts (pS c a b):=ri h λ_ _ _=>Ax
def CV(K:Fg1)(d:D)(u:dB):Prop:=∃v:V,d5 v u /\ ∀H mu,eH K H mu d v
def JR(K:Fg1)(ds:List D)(us:List dB):Prop:=∃vs:List V,ee vs us /\ ∀H mu,d2 K H mu ds vs
section
variable{K:Fg1}
theorem kg{i:Int}{t}:CV K (.int i) (.int i t):=⟨.int i,⟨t,O⟩,λ_ _=>.int i⟩
theorem kf{x:Str}{t}:CV K (.str x) (.str x t):=⟨.str x,⟨t,O⟩,λ_ _=>.str x⟩
theorem jL:JR K [] []:=⟨[],.nil,λ_ _=>.nil⟩
theorem eU{d:D}{u:dB}{ds:List D}{a:List dB}(h:CV K d u)(t:JR K ds a):JR K (d::ds) (u::a):=by
 obtain⟨v,r,q⟩:=h;obtain⟨vs,rs,b⟩:=t;exact⟨v::vs,.cons r rs,λH mu=>.cons (q H mu) (b H mu)⟩
theorem l5 {a:dE}{c:Option dE}{b:List dB}{n:Nat}{sl:Array (Option dB)}{ds:List D}(h:K.lookup a=Z ⟨.type "tuple",c,.seq b.toArray n,sl⟩)(hs:b.length<=dL)(t:JR K ds b):CV K (.tup ds) (.ref a):=by
 obtain⟨vs,rs,d⟩:=t;exact⟨.ref a,O,λH mu=>.tup (.inr ⟨_,b.toArray,n,h,O,O,by simpa using hs,by simpa using rs⟩) (d H mu)⟩
theorem oB{mg:Str->Option dB}{x:Str}{d:D}{u:dB}(hm:mg x=Z u)(h:CV K d u):CGl K mg x d:=by
 obtain⟨v,r,q⟩:=h;exact⟨v,u,hm,r,q⟩
end
theorem lO{K:Fg1}{H:Hp}{mu:List dE}:∀ns:List Int,d2 K H mu (ns.map D.int) (ns.map V.int)
 |[]=>.nil
 |n::ns=>.cons (.int n) (lO ns)
theorem GC{K:Fg1}{m:FN}(hm:∀ ns:List Int,ns.length<=63 -> ∃ S,m [.rol (ns.map D.int)] []=some (.bl true,S))(H:Hp)(a:dE)(ns:List Int)(f:ns.length<=63)(c:D4 H)(b:mW K H a (ns.map V.int)):
  BO K 1 m [.ref a] H (λv _=>v = .bl M) λ_ _ _=>False:=by
 refine⟨O,?_⟩;obtain⟨S,e⟩:=hm ns f;have d:RoL K H a (ns.map V.int):=by
  rcases b with h|h
  ·rcases h with h|h
   ·rcases c a with z|⟨o,xs,z⟩
    ·rw[h]at z;cases z
    ·rw[h]at z;cases z
   ·exact .inl h
  ·exact .inr h
 refine⟨[],[],[.rol (ns.map D.int)],.bl M,S,.cons (.rol d (lO ns)) .nil,.nil,e,λv H' mu' x r s=>?_⟩;cases r;rfl
theorem walk_m{l:PySem.W.OpenLaw}{q:dF}{b:List Str}{XP:(Str->Option dB)->dP->Prop}{e:dH->dP->Prop}{d:DefRec}{K:Params->Fg1}{m:FN}{k:Nat}{x:Str}(hn:l.most=some 63)(c:d.params.defaults=[])(hr:fN k callerA)(i:∀(w:dH) (h:dP),e w h->(K w.params).In h)(hm:∀ns:List Int,ns.length<=63 -> ∃S,m [.rol (ns.map D.int)] []=some (.bl true,S))(F:∀(w:dH) (mg:Str->Option dB) (g:dE) (h:dP),(K w.params).In h->h.Ns dI mg->mg d.name=some (.ref g) ->
   ∃fd:dQ,(∀(s:dD) (u:dB),BindsTo s fd ⟨[u],[]⟩ [(x,u)]) /\ ∀base:dP,(K w.params).In base->base.Ns dI mg->jQ l.prog w (K w.params) mg base uo k g fd [x] (BO (K w.params) 1 m)):
  PySem.W.WalkO q b XP e l.row.toRowW d [] (λf vs=>PySem.call f vs):=
 L2.B5 (n:=63) (k:=k) (x:=x) (CX:=λ_=>uo) (sp:=λw=>BO (K w.params) 1 m) hn (by decide) c hr i F (λ_ H a ns p j o=>GC hm H a ns p j o) λ_ _ _ _ _ z=>z
structure XE (X:Cx)(e:Expr)(m:FE):Prop where
 h:ME X e m
structure XT (X:Cx)(e:Expr)(m:FT):Prop where
 h:MT X e m
structure XW (X:Cx)(e:Expr)(m:FT):Prop where
 h:MW X e m
structure XA (X:Cx)(e:List Expr)(m:FA):Prop where
 h:MA X e m
structure XS (X:Cx)(e:dR)(m:FS):Prop where
 h:MS X e m
structure vH (X:Cx)(e:List dR)(m:FS):Prop where
 h:yN X e m
structure XI (X:Cx)(tg e:Expr)(m:FI):Prop where
 h:MI X tg e m
structure XG (X:Cx)(e:Expr)(m:FG):Prop where
 h:MG X e m
structure JP (X:Cx)(e:List Expr)(m:BM):Prop where
 h:Jq X e m
structure XO (X:Cx)(e:Option Expr)(m:FO):Prop where
 h:MO X e m
structure XF (X:Cx)(K:Fg1)(ifs:List Expr)(t:FT):Prop where
 h:oP X ifs (xz K t)
theorem eJ{X:Cx}:XF X X.K [] fz:=⟨C3⟩
theorem gI{X:Cx}{c:Expr}{t:FT}(h:XT X c t):XF X X.K [c] t:=⟨C2 h.h⟩
theorem xm{X:Cx}{sts:List dR}{b:FS}(c a:List Bool)(h:vH X sts b):vH X sts (pS c a b):=⟨Ai c a h.h⟩
section
variable{X:Cx}{pos:Pos}
theorem qK{i:Int}{j}:XE X (.Constant (.int i) j pos) (mC (.int i)):=⟨Gu⟩
theorem hU{b:Bool}{j}:XE X (.Constant (.bool b) j pos) (mC (.bl b)):=⟨IA⟩
theorem fW{j}:XE X (.Constant .none j pos) (mC .non):=⟨Gr⟩
theorem eM{x:Str}{j}:XE X (.Constant (.str x) j pos) (mC (.str x)):=⟨Gn⟩
end
section
variable{X:Cx}{pos:Pos}{e:Expr}{es:List Expr}{m:FE}{n:FA}
theorem qN:XA X [] dV:=⟨Gx⟩
theorem qA(h:XE X e m)(ht:XA X es n)(hs:dJ (e::es) X.env=(J,eval e X.env)::dJ es X.env:=by rfl):XA X (e::es) (dU m n):=⟨C9 (h:=h.h) (ht:=ht.h) (hs:=hs)⟩
end
section
variable{X:Cx}{K:Fg1}{f:FN}{a b:FE}{σ:L2.St}{H:Hp}{Q:VK}
theorem qI{op:Operator}{x y:Expr}{pos:Pos}(ho:fV X (binaryOp op) (r2 X.K f))(hx:XE X x a)(hy:XE X y b):XE X (.BinOp x op y pos) (m2 f a b):=⟨Ix (ho:=ho) (hx:=hx.h) (hy:=hy.h)⟩
theorem B0{op:CmpOp}{x y:Expr}{pos:Pos}(ho:fV X (compareOp op) (r2 X.K f))(hx:XE X x a)(hy:XE X y b)(hm:behindInMarks op y=J):XE X (.Compare x [op] [y] pos) (m2 f a b):=⟨Gv (ho:=ho) (hx:=hx.h) (hy:=hy.h) (hm:=hm)⟩
theorem qJ{x y:Expr}{pos:Pos}(ho:Ey X (r2 X.K f))(hx:XE X x a)(hy:XE X y b)(hs:nk y):XE X (.Subscript x y pos) (m2 f a b):=⟨Iy (ho:=ho) (hx:=hx.h) (hy:=hy.h) (hs:=hs)⟩
theorem qD {x:Str}{p pos:Pos}{e:Expr}{es:List Expr}{id:String}{a:FA}(hc:eZ X (.builtin id) (rN X.K f))(hg:Gl X x)(hm:X.mg x=Y)(hv:bootBuiltins x=Z (.builtin id))(ha:XA X (e::es) a)(hn:x≠"__name__":=by decide)(hdb:(x == ("__debug__":Str))=J:=by decide)(he:dJ (e::es) X.env=(J,eval e X.env)::dJ es X.env:=by rfl)(hpl:(backTo pos (dJ es X.env)).any (·.1)=J:=by rfl):XE X (.Call (.Name x p) (e::es) [] pos) (mN f a):=⟨Au (hc:=hc) (hg:=hg) (hm:=hm) (hv:=hv) (ha:=ha.h) (hn:=hn) (hdb:=hdb) (he:=he) (hpl:=hpl)⟩
theorem qE {x:Str}{p pos:Pos}{e:Expr}{es:List Expr}{T:String}{a:FA}(hc:eZ X (.type T) (rN X.K f))(hg:Gl X x)(hm:X.mg x=Y)(hv:bootBuiltins x=Z (.type T))(ha:XA X (e::es) a)(hn:x≠"__name__":=by decide)(hdb:(x == ("__debug__":Str))=J:=by decide)(he:dJ (e::es) X.env=(J,eval e X.env)::dJ es X.env:=by rfl)(hpl:(backTo pos (dJ es X.env)).any (·.1)=J:=by rfl):XE X (.Call (.Name x p) (e::es) [] pos) (mN f a):=⟨xZ (hc:=hc) (hg:=hg) (hm:=hm) (hv:=hv) (ha:=ha.h) (hn:=hn) (hdb:=hdb) (he:=he) (hpl:=hpl)⟩
end
section
variable{X:Cx}{x y c:Expr}{rest:List Expr}{pos:Pos}{a b:FT}{f g:FE}
theorem qX{op:CmpOp}{f:FN}{a b:FE}(ho:fV X (compareOp op) (r2 X.K f))(hx:XE X x a)(hy:XE X y b)(hm:behindInMarks op y=J):XT X (.Compare x [op] [y] pos) (mB (m2 f a b)):=⟨F6 (ho:=ho) (hx:=hx.h) (hy:=hy.h) (hm:=hm)⟩
theorem no(ha:XT X x a):XW X (.BoolOp .And [x] pos) a:=⟨CS (ha:=ha.h)⟩
theorem mX(ha:XT X x a):XW X (.BoolOp .Or [x] pos) a:=⟨F3 (ha:=ha.h)⟩
theorem qv(ha:XT X x a)(hb:XW X (.BoolOp .And (y::rest) pos) b):XW X (.BoolOp .And (x::y::rest) pos) (x9 a b):=⟨F4 (ha:=ha.h) (hb:=hb.h)⟩
theorem nl(ha:XT X x a)(hb:XW X (.BoolOp .Or (y::rest) pos) b):XW X (.BoolOp .Or (x::y::rest) pos) (Ef a b):=⟨Iv (ha:=ha.h) (hb:=hb.h)⟩
theorem nq(h:XW X x a):XT X x a:=⟨Kp (h:=h.h)⟩
theorem iH(ha:XT X x a):XT X (.UnaryOp .Not x pos) (oW a):=⟨F5 (ha:=ha.h)⟩
theorem fO{op}(h:XE X x f):XE X (.BoolOp op [x] pos) f:=⟨Gp (h:=h.h)⟩
theorem fj(ha:XE X x f)(hb:XE X (.BoolOp .And (y::rest) pos) g):XE X (.BoolOp .And (x::y::rest) pos) (ge f g):=⟨Gw (ha:=ha.h) (hb:=hb.h)⟩
theorem BZ(ha:XE X x f):XE X (.UnaryOp .Not x pos) (ww f):=⟨Gq (ha:=ha.h)⟩
theorem uC(hc:XT X c a)(hx:XE X x f)(hy:XE X y g):XE X (.IfExp c x y pos) (Az a f g):=⟨Iz (hc:=hc.h) (hx:=hx.h) (hy:=hy.h)⟩
end
section
variable{X:Cx}{x y z:Expr}{pos:Pos}{f g:FN}{a b c:FE}{op op':CmpOp}
theorem xr(ho:fV X (compareOp op) (r2 X.K f))(ho':fV X (compareOp op') (r2 X.K g))(hx:XE X x a)(hy:XE X y b)(hz:XE X z c)(hm:lastMarks [op,op'] [y,z]=J:=by with_unfolding_all rfl):XE X (.Compare x [op,op'] [y,z] pos) (Gz f g a b c):=⟨At (ho:=ho) (ho':=ho') (hx:=hx.h) (hy:=hy.h) (hz:=hz.h) (hm:=hm)⟩
end
section
variable{X:Cx}{pos:Pos}{e c:Expr}{st:dR}{rest as bs:List dR}{a b:FS}{m:FE}{t:FT}
theorem qQ:vH X [] pT:=⟨CU⟩
theorem qF(h1:XS X st a)(h2:vH X rest b):vH X (st::rest) (et a b):=⟨Aj (h1:=h1.h) (h2:=h2.h)⟩
theorem qG(h1:XS X st a):vH X [st] a:=⟨CT (h1:=h1.h)⟩
theorem kn(h:XE X e m)(hs:swapsWith e Y pos.line X.env=pure J:=by rfl):XS X (.Expr e pos) (fT m):=⟨CW (h:=h.h) (hs:=hs)⟩
theorem qU(h:XE X e m):XS X (.Return (Z e) pos) (eX m):=⟨F8 (h:=h.h)⟩
theorem qV(hc:XT X c t)(ha:vH X as a)(hb:vH X bs b):XS X (.If c as bs pos) (gY t a b):=⟨Iw (hc:=hc.h) (ha:=ha.h) (hb:=hb.h)⟩
end
section
variable{X:Cx}{pos:Pos}
theorem qO(i:Nat){x:Str}(hN:X.N.Nodup)(hi:X.N[i]?=Z x)(hx:yO X.env.scope x)(hf:X.fn x=M\/X.env.scope.names.lookup x=Z .local:=by first|exact .inl rfl|exact .inr rfl|assumption):XG X (.Name x pos) (gN i):=⟨C5 (i:=i) (hN:=hN) (hi:=hi) (hx:=hx) (hf:=hf)⟩
theorem ik:JP X [] lF:=⟨C4⟩
theorem eE{e:Expr}{es:List Expr}{g:FG}{a:BM}(h1:XG X e g)(h2:JP X es a)(hs:(assignEach (e::es) X.env).map (·.2)=assign e X.env::(assignEach es X.env).map (·.2):=by rfl):JP X (e::es) (gh g a):=⟨Aq (h1:=h1.h) (h2:=h2.h) (hs:=hs)⟩
theorem jv{es:List Expr}{k:Nat}{a:BM}{n:Nat}(hc:X.calm=M)(h:JP X es a)(hn:(assignEach es X.env).length=n:=by rfl)(hst:(assignEach es X.env).findIdx? (·.1)=Y:=by rfl):XG X (.Tuple es k pos) (gT n a):=⟨Gh (hc:=hc) (h:=h.h) (hn:=hn) (hst:=hst)⟩
theorem mZ{o i:Expr}{a b:FE}{f:FN}(ho:XE X o a)(hi:XE X i b)(hs:vM X (rU X.K f))(ha:∀ v,assign (.Subscript o i pos) X.env v=(do
   let ov<-holding [v] (eval o X.env)
   let iv<-holding [v,ov] (eval i X.env)
   standAt pos
   holding [v,ov,iv] (setItem ov iv v)
   release [v,ov,iv] []):=by intro _;rfl):XG X (.Subscript o i pos) (gS f a b):=⟨Gi (ho:=ho.h) (hi:=hi.h) (hs:=hs) (ha:=ha)⟩
theorem qR{tg e:Expr}{m:FE}{g:FG}(he:XE X e m)(hg:XG X tg g)(hs:swapsWithSole [tg] e pos.line X.env=pure J:=by rfl)(hw:swappedStores [tg] e X.env=pure Y:=by rfl)(h1:(assignEach [tg] X.env).map (·.2)=[assign tg X.env]:=by rfl):XS X (.Assign [tg] e pos) (eA m g):=⟨Ga (he:=he.h) (hg:=hg.h) (hs:=hs) (hw:=hw) (h1:=h1)⟩
theorem qY(i:Nat){x:Str}{e:Expr}{m:FE}{pos':Pos}(hN:X.N.Nodup)(hi:X.N[i]?=Z x)(hx:yO X.env.scope x)(he:XE X e m)(hs:swapsWith e (Z (.Name x pos')) pos.line X.env=pure J:=by rfl)(hf:X.fn x=M\/X.env.scope.names.lookup x=Z .local:=by first|exact .inl rfl|exact .inr rfl|assumption):XS X (.Assign [.Name x pos'] e pos) (eA m (gN i)):=⟨F7 (i:=i) (hN:=hN) (hi:=hi) (hx:=hx) (he:=he.h) (hs:=hs) (hf:=hf)⟩
end
section
theorem xn{X:Cx}{pos:Pos}(n:Nat){c:Expr}{a:List dR}{t:FT}{b:FS}(hp:PassesOwn (model X.prog X.w) X.A X.env X.xe)(hc:XT X c t)(hb:vH X a b):XS X (.While c a [] pos) (yS t b n):=⟨Ak (n:=n) (hp:=hp) (hc:=hc.h) (hb:=hb.h)⟩
theorem qW{X:Cx}{pos:Pos}{tg iter:Expr}{a:List dR}{m:FI}{g:FG}{b:FS}(hp:PassesOwn (model X.prog X.w) X.A X.env X.xe)(hc:X.calm=M)(hi:XI X tg iter m)(hg:XG X tg g)(hb:vH X a b)(hs:∀x,foldedSetIterable iter X.env x=pure x:=by intro _;rfl):XS X (.For tg iter a [] pos) (je m g b):=⟨F9 (hp:=hp) (hc:=hc) (hi:=hi.h) (hg:=hg.h) (hb:=hb.h) (hs:=hs)⟩
end
section
variable{X:Cx}{es:List Expr}{pos:Pos}{a:FA}
theorem d7{x1}(h:XA X es a):XE X (.Tuple es x1 pos) (eP a):=⟨Gm (h:=h.h)⟩
theorem gC(h:XA X es a):XE X (.List es pos) (j8 a):=⟨Gs (h:=h.h)⟩
end
section
variable{X:Cx}{tg:Expr}
theorem qd{e:Expr}{m:FE}(h:XE X e m):XI X tg e (gz m):=⟨Gg (h:=h.h)⟩
theorem uz {a:Expr}{m:FA}{p pos:Pos}(hg:Gl X "range")(hm:X.mg "range"=Y)(ha:XA X [a] m)(hs:dJ [a] X.env=[(J,eval a X.env)]:=by rfl):XI X tg (.Call (.Name "range" p) [a] [] pos) (vh m):=⟨xW (hg:=hg) (hm:=hm) (ha:=ha.h) (hs:=hs)⟩
theorem uy {a b:Expr}{m:FA}{p pos:Pos}(hg:Gl X "range")(hm:X.mg "range"=Y)(ha:XA X [a,b] m)(hs:dJ [a,b] X.env=[(J,eval a X.env),(J,eval b X.env)]:=by rfl)(hs2:dJ [b] X.env=[(J,eval b X.env)]:=by rfl):XI X tg (.Call (.Name "range" p) [a,b] [] pos) (IM m):=⟨xV (hg:=hg) (hm:=hm) (ha:=ha.h) (hs:=hs) (hs2:=hs2)⟩
end
section
variable{X:Cx}{tg:Expr}
variable{elts:List Expr}{k:Nat}{tpos:Pos}
theorem qw {a b:Expr}{m:FA}{p pos:Pos}(hg:Gl X "zip")(hm:X.mg "zip"=Y)(ha:XA X [a,b] m)(hs:dJ [a,b] X.env=[(J,eval a X.env),(J,eval b X.env)]:=by rfl)(hs2:dJ [b] X.env=[(J,eval b X.env)]:=by rfl):XI X (.Tuple elts k tpos) (.Call (.Name "zip" p) [a,b] [] pos) (GO m):=⟨Gf (hg:=hg) (hm:=hm) (ha:=ha.h) (hs:=hs) (hs2:=hs2)⟩
end
section
variable{X:Cx}{ag:List (dE×Obj)}{σ:L2.St}{H:Hp}{s:dD}{mu:List dE}{S:Sto}{K:Fg1}
theorem uB (T:Ty){e:Expr}{m:FE}{nm:Str}{p p2 pos:Pos}(hg:Gl X "isinstance")(hm:X.mg "isinstance"=Y)(hg2:Gl X nm)(hm2:X.mg nm=Y)(hv2:bootBuiltins nm=Z (.type T.nm))(h:XE X e m)(hn:nm≠"__name__":=by decide)(hd:(nm == ("__debug__":Str))=J:=by decide)(hs1:dJ [e,.Name nm p2] X.env=(J,eval e X.env)::dJ [.Name nm p2] X.env:=by rfl)(hs2:dJ [.Name nm p2] X.env=(J,eval (.Name nm p2) X.env)::dJ [] X.env:=by rfl)(hpl:(backTo pos (dJ [.Name nm p2] X.env)).any (·.1)=J:=by rfl):XE X (.Call (.Name "isinstance" p) [e,.Name nm p2] [] pos) (j9 T m):=⟨xY (T:=T) (hg:=hg) (hm:=hm) (hg2:=hg2) (hm2:=hm2) (hv2:=hv2) (h:=h.h) (hn:=hn) (hd:=hd) (hs1:=hs1) (hs2:=hs2) (hpl:=hpl)⟩
end
section
variable{X:Cx}
theorem sd:XO X Y pO:=⟨C0⟩
theorem r9{e:Expr}{m:FE}(h:XE X e m):XO X (Z e) (pN m):=⟨CZ (h:=h.h)⟩
theorem nt {a:Expr}{m:FA}{d p2 b c:Pos}(hc:X.calm=M)(hg:Gl X "range")(hm:X.mg "range"=Y)(hg2:Gl X "list")(hm2:X.mg "list"=Y)(ha:XA X [a] m)(hs:dJ [a] X.env=[(J,eval a X.env)]:=by rfl)(hs2:dJ [.Call (.Name "range" d) [a] [] b] X.env=[(J,eval (.Call (.Name "range" d) [a] [] b) X.env)]:=by rfl):XE X (.Call (.Name "list" p2) [.Call (.Name "range" d) [a] [] b] [] c) (x4 m):=⟨xX (hc:=hc) (hg:=hg) (hm:=hm) (hg2:=hg2) (hm2:=hm2) (ha:=ha.h) (hs:=hs) (hs2:=hs2)⟩
theorem qe {o e:Expr}{es:List Expr}{m:FE}{a:FA}{f:FN}{name:Str}{apos cpos:Pos}{id:String}(slot:Slot "list" name id)(hty:typeOf (.builtin id)=pure (.type "method_descriptor"))(hm:Ew X id (λx xs H Q=>rN X.K f (x::xs) H Q))(ho:XE X o m)(ha:XA X (e::es) a)(hbase:attributeBase o name X.env (eval o X.env)=eval o X.env:=by rfl)(hfew:((backTo cpos (dJ (e::es) X.env)).all (λx=> !x.1)&&(backToKw cpos (keywordEach [] X.env)).all (λx=>x.1.isSome)&&decide ((e::es).length+([]:List Keyword).length+(if([]:List Keyword).isEmpty then 0 else 1)<30))=M:=by rfl)(hline:(apos.endLine == cpos.line)=M:=by rfl)(hs:dJ (e::es) X.env=(J,eval e X.env)::dJ es X.env:=by rfl)(hplain:(backTo cpos (dJ es X.env)).any (·.1)=J:=by rfl):XE X (.Call (.Attribute o name apos) (e::es) [] cpos) (tm f m a):=⟨As (slot:=slot) (hty:=hty) (hm:=hm) (ho:=ho.h) (ha:=ha.h) (hbase:=hbase) (hfew:=hfew) (hline:=hline) (hs:=hs) (hplain:=hplain)⟩
theorem Lb (i:Nat){x:Str}{pos:Pos}(hN:X.N[i]?=Z x:=by rfl)(hv:Hf X.env.scope x:=by first|exact Or.inl rfl|exact Or.inr (Or.inl rfl)|exact Or.inr (Or.inr rfl))(hd:(x == ("__debug__":Str))=J:=by decide)(hcd:(x == ("__classdict__":Str))=J:=by decide):XE X (.Name x pos) (mV i):=⟨mv (i:=i) (hN:=hN) (hv:=hv) (hd:=hd) (hcd:=hcd)⟩
end
section
theorem qH {X:Cx}{k k' n:Nat}{x:Str}{m:FN}{p pos:Pos}{e:Expr}{es:List Expr}{a:FA}(h:fg X.prog X.w X.K X.mg X.base k x n m)(hr:fN k' X.A)(hk:k<=k')(hg:Gl X x)(ha:XA X (e::es) a)(hdb:(x == ("__debug__":Str))=J:=by decide)(he:dJ (e::es) X.env=(J,eval e X.env)::dJ es X.env:=by rfl)(hpl:(backTo pos (dJ es X.env)).any (·.1)=J:=by rfl):XE X (.Call (.Name x p) (e::es) [] pos) (mN (dW n m) a):=⟨Go (h:=h) (hr:=hr) (hk:=hk) (hg:=hg) (ha:=ha.h) (hdb:=hdb) (he:=he) (hpl:=hpl)⟩
theorem fX {X:Cx}{x:Str}{d:D}{pos:Pos}(h:CGl X.K X.mg x d)(hg:Gl X x)(hd:(x == ("__debug__":Str))=J:=by decide):XE X (.Name x pos) (mC d):=⟨C6 (h:=h) (hg:=hg) (hd:=hd)⟩
end
section
variable{X:Cx}
structure JQ (X:Cx)(K:Fg1)(tg:Expr)(ifs:List Expr)(elt:Expr)(g:FG)(t:FT)(e:FE):Prop where
 g:XG X tg g
 t:XF X K ifs t
 e:XE X elt e
structure LN (X:Cx)(K:Fg1)(tg:Expr)(ifs:List Expr)(tg2 iter2:Expr)(ifs2:List Expr)(elt:Expr)(g:FG)(t:FT)(m2:FI)(g2:FG)(t2:FT)(e:FE):Prop where
 g:XG X tg g
 t:XF X K ifs t
 i2:XI X tg2 iter2 m2
 g2:XG X tg2 g2
 t2:XF X K ifs2 t2
 e:XE X elt e
end
theorem BW{P:dF}{w:dH}{K:Fg1}{mg:Str->Option dB}{base:dP}{x c:Str}{st:dR}{f:dE}{fd:dQ}{N ps:List Str}{k n:Nat}{b:FS}(F:yU K x c st f fd)(hb:lE K fd ps [])(hm:mg x=some (.ref f))(S:gu N ps (d9 st))(hn:ps.length=n)(e:∀(d:dB) (A:dG) (a:List Env) (s:dD) (H:Hp) (E:XK),fN k (A.deeper (envOfC c (d9 st) s.heap.objs.size f d)) ->
   vH (mT uo P w K mg base N c (d9 st) f d A a s H E).nox (fu st) b):fg P w K mg base (k+1) x n (gW N.length b):=
 FK F hb hm S hn λd A a s H E g=>(e d A a s H E g).h
theorem Ez{P:dF}{w:dH}{K:Fg1}{mg:Str->Option dB}{base:dP}{x c:Str}{st:dR}{f:dE}{fd:dQ}{N ps:List Str}{k n:Nat}{b:FS}(F:yU K x c st f fd)(S:gu N ps (d9 st))(hn:ps.length=n)(e:∀(d:dB) (A:dG) (a:List Env) (s:dD) (H:Hp) (E:XK),fN k (A.deeper (envOfC c (d9 st) s.heap.objs.size f d)) ->
   vH (mT uo P w K mg base N c (d9 st) f d A a s H E).nox (fu st) b):jQ P w K mg base uo (k+1) f fd ps (BO K n (gW N.length b)):=by
 subst hn;exact IV F S λd A a s H E g=>(e d A a s H E g).h
abbrev FV:=Ev->Sto->Option (List D×Ev×Sto)
noncomputable def fK (c:List (Nat×List D))(g:FG)(t:FT)(b:FV):List D->FV
 |[]=>λr S=>if pM S c=true then some ([],r,S)else none
 |d::ds=>λr S=>if pM S c=true then(g d r S).bind λp=>(t p.1 p.2).bind λk=>if k.1=true then(b p.1 k.2).bind λq=>(fK c g t b ds q.2.1 q.2.2).map λz=>(q.1++z.1,z.2)else fK c g t b ds p.1 k.2 else none
noncomputable def eD (m:FE):FV:=λr S=>(m r S).map λq=>([q.1],r,q.2)
noncomputable def A4(m:FI)(g:FG)(t:FT)(b:FV):FV:=λr S=>(m r S).bind λp=>fK p.1.chk g t b p.1.items r p.2
noncomputable def eS (k:Nat)(keep:List Nat)(m:FI)(g:FG)(t:FT)(b:FV):FE:=λr S=>(m r S).bind λp=>
 (fK p.1.chk g t b p.1.items (rK k keep r) p.2).bind λq=>if q.1.length<=dL then some (.ref q.2.2.length,q.2.2++[.lst q.1])else none
section
variable{K:Fg1}{H H' H1:Hp}{mu mu' mu1:List dE}{S:Sto}{a:dE}
theorem Ext.aside(x:Ext mu mu' H H'):Ext (a::mu) (a::mu') H H' where
 pre:=bW.mpr ⟨O,x.pre⟩
 old:=λb o h n=>x.old b o h λz=>n (mC1 _ z)
 tup:=x.tup
 frz:=x.frz
 new:=λb h=>by
  rcases aF.mp h with h|h
  ·exact .inl (by rw[h];exact mS1)
  ·rcases x.new b h with q|q
   ·exact .inl (mC1 _ q)
   ·exact .inr q
theorem Ext.inner(x:Ext (a::mu) (a::mu') H H'):r6 mu mu' H H':=⟨(bW.mp x.pre).2,x.tup,x.frz⟩
theorem Ext.held{o:HO}(x:Ext mu mu' H H')(ha:H a=Z o)(hn:a∉mu):H' a=Z o/\a∉mu':=by
 refine⟨x.old a o ha hn,λz=>?_⟩;rcases x.new a z with q|q
 ·exact hn q
 ·rw[ha]at q;cases q
theorem fB.exw{r:Ev}{σ:L2.St}(e:r6 mu mu' H H')(h:fB K H mu r σ):fB K H' mu' r σ:=⟨h.len,λi d q=>by
 obtain⟨v,a,b⟩:=h.val i d q;exact⟨v,a,b.exw e⟩⟩
theorem kk.exw{b:dE}(e:r6 mu mu' H H')(h:∀o,H b=Z o->H' b=Z o):∀{o:Ob},kk K H mu b o->kk K H' mu' b o
 | .lst _,⟨vs,q,r⟩=>⟨vs,h _ q,r.exw e⟩
 | .dct _,⟨ws,q,r⟩=>⟨ws,h _ q,Paired.mapP r λ_ _ z=>⟨z.1,z.2.exw e⟩⟩
 | .dcT _,⟨ws,q,r,l⟩=>⟨ws,h _ q,Paired.mapP r λ_ _ ⟨z,d,k,v,a,r⟩=>⟨z,d,k.exw e,v,a,r.exw e⟩,l⟩
 | .iset _,q=>⟨h _ q.1,q.2⟩
 | .dcF _,⟨ws,⟨o,u,c,f⟩,r,l⟩=>⟨ws,⟨o,u,h _ c,f⟩,Paired.mapP r λ_ _ ⟨z,d,k,v,a,r⟩=>⟨z,d,k.exw e,v,a,r.exw e⟩,l⟩
 | .tst _,⟨ws,q,r⟩=>⟨ws,h _ q,Paired.mapP r λ_ _ ⟨z,d,k,v,a,r⟩=>⟨z,d,k.exw e,v,a,r.exw e⟩⟩
theorem Sim.aside{u:HO}(s:Sim K H mu S)(e:r6 mu mu H (upd H a u))(hn:a∉mu):Sim K (upd H a u) mu S:=
 ⟨s.len,s.nd,λk o b h1 h2=>(s.ob k o b h1 h2).exw e λo' q=>by rw[dY (λz=>hn (by rw[<- z];exact gM1 h2))];exact q⟩
end
inductive ER (K:Fg1)(a:dE)(m:FV)(E:i0)(σ:L2.St)(H:Hp):Prop
 |mk (r:Ev) (mu:List dE) (S:Sto) (acc:List D) (vs:List V) (xs:List D) (r':Ev) (S':Sto):H a=some (.lst vs)->a∉mu->d2 K H mu acc vs->fB K H mu r σ->Sim K H mu S->m r S=some (xs,r',S')->vs.length+xs.length<=dL ->
 (∀ σ' H' mu' vs',Ext (a::mu) (a::mu') H H'->H' a=some (.lst vs')->a∉mu'->d2 K H' mu' (acc++xs) vs'->fB K H' mu' r' σ'->Sim K H' mu' S'->E.nx σ' H')->ER K a m E σ H
theorem ll{K:Fg1}{a:dE}{m:FE}{E:i0}{σ:L2.St}{H:Hp}(h:ER K a (eD m) E σ H):px a (tM K m) E σ H:=by
 obtain⟨r,mu,S,o,vs,xs,w,u,n,f,q,i,j,g,l,hc⟩:=h;obtain⟨⟨d,t⟩,p,g⟩:=oM1.mp g;cases g;refine⟨r,mu,S,d,t,i,j,p,λv H1 mu1 e k s=>?_⟩;obtain⟨b,c⟩:=e.held n f;have put:Ext (a::mu1) (a::mu1) H1 (upd H1 a (.lst (vs++[v]))):=Ext.put b trivial mS1;refine⟨vs,b,l,?_⟩;exact hc σ _ mu1 (vs++[v]) (e.aside.trans put) d8 c (((q.ext e).append (.cons k .nil)).exw put.inner) ((i.ext e).exw put.inner) (s.aside put.inner c)
inductive KJ (K:Fg1)(a:dE)(mu2:List dE)(H:Hp)(c:List (Nat×List D))(g:FG)(t:FT)(b:FV)(r':Ev)(S':Sto)(tot:List D)(L:List D)(σ':L2.St)(H':Hp):Prop
 |mk (r3:Ev) (mu3:List dE) (S3:Sto) (acc3:List D) (vs3:List V) (xs3:List D):Ext (a::mu2) (a::mu3) H H'->H' a=some (.lst vs3)->a∉mu3->d2 K H' mu3 acc3 vs3->fB K H' mu3 r3 σ'->Sim K H' mu3 S3->fK c g t b L r3 S3=some (xs3,r',S')->acc3++xs3=tot->vs3.length+xs3.length<=dL->KJ K a mu2 H c g t b r' S' tot L σ' H'
theorem n4{K:Fg1}{a:dE}{j:It}{am:BS}{g:FG}{t:FT}{b:FV}{tb:TS}{D:i0}(hb:∀ E σ H,ER K a b E σ H->tb E σ H){mu1 e:List dE}{H1 H:Hp}{r G:Ev}{S L:Sto}{σ:L2.St}{acc xs:List Mi.D}{vs:List V}(hJ:ItR K j am mu1 H1)(x:r6 mu1 e H1 H)(ha:H a=Z (.lst vs))(aq:a∉e)(hr:d2 K H e acc vs)(he:fB K H e r σ)(hs:Sim K H e S)(hm:fK am.chk g t b am.items r S=Z (xs,G,L))(hl:vs.length+xs.length<=dL)(hc:∀h H' mu' v,Ext (a::e) (a::mu') H H'->H' a=Z (.lst v)->a∉mu'->d2 K H' mu' (acc++xs) v->fB K H' mu' G h->Sim K H' mu' L->D.nx h H'):zm j (Cb K g) (xz K t) tb D σ H:=by
 refine⟨λi k h H'=>k=(am.items.drop i).length/\KJ K a e H am.chk g t b G L (acc++xs) (am.items.drop i) h H',
  ⟨_,O,r,e,S,acc,vs,xs,.refl _ _,ha,aq,hr,he,hs,hm,O,hl⟩,?_⟩
 rintro i k au H3 ⟨rfl,r3,m,S3,f,vs3,xs3,I,A,C,F,s,Q,c,p,l⟩;cases hd0:am.items.drop i with
 |nil=>
  left;rw[hd0,fK]at c;dsimp only at c;split at c
  ·rename_i ok;cases c;refine⟨(hJ i H3 m _ (x.trans I.inner) Q ok).2 (List.drop_eq_nil_iff.mp hd0),hc au H3 m vs3 I A C ?_ s Q⟩;rw[<- p,aN];exact F
  ·cases c
 |cons d ds=>
  right;rw[hd0]at c;obtain⟨hi,hd⟩:=mE hd0;rw[fK]at c;dsimp only at c;split at c
  ·rename_i ok;obtain⟨⟨ao,S4⟩,e4,c⟩:=oB1.mp c;obtain⟨⟨k5,P⟩,e5,c⟩:=oB1.mp c;obtain⟨go,yl⟩:=(hJ i H3 m _ (x.trans I.inner) Q ok).1 d hi;refine⟨go,KJ K a e H am.chk g t b G L (acc++xs) ds,?_,λy H4 yy=>?_⟩
   ·intro h H' h6;exact⟨ds.length,bD _,(congrArg List.length hd).symm,hd.symm ▸ h6⟩
   ·obtain⟨N,s4,q4⟩:=yl y H4 yy;obtain⟨T,U⟩:=N.held A C;refine⟨r3,m,S3,d,ao,S4,s.ext N,s4,q4,e4,fun σ5 H5 R x5 n s5=>?_⟩;obtain⟨ha5,hn5⟩:=x5.held T U;refine⟨ao,R,S4,k5,P,n,s5,e5,λH6 q w s6=>?_⟩;obtain⟨u,B⟩:=w.held ha5 hn5;have xx:=((I.trans N.aside).trans x5.aside).trans w.aside;have o:d2 K H6 q f vs3:=((F.ext N).ext x5).ext w;cases k5 with
    |true=>
     obtain⟨⟨q1,r7,S7⟩,e7,c⟩:=oB1.mp c;obtain⟨⟨z1,r8,S8⟩,e8,c⟩:=oM1.mp c;cases c;refine hb _ _ _ ⟨ao,q,P,f,vs3,q1,r7,S7,u,B,o,n.ext w,s6,e7,?_,fun σ8 H8 X vs8 x8 wq W z he8 s8=>⟨r7,X,S7,f++q1,vs8,z1,xx.trans x8,wq,W,z,he8,s8,e8,?_,?_⟩⟩
     ·rw[lA1]at l;dsimp only at l;lia
     ·rw[<- p,bH]
     ·have:=z.length;have h3:=o.length;rw[lA1]at this l;dsimp only at l;lia
    |false=>exact⟨ao,q,P,f,vs3,xs3,xx,u,B,o,n.ext w,s6,c,p,l⟩
  ·cases c
theorem Af{K:Fg1}{a:dE}{m:FI}{g:FG}{t:FT}{b:FV}{tb:TS}(hb:∀E σ H,ER K a b E σ H->tb E σ H){E:i0}{σ:L2.St}{H:Hp}(h:ER K a (A4 m g t b) E σ H):zl (HL K m) (Cb K g) (xz K t) tb E σ H:=by
 obtain⟨r,mu,S,z,vs,xs,A,B,w,f,q,n,v,i,x,hc⟩:=h;obtain⟨⟨am,u⟩,p,i⟩:=oB1.mp i;refine⟨r,mu,S,am,u,n,v,p,λj H1 mu1 c y s=>?_⟩;obtain⟨k,l⟩:=c.held w f;exact n4 hb y (Ext.refl _ _).w k l (q.ext c) (n.ext c) s i x λe H' mu' d o=>hc e H' mu' d (c.aside.trans o)
theorem oA{K:Fg1}{k:Nat}{keep:List Nat}{m:FI}{g:FG}{t:FT}{b:FV}{tb:dE->TS}(hb:∀ a E σ H,ER K a b E σ H->tb a E σ H){σ:L2.St}{H:Hp}{Q:VK}(h:tM K (eS k keep m g t b) σ H Q):
  vX k keep (HL K m) (Cb K g) (xz K t) tb σ H Q:=by
 obtain⟨r,mu,S,d,aq,N,V,f,hc⟩:=h;obtain⟨⟨am,U⟩,P,f⟩:=oB1.mp f;obtain⟨⟨xs,r2,G⟩,au,f⟩:=oB1.mp f;dsimp only at f;split at f
 ·rename_i W;cases f;refine ⟨r,mu,S,am,U,N,V,P,fun j H1 mu1 I X ao p i=>?_⟩;have w:Ext mu1 mu1 H1 (upd H1 p (.lst [])):=Ext.fresh i;refine n4 (hb p) X w.w d8 (ao.notin i) .nil ((Ei k keep (N.ext I)).ext w) (ao.fresh i) au (by simpa using W) fun R H' mu' s l D x C T s'=>?_;have y:Ext mu1 (mu'++[p]) H1 H':=by
   refine⟨((bW.mp l.pre).2).trans (bv _ _),λb o e n=>?_,λb ys e=>l.tup b ys (w.tup b ys e),λb o u e=>l.frz b o u (w.frz b o u e),λb A=>?_⟩
   ·have F:b≠p:=ew e i;exact l.old b o (by rw [dY F];exact e) fun z=>by
     rcases aF.mp z with z|z
     ·exact F z
     ·exact n z
   ·rcases aG.mp A with z|z
    ·rcases l.new b (mC1 _ z)with q|q
     ·rcases aF.mp q with q|q
      ·exact .inr (by rw[q];exact i)
      ·exact .inl q
     ·by_cases v:b=p
      ·exact .inr (by rw[v];exact i)
      ·rw[dY v]at q;exact .inr q
    ·have:b=p:=by simpa using z
     exact .inr (by rw[this];exact i)
  refine hc _ H' (mu'++[p]) (I.trans y) (.ref (fQ s'.len p)) ⟨by rw[lA1,lA1,s'.len];rfl,?_,λn o b h1 h2=>?_⟩
  ·rw[bA];refine⟨s'.nd,by simp,λb hb c hc e=>?_⟩;have:c=p:=by simpa using hc
   subst this;subst e;exact x hb
  ·by_cases L:n<G.length
   ·rw[gL1 L]at h1;rw[gL1 (by rw[s'.len];exact L)]at h2;exact(s'.ob n o b h1 h2).mor [p]
   ·have B:n=G.length:=by
     have:=(gE1.mp h1).1;rw[lA1]at this;simp at this;lia
    subst B;rw[gR1 (nR1 _)]at h1;rw[<- s'.len,gR1 (nR1 _)]at h2;simp at h1 h2;subst h1;subst h2;exact⟨s,D,(by simpa using C:d2 K H' mu' xs s).mor [p]⟩
 ·cases f
section
variable{X:Cx}
theorem qZ{elt tg iter:Expr}{ifs:List Expr}{scope:dS}{pos:Pos}{T:List Str}{keep:List Nat}{i:List (Str×dE)}{m:FI}{g:FG}{t:FT}{e:FE}(hc:X.calm=M)(C:Ho X scope T keep)(f:iY X.env.cells scope.names []=Z i)(hi:XI X tg iter m)(hb:∀s H b,JQ (cxC X scope i T keep s H b) X.K tg ifs elt g t e)(hs:∀x,foldedSetIterable iter X.env x=pure x:=by intro _;rfl):XE X (.ListComp elt [⟨tg,iter,ifs,0⟩] scope pos) (eS T.length keep m g t (eD e)):=
 ⟨eR (wf (emit:=mD elt) (tb:=λp=>px p (tM X.K e)) hc (λit d c=>uI elt tg iter ifs scope pos it d c) C f hi.h (λs H b p=>⟨(hb s H b).g.h,(hb s H b).t.h,m5 (hb s H b).e.h p⟩) hs)
  fun σ H Q h=>oA (λa E σ H q=>ll q) h⟩
theorem lG{elt tg iter:Expr}{ifs:List Expr}{scope:dS}{pos b l:Pos}{y:Str}(i:Nat){T:List Str}{keep:List Nat}{n:List (Str×dE)}{m:FI}{g:FG}{t:FT}{e:FE}(hc:X.calm=M)(C:Ho X scope T keep)(k:iY X.env.cells scope.names []=Z n)(hi:XI X tg iter m)(hb:∀s H c,JQ (cxC X scope n T keep s H c) X.K tg ifs elt g t e)(hN:X.N.Nodup)(hy:X.N[i]?=Z y)(hx:yO X.env.scope y)(d:swapsWith (.ListComp elt [⟨tg,iter,ifs,0⟩] scope pos) (Z (.Name y l)) b.line X.env=pure M:=by rfl)(hf:X.fn y=M\/X.env.scope.names.lookup y=Z .local:=by first|exact .inl rfl|exact .inr rfl|assumption)(hs:∀x,foldedSetIterable iter X.env x=pure x:=by intro _;rfl):XS X (.Assign [.Name y l] (.ListComp elt [⟨tg,iter,ifs,0⟩] scope pos) b) (eA (eS T.length keep m g t (eD e)) (gN i)):=
 ⟨ic (wa (emit:=mD elt) (tb:=λp=>px p (tM X.K e)) hc d (λit j f=>uI elt tg iter ifs scope pos it j f) C k hi.h (λs H c p=>⟨(hb s H c).g.h,(hb s H c).t.h,m5 (hb s H c).e.h p⟩) hN hy hx hf hs)
  λE σ H h=>Bx (fun σ H Q q=>oA (λa E σ H q=>ll q) q) h⟩
theorem xt{elt tg iter tg2 iter2:Expr}{ifs ifs2:List Expr}{scope:dS}{pos c r:Pos}{y:Str}(i:Nat){T:List Str}{keep:List Nat}{j:List (Str×dE)}{m m2:FI}{g k:FG}{t n:FT}{e:FE}(hc:X.calm=true)(C:Ho X scope T keep)(o:iY X.env.cells scope.names []=some j)(hi:XI X tg iter m)(hb:∀s H b,LN (cxC X scope j T keep s H b) X.K tg ifs tg2 iter2 ifs2 elt g t m2 k n e)(hN:X.N.Nodup)(hy:X.N[i]?=some y)(hx:yO X.env.scope y)(f:swapsWith (.ListComp elt [⟨tg,iter,ifs,0⟩,⟨tg2,iter2,ifs2,0⟩] scope pos) (some (.Name y r)) c.line X.env=pure true:=by rfl)(hf:X.fn y=true\/X.env.scope.names.lookup y=some .local:=by first|exact .inl rfl|exact .inr rfl|assumption)(hs:∀x,foldedSetIterable iter X.env x=pure x:=by intro _;rfl)(hs2:∀d x,foldedSetIterable iter2 d x=pure x:=by intro _ _;rfl):
  XS X (.Assign [.Name y r] (.ListComp elt [⟨tg,iter,ifs,0⟩,⟨tg2,iter2,ifs2,0⟩] scope pos) c) (eA (eS T.length keep m g t (A4 m2 k n (eD e))) (gN i)):=
 ⟨ic (wa (emit:=qh (.ListComp elt [⟨tg,iter,ifs,0⟩,⟨tg2,iter2,ifs2,0⟩] scope pos) iter2) (tb:=fun p=>zl (HL X.K m2) (Cb X.K k) (xz X.K n) (px p (tM X.K e))) hc f (fun it l d=>EJ elt tg iter tg2 iter2 ifs ifs2 scope pos it l d) C o hi.h
   (λs H b p=>⟨(hb s H b).g.h,(hb s H b).t.h,Cq (X:=cxC X scope j T keep s H b) O hc (hb s H b).i2.h (hb s H b).g2.h (hb s H b).t2.h (m5 (hb s H b).e.h p) (hs2 _)⟩) hN hy hx hf hs)
  λE σ H h=>Bx (fun σ H Q q=>oA (λa E σ H q=>Af (λ_ _ _ z=>ll z) q) q) h⟩
end
noncomputable def tz:D->Option Key
 | .int i=>Z (.inl i)
 | .str x=>Z (.inr x)
 |_=>Y
noncomputable def d0{κ:Type}[DecidableEq κ](kvs:List (κ×D))(k:κ):Option D:=(kvs.find? λp=>decide (p.1=k)).map (·.2)
noncomputable def fi{κ:Type}[DecidableEq κ](kvs:List (κ×D))(k:κ)(d:D):List (κ×D):=
 if(kvs.any λp=>decide (p.1=k))=M then kvs.map (λp=>if p.1=k then(p.1,d)else p)else kvs++[(k,d)]
section
variable{K:Fg1}{H:Hp}{mu:List dE}
theorem k7{d:D}{v:V}{k:Key}(r:eH K H mu d v)(h:tz d=Z k):v=kV k:=by
 cases r with
 |int i=>cases h;rfl
 |str x=>cases h;rfl
 |_=>cases h
end
section
variable{κ:Type} [DecidableEq κ] {K:Fg1}{H:Hp}{mu:List dE}
theorem KR.length:∀{ks:List (κ×D)} {ws:List (κ×V)},KR K H mu ks ws->ks.length=ws.length:=λh=>Paired.length h
theorem KR.look{k:κ}:∀ {ks:List (κ×D)} {ws:List (κ×V)},KR K H mu ks ws ->
  (∀d,d0 ks k=Z d -> ∃v,iI ws k=Z v/\eH K H mu d v)/\(d0 ks k=Y->iI ws k=Y):=by
 intro ks ws h
 induction h with
 |nil=>exact⟨λd h=>by simp[d0]at h,λ_=>rfl⟩
 | @cons p q ks ws r t ih=>
  obtain⟨a,c⟩:=p;obtain⟨j,f⟩:=q;obtain⟨e,r⟩:=r;dsimp only at e r;subst e;obtain⟨h1,h2⟩:=ih;by_cases b:a=k
  ·subst b;refine⟨λd h=>?_,λh=>?_⟩
   ·have:c=d:=by simpa[d0]using h
    subst this;exact⟨f,by simp[iI],r⟩
   ·simp[d0]at h
  ·have i:d0 ((a,c)::ks) k=d0 ks k:=by simp[d0,bc,b]
   have g:iI ((a,f)::ws) k=iI ws k:=by simp[iI,bc,b]
   rw[i,g];exact⟨h1,h2⟩
theorem KR.any{k:κ}:∀{ks:List (κ×D)} {ws:List (κ×V)},KR K H mu ks ws->(ks.any λp=>decide (p.1=k))=ws.any λp=>decide (p.1=k):=by
 intro ks ws h
 induction h with
 |nil=>rfl
 |cons r t ih=>rw[bd,bd,ih,r.1]
theorem KR.repl{k:κ}{d:D}{v:V}(q:eH K H mu d v):∀ {ks:List (κ×D)} {ws:List (κ×V)},KR K H mu ks ws ->
  KR K H mu (ks.map λp=>if p.1=k then(p.1,d)else p) (ws.map λp=>if p.1=k then(p.1,v)else p):=by
 intro ks ws h
 induction h with
 |nil=>exact .nil
 | @cons a b ks ws r t ih=>
  refine .cons ?_ ih;obtain⟨e,r⟩:=r;dsimp only;by_cases h:a.1=k
  ·rw[ak h,ak (e ▸ h)];exact⟨e,q⟩
  ·rw[aj h,aj (e ▸ h)];exact⟨e,r⟩
theorem KR.snoc{k:κ}{d:D}{v:V}(q:eH K H mu d v):∀{ks:List (κ×D)} {ws:List (κ×V)},KR K H mu ks ws->KR K H mu (ks++[(k,d)]) (ws++[(k,v)]):=by
 intro ks ws h
 induction h with
 |nil=>exact .cons ⟨O,q⟩ .nil
 |cons r t ih=>exact .cons r ih
theorem KR.put{k:κ}{d:D}{v:V}(q:eH K H mu d v){ks:List (κ×D)}{ws:List (κ×V)}(h:KR K H mu ks ws):KR K H mu (fi ks k d) (iu ws k v):=by
 unfold fi iu;rw[h.any];split
 ·exact h.repl q
 ·exact h.snoc q
end
noncomputable def vn:G2:=λd e S=>match e with
 | .ref n=>match S[n]? with
  |some (.dct kvs)=>(tz d).map λk=>(.bl (d0 kvs k).isSome,S)
  |_=>Ht d e S
 |_=>Ht d e S
noncomputable def jJ:G2:=λd e S=>match e with
 | .ref n=>match S[n]? with
  |some (.dct kvs)=>(tz d).map λk=>(.bl (!(d0 kvs k).isSome),S)
  |_=>ot d e S
 |_=>ot d e S
noncomputable def mP:G2:=λd e S=>match d with
 | .ref n=>match S[n]? with
  |some (.dct kvs)=>(tz e).bind λk=>(d0 kvs k).map λx=>(x,S)
  |_=>BQ d e S
 |_=>BQ d e S
noncomputable def mz:G3:=λo i v S=>match o with
 | .ref n=>match S[n]? with
  |some (.dct kvs)=>(tz i).bind λk=>if kvs.length<dL then Z (.non,S.set n (.dct (fi kvs k v)))else Y
  |_=>kd o i v S
 |_=>kd o i v S
section
variable{X:Cx}
theorem n9{K:Fg1}{H:Hp}{mu:List dE}{S:Sto}(hs:Sim K H mu S){n:Nat}{a:dE}{kvs:List (Key×D)}{k:Key}{y:V}(hn:mu[n]? = some a)(he:S[n]? = some (.dct kvs))(hy:y=kV k):
  ∃o:Option V,pf H a y o/\(∀d,d0 kvs k=Z d -> ∃v,o=Z v/\eH K H mu d v)/\(d0 kvs k=Y->o=Y)/\o.isSome=(d0 kvs k).isSome:=by
 obtain⟨ws,b,f⟩:=hs.dct he hn;subst hy;obtain⟨h1,h2⟩:=f.look (k:=k);refine⟨iI ws k,pf.k b,h1,h2,?_⟩;cases e:d0 kvs k with
 |none=>rw[h2 e];rfl
 |some d=>obtain⟨v,c,_⟩:=h1 d e;rw[c];rfl
theorem Ir(v:X.A.units+64<cLine):fV X (compareOp .In) (r2 X.K (b2 vn)):=by
 intro ag s σ H x y u w Q I l j h;obtain⟨mu,S,d,e,r,f,i,b,c,a,hc⟩:=pE h;have back:Ht d e S=Z (r,f)->dM (model X.prog X.w) X.A (compareOp .In u w) (EP X ag σ Q) X.xe s:=λa=>Kn v ag s σ H x y u w Q I l j ⟨mu,S,[d,e],r,f,.cons i (.cons b .nil),c,a,hc⟩;unfold vn at a;split at a
 ·rename_i n;split at a
  ·rename_i kvs t;obtain⟨k,p,a⟩:=oM1.mp a;cases a;cases b with
   |ref m=>
    cases j;obtain⟨o,g,_,_,hi⟩:=n9 c m t (k7 i p);exact KA (by lia) I g l λs' q=>⟨.bl o.isSome,H,q,O,by rw[hi];exact hc.now (.bl _) c⟩
  ·exact back a
 ·exact back a
theorem z7(v:X.A.units+64<cLine):fV X (compareOp .NotIn) (r2 X.K (b2 jJ)):=by
 intro ag s σ H x y u w Q I l j h;obtain⟨mu,S,d,e,r,f,i,b,c,a,hc⟩:=pE h;have back:ot d e S=Z (r,f)->dM (model X.prog X.w) X.A (compareOp .NotIn u w) (EP X ag σ Q) X.xe s:=λa=>CO v ag s σ H x y u w Q I l j ⟨mu,S,[d,e],r,f,.cons i (.cons b .nil),c,a,hc⟩;unfold jJ at a;split at a
 ·rename_i n;split at a
  ·rename_i kvs t;obtain⟨k,p,a⟩:=oM1.mp a;cases a;cases b with
   |ref m=>
    cases j;obtain⟨o,g,_,_,hi⟩:=n9 c m t (k7 i p);exact DN (by lia) I g l λs' q=>⟨.bl (!o.isSome),H,q,O,by rw[hi];exact hc.now (.bl _) c⟩
  ·exact back a
 ·exact back a
theorem Hw(P:X.A.units+64<cLine):Ey X (r2 X.K (b2 mP)):=by
 intro value b ag s σ H x y v u Q I B C h j;obtain⟨mu,S,d,e,r,t,w,l,q,c,hc⟩:=pE h;have back:BQ d e S=Z (r,t)->dM (model X.prog X.w) X.A (subscriptTail value b v u) (EP X ag σ Q) X.xe s:=λc=>JS value b ag s σ H x y v u Q I B C ⟨mu,S,[d,e],r,t,.cons w (.cons l .nil),q,c,hc⟩ j;unfold mP at c;split at c
 ·rename_i n;split at c
  ·rename_i kvs N;obtain⟨k,F,c⟩:=oB1.mp c;obtain⟨z,am,c⟩:=oM1.mp c;cases c;cases w with
   | @ref _ a K=>
    cases B;obtain⟨o,g,h1,_,_⟩:=n9 q K N (k7 l F);obtain⟨au,ao,G⟩:=h1 _ am;subst ao;have A:=tX I g;unfold subscriptTail;refine wB1 ?_;rw[getitemInPython_of_ne A.not_modules];refine wB1 (wpAny_specialOf A PySem.F.slot_dict_getitem.lookup ?_);have i:dM (model X.prog X.w) X.A (subscripted b J (.ref a) u) (λr f=>dM (model X.prog X.w) X.A (letTemporaryGo value (.ref a) r >>= λ_=>pure r) (EP X ag σ Q) X.xe f) X.xe s:=by
     rw[j];exact wpAny_operating (wpAny_mono (yB (by lia) I g C λL D E p=>(⟨au,H,E,p,hc.now G q⟩:EP X ag σ Q L D)) (λr f m=>wB1 (wpAny_letTemporaryGo (wP1 m))) λ_ _ x=>x)
    first
     |exact wP1 (wB1 i)
     |exact wB1 i
     |exact i
  ·exact back c
 ·exact back c
theorem E3(L:X.A.units+64<cLine):vM X (rU X.K (b3 mz)):=by
 intro ag s σ H o i v q x u Q I z j t h;obtain⟨mu,S,ds,d,w,E,c,a,hc⟩:=id h;cases E with
 |cons f A=>cases A with
  |cons g B=>cases B with
   |cons p C=>
    cases C;rename_i l m y;dsimp only[b3]at a;have back:kd l m y S=Z (d,w)->dM (model X.prog X.w) X.A (setItem q x u) (λ_ s'=>∃H',Inv X ag σ H' s'/\Q H') X.xe s:=λa=>HW ag s σ H o i v q x u Q I z j t ⟨mu,S,[l,m,y],d,w,.cons f (.cons g (.cons p .nil)),c,a,hc⟩;unfold mz at a;split at a
    ·rename_i n;split at a
     ·rename_i kvs K;obtain⟨k,D,a⟩:=oB1.mp a;split at a
      ·rename_i G;cases a;cases f with
       |ref b=>
        cases z;obtain⟨ws,e,r⟩:=c.dct K b;have F:=k7 g D;subst F;refine yA (by lia) I (yQ.k e (by rw[<- r.length];exact G)) j t λs' am=>⟨_,am,?_⟩;have put:Ext mu mu H (upd H _ (.dK (iu ws k v))):=Ext.put e trivial (gM1 b);exact hc _ mu put (c.put b e trivial ⟨_,d8,(r.put p).ext put⟩)
      ·cases a
     ·exact back a
    ·exact back a
noncomputable def GQ:G2:=λd e S=>match e with
 | .non=>Z (.bl (p8 d),S)
 | .bl b=>match d with
  | .bl c=>Z (.bl (c == b),S)
  |_=>Y
 |_=>Y
noncomputable def gE:G2:=λd e S=>match e with
 | .non=>Z (.bl (!p8 d),S)
 | .bl b=>match d with
  | .bl c=>Z (.bl (!(c == b)),S)
  |_=>Y
 |_=>Y
theorem Ee:fV X (compareOp .Is) (r2 X.K (b2 GQ)):=by
 intro ag s σ H x y u w Q I k j h;obtain⟨mu,S,d,e,r,l,i,a,g,f,hc⟩:=pE h;cases e with
 |non=>exact Iq ag s σ H x y u w Q I k j ⟨mu,S,[d,.non],r,l,.cons i (.cons a .nil),g,f,hc⟩
 |bl b=>
  cases d with
  |bl c=>
   cases f;cases i;cases a;cases k;cases j;exact is_bool ⟨.bl (c == b),H,I,O,hc.now (.bl _) g⟩
  |_=>cases f
 |_=>cases f
theorem kX:fV X (compareOp .IsNot) (r2 X.K (b2 gE)):=by
 intro ag s σ H x y u w Q I k j h;obtain⟨mu,S,d,e,r,l,i,a,g,f,hc⟩:=pE h;cases e with
 |non=>exact FY ag s σ H x y u w Q I k j ⟨mu,S,[d,.non],r,l,.cons i (.cons a .nil),g,f,hc⟩
 |bl b=>
  cases d with
  |bl c=>
   cases f;cases i;cases a;cases k;cases j;exact isnot_bool ⟨.bl (!(c == b)),H,I,O,hc.now (.bl _) g⟩
  |_=>cases f
 |_=>cases f
noncomputable def AA:FE:=λ_ S=>Z (.ref S.length,S++[.dct []])
theorem yY{pos:Pos}:XE X (.Dict [] [] pos) AA:=⟨eR zU <| by
 rintro σ H Q ⟨r,mu,S,d,e,f,a,c,hc⟩ p b;cases c;exact hc _ _ (mu++[p]) (Ext.new_ b) (.ref (fQ a.len p)) (a.new b ⟨[],d8,.nil⟩)⟩
noncomputable def Db:List (FE×FE)->Ev->Sto->Option (List (D×D)×Sto)
 |[],_,S=>Z ([],S)
 |(a,b)::l,r,S=>(a r S).bind λp=>(b r p.2).bind λq=>(Db l r q.2).map λt=>((p.1,q.1)::t.1,t.2)
noncomputable def wI:List (D×D)->Option (List (Key×D))
 |[]=>Z []
 |(k,d)::l=>(tz k).bind λk=>(wI l).map λt=>(k,d)::t
noncomputable def wx(l:List (FE×FE)):FE:=λr S=>(Db l r S).bind λp=>(wI p.1).bind λkvs=>if kvs.length<=15 then Z (.ref p.2.length,p.2++[.dct (kvs.foldl (λacc kv=>fi acc kv.1 kv.2) [])])else Y
structure XP (X:Cx)(pos:Pos)(ks:List (Option Expr))(vs:List Expr)(l:List (FE×FE)):Prop where
 h:Jo X pos ks vs (l.map λp=>(tM X.K p.1,tM X.K p.2))
theorem BX{pos:Pos}:XP X pos [] [] []:=⟨Cw⟩
theorem kq{pos:Pos}{k v:Expr}{ks:List (Option Expr)}{vs:List Expr}{a b:FE}{l:List (FE×FE)}(hk:XE X k a)(hv:XE X v b)(t:XP X pos ks vs l):XP X pos (Z k::ks) (v::vs) ((a,b)::l):=⟨zK hk.h hv.h t.h⟩
theorem zJ{K:Fg1}{σ:L2.St}:∀ {l:List (FE×FE)} {r:Ev} {mu:List dE} {H:Hp} {S e:Sto} {ps:List (D×D)} {Q:List (V×V)->Hp->Prop},fB K H mu r σ->Sim K H mu S->Db l r S=some (ps,e) ->
  (∀vs H' mu',Ext mu mu' H H'->Paired (λ(p:D×D) (q:V×V)=>eH K H' mu' p.1 q.1/\eH K H' mu' p.2 q.2) ps vs->Sim K H' mu' e->Q vs H')->qL (l.map λp=>(tM K p.1,tM K p.2)) σ H Q
 |[],r,mu,H,S,e,ps,Q,he,hs,c,hc=>by cases c;exact hc [] H mu (.refl _ _) .nil hs
 |(a,b)::l,r,mu,H,S,e,ps,Q,he,hs,c,hc=>by
  obtain⟨⟨d,j⟩,n,c⟩:=oB1.mp c;obtain⟨⟨s,m⟩,k,c⟩:=oB1.mp c;obtain⟨⟨t,E⟩,A,c⟩:=oM1.mp c;cases c;refine⟨r,mu,S,d,j,he,hs,n,λv H1 mu1 f y w=>⟨r,mu1,j,s,m,he.ext f,w,k,λC H2 x g r2 B=>?_⟩⟩;refine zJ ((he.ext f).ext g) B A λvs z h i u o=>hc _ z h ((f.trans g).trans i) (.cons ⟨(y.ext g).ext i,r2.ext i⟩ u) o
theorem AI{K:Fg1}{H:Hp}{mu:List dE}:∀ {ps:List (D×D)} {vs:List (V×V)} {kvs:List (Key×D)},Paired (fun (p:D×D) (q:V×V)=>eH K H mu p.1 q.1/\eH K H mu p.2 q.2) ps vs->wI ps=some kvs ->
  ∃ws:List (Key×V),vs=ws.map (λc=>(kV c.1,c.2))/\KR K H mu kvs ws:=by
 intro ps vs kvs l h
 induction l generalizing kvs with
 |nil=>cases h;exact⟨[],O,.nil⟩
 | @cons a b ps vs q t ih=>
  obtain⟨k,d⟩:=a;obtain⟨m,j⟩:=b;obtain⟨i,g,h⟩:=oB1.mp h;obtain⟨rest,f,h⟩:=oM1.mp h;cases h;obtain⟨ws,e,r⟩:=ih f;have:=k7 q.1 g;dsimp only at this;subst this;exact⟨(i,j)::ws,by rw[mP1,<- e],.cons ⟨O,q.2⟩ r⟩
theorem Ar{K:Fg1}{H:Hp}{mu:List dE}:∀{kvs:List (Key×D)} {ws:List (Key×V)} {acc:List (Key×D)} {acw:List (Key×V)},KR K H mu kvs ws->KR K H mu acc acw->KR K H mu (kvs.foldl (λacc c=>fi acc c.1 c.2) acc) (iP acw ws):=by
 intro kvs ws acc acw f h
 induction f generalizing acc acw with
 |nil=>exact h
 | @cons a b kvs ws r t ih=>
  obtain⟨k,d⟩:=a;obtain⟨g,v⟩:=b;obtain⟨e,r⟩:=r;dsimp only at e r;subst e;show KR K H mu (kvs.foldl _ (fi acc k d)) (iP (iu acw k v) ws);exact ih (h.put r)
theorem yZ{pos:Pos}{ks:List (Option Expr)}{vs:List Expr}{l:List (FE×FE)}(h:XP X pos ks vs l)(t:ks.all (·.isSome)=M:=by rfl)(N:ks.length=vs.length:=by rfl)(h0:ks≠[]:=by(intro z;cases z))(B:ks.length<=15:=by decide):XE X (.Dict ks vs pos) (wx l):=
 ⟨eR (CF h.h t N h0 B) <| by
  rintro σ H Q ⟨r,mu,S,d,R,P,G,f,hc⟩ p j;obtain⟨⟨ps,F⟩,K,f⟩:=oB1.mp f;obtain⟨kvs,am,f⟩:=oB1.mp f;dsimp only at f;split at f
  ·rename_i m;cases f;have A:Ext mu mu H (upd H p (.dK [])):=Ext.fresh j;refine zJ (P.ext A) (G.fresh j) K fun vs H1 mu1 g I i=>?_;obtain ⟨k,v⟩:=g.held (a:=p) (o:=.dK []) d8 (G.notin j);obtain ⟨ws,L,rk⟩:=AI I am;refine ⟨k,ws,L,by rw [<- rk.length];exact m,?_⟩;have put:Ext (p::mu1) (p::mu1) H1 (upd H1 p (.dK (iP [] ws))):=Ext.put k trivial mS1;have au:=i.aside put.inner v;have y:Ext mu (mu1++[p]) H (upd H1 p (.dK (iP [] ws))):=by
    refine⟨g.pre.trans (bv _ _),λb o e n=>?_,λb ys e=>put.tup b ys (g.tup b ys (A.tup b ys e)),λb o u e=>put.frz b o u (g.frz b o u (A.frz b o u e)),λb w=>?_⟩
    ·have D:b≠p:=ew e j;rw[dY D];exact g.old b o (by rw[dY D];exact e) n
    ·rcases aG.mp w with z|z
     ·rcases g.new b z with q|q
      ·exact .inl q
      ·by_cases s:b=p
       ·exact .inr (by rw[s];exact j)
       ·rw[dY s]at q;exact .inr q
     ·have:b=p:=by simpa using z
      exact .inr (by rw[this];exact j)
   have C:=Ar rk (acc:=[]) (acw:=[]) .nil;refine hc _ _ (mu1++[p]) y (.ref (fQ i.len p)) ⟨by rw[lA1,lA1,i.len];rfl,?_,λn o b h1 h2=>?_⟩
   ·rw[bA];refine⟨i.nd,by simp,λb ao c hc e=>?_⟩;have:c=p:=by simpa using hc
    subst this;subst e;exact v ao
   ·by_cases E:n<F.length
    ·rw[gL1 E]at h1;rw[gL1 (by rw[i.len];exact E)]at h2;exact(au.ob n o b h1 h2).mor [p]
    ·have x:n=F.length:=by
      have:=(gE1.mp h1).1;rw[lA1]at this;simp at this;lia
     subst x;rw[gR1 (nR1 _)]at h1;rw[<- i.len,gR1 (nR1 _)]at h2;simp at h1 h2;subst h1;subst h2;exact⟨_,d8,KR.mor [p] (Paired.mapP C λ_ _ z=>⟨z.1,z.2.exw put.inner⟩)⟩
  ·cases f⟩
end
section
variable{K:Fg1}{H H':Hp}{mu mu':List dE}{S:Sto}
end
theorem mY{X:Cx}(i j:Nat){x y:Str}{a b:Expr}{m:FA}{l k pt pos:Pos}{kt k2 pt2}(hc:X.calm=true)(hN:X.N.Nodup)(hi:X.N[i]? = some x)(u:X.N[j]? = some y)(n:i≠j)(hx:X.env.scope.names.lookup x=some .local)(hy:X.env.scope.names.lookup y=some .local)(ha:XA X [a,b] m)(hw:swappedStores [.Tuple [.Name x l,.Name y k] kt pt] (.Tuple [a,b] k2 pt2) X.env=pure (some [x,y]):=by rfl)(hs:swapsWithSole [.Tuple [.Name x l,.Name y k] kt pt] (.Tuple [a,b] k2 pt2) pos.line X.env=pure false:=by rfl):
  XS X (.Assign [.Tuple [.Name x l,.Name y k] kt pt] (.Tuple [a,b] k2 pt2) pos) (eA (eP m) (gT 2 (gh (gN i) (gh (gN j) lF)))):=
 ⟨ic (Fk hc hN hi u n hx hy ha.h hw hs) <| by
  rintro E σ H ⟨r,mu,S,f,z,C,p,hs,h,hc⟩;obtain⟨⟨d,B⟩,e,h⟩:=oB1.mp h;obtain⟨⟨r2,w⟩,c,h⟩:=oB1.mp h;cases h;obtain⟨⟨ds,A⟩,v,e⟩:=oB1.mp e;dsimp only at e;split at e
  ·cases e;refine⟨r,mu,S,ds,_,p,hs,v,λvs H1 mu1 o g t=>?_⟩;dsimp only at c;rw[gT]at c;split at c
   ·cases g with
    |nil=>cases c
    |cons q g=>cases g with
     |nil=>cases c
     |cons s g=>cases g with
      |nil=>
       cases c;exact⟨_,_,O,hc _ H1 mu1 o (((p.ext o).set q).set s) t⟩
      |cons _ _=>cases c
   ·cases c
  ·cases e⟩
end Mi
namespace HT
open PySem PySem.Spec PyProof.Rows
variable{prog:dF}{w:dH}{A:dG}{E:dB->dD->Prop}{s:dD}
theorem jN{t sl:dE}{items:Array dB}{e vu:dB}{lo hi:Option Int}{Q:dB->dD->Prop}(ht:IsTup s.heap t items)(hs:s.heap.IsSliceOf sl e vu .none)(pl:IsPart e lo)(g:IsPart vu hi)(hw:sIx items.size 0 lo=0/\sIx items.size items.size hi=items.size)(h:Q (.ref t) s):dM (model prog w) A (getItem (.ref t) (.ref sl)) Q E s:=by
 obtain⟨i,c,d,f⟩:=id hs;have b:s.TypeIs (.ref sl) "slice":=⟨i,c,d⟩;unfold getItem
 try with_reducible refine wpAny_holding ?_
 first|refine wB1 (wP1 ?_)|skip
 refine wB1 (wpAny_sequenceKey ht.typeIs (by decide) ?_);refine wB1 (wpAny_callSpecial?_slot (name:=Str.ofString "__getitem__") ht.typeIs PyProof.Rows.slot_tuple_getitem
  (wE1 PyProof.Rows.slot_tuple_getitem ht.typeIs entry_tuple_getitem ?_ (args_tuple_getitem _ _)))
 show dM _ _ (Builtin.Tuple.tupleItemsOf (.ref t) >>= _) _ _ s;refine wB1 (tupleItemsOf_ ht ?_);refine wB1 (wpAny_typeOf b ?_);rw[ak (by decide)];refine wB1 (ip hs pl g ?_);have a:((((sIx items.size 0 lo:Nat):Int) == 0&&(1:Int) == 1&&(sIx items.size items.size hi-sIx items.size 0 lo) == items.size)=M):=by
  rw[hw.1,hw.2];simp
 show dM _ _ (if(((sIx items.size 0 lo:Nat):Int) == 0&&(1:Int) == 1&&(sIx items.size items.size hi-sIx items.size 0 lo) == items.size)=M then _ else _) _ _ s;rw[ak a];refine wB1 ?_;unfold Builtin.Tuple.tupleIsExact;refine wB1 (wpAny_typeOf ht.typeIs (wP1 ?_));rw[ak (by decide)]
 first
  |exact wB1 (wpAny_rule (wP1 ⟨_,rfl,wP1 h⟩))
  |exact wB1 (wpAny_rule (wB1 (wP1 ⟨_,rfl,wP1 h⟩)))
end HT
namespace Mi
open PySem PySem.Spec PyProof.Rows L2
def Kg(K:Fg1):V->Option Int->Option Int->Hp->VK->Prop:=λx lo hi H Q=>∃a xs,x = .ref a/\j5 K H a xs/\(HT.sIx xs.length 0 lo=0/\HT.sIx xs.length xs.length hi=xs.length)/\Q (.ref a) H
section
variable{X:Cx}
theorem Ce:BR X (Kg X.K):=by
 intro ag s σ H x v k vu lo hi m Q I j f pl g h;obtain⟨a,xs,rfl,e,i,q⟩:=h;cases j;obtain⟨c,r,d,l⟩:=I.tuple e;have b:c.toArray.size=xs.length:=by rw[sT1];exact r.length.symm
 refine⟨"tuple",_,PyProof.Rows.slot_tuple_getitem.lookup,d.typeIs,?_⟩;exact HT.jN d f pl g (by rw[b];exact i) ⟨.ref a,H,I,O,q⟩
noncomputable def EX(S:Sto)(d:D)(lo hi:Option Int):Option (D×Sto):=(d4 S d).map λp=>if p.1=M then(.ref S.length,S++[.lst (Mi.yD p.2 lo hi)])else(.tup (Mi.yD p.2 lo hi),S)
noncomputable def Aw(m:FE)(lo hi:FO):FE:=λr S=>(m r S).bind λp=>(lo r p.2).bind λa=>(hi r a.2).bind λb=>EX b.2 p.1 a.1 b.1
theorem yC{xs:List D}{lo hi:Option Int}(h:HT.sIx xs.length 0 lo=0/\HT.sIx xs.length xs.length hi=xs.length):Mi.yD xs lo hi=xs:=by
 unfold Mi.yD;rw[h.1,h.2,bX,Nat.sub_zero,bY]
theorem nr{e:Expr}{lo hi:Option Expr}{m:FE}{a b:FO}{pos p2:Pos}(h:XE X e m)(L:XO X lo a)(au:XO X hi b):XE X (.Subscript e (.Slice lo hi Y p2) pos) (Aw m a b):=
 ⟨eR (zS (BR.or Ce (BR.or EY Cf)) h.h L.h au.h) <| by
  rintro σ H Q ⟨r,mu,S,d,P,y,am,f,hc⟩;obtain⟨⟨F,B⟩,D,f⟩:=oB1.mp f;obtain⟨⟨n,z⟩,C,f⟩:=oB1.mp f;obtain⟨⟨l,E⟩,ao,f⟩:=oB1.mp f;refine⟨r,mu,S,F,B,y,am,D,λv H1 mu1 o K I=>?_⟩;refine⟨r,mu1,B,n,z,y.ext o,I,C,λH2 w s N=>?_⟩;refine⟨r,w,z,l,E,(y.ext o).ext s,N,ao,λR g A j=>?_⟩;obtain⟨⟨k,xs⟩,G,f⟩:=oM1.mp f;have u:=(o.trans s).trans A;obtain⟨c,vs,rfl,q,t⟩:=d6 ((K.ext s).ext A) j G;cases k with
  |true=>
   cases f;right;right;exact⟨c,vs,O,q,λp i=>hc _ _ (g++[p]) (u.trans (Ext.new_ i)) (.ref (fQ j.len p)) (j.newL (w5 t n l) i)⟩
  |false=>
   simp only[bF1,if_false]at f;cases f;by_cases x:HT.sIx xs.length 0 n=0/\HT.sIx xs.length xs.length l=xs.length
   ·left;rw[yC x]at hc;exact⟨c,vs,O,q,by rw[<- t.length];exact x,hc _ _ g u (.tup q t) j⟩
   ·right;left;exact⟨c,vs,O,q,by rw[<- t.length];exact x,λp i=>hc _ _ g (u.trans (Ext.fresh i)) (.tup (j5.of d8) ((w5 t n l).ext (Ext.fresh i))) (j.fresh i)⟩⟩
end
mutual
inductive gG (h:dP):TK->dB->Prop
 |non:gG h .non .none
 |int (i t):gG h (.int i) (.int i t)
 |tup {a o items n xs}:h.get? a=some o->o.cls = .type "tuple"->o.data = .seq items n->gU h xs items.toList->gG h (.tup xs) (.ref a)
inductive gU (h:dP):List TK->List dB->Prop
 |nil:gU h [] []
 |cons {k v ks vs}:gG h k v->gU h ks vs->gU h (k::ks) (v::vs)
end
section
variable{prog:dF}{w:dH}{A:dG}{E:dB->dD->Prop}{s:dD}
theorem sK{Q:Int->dD->Prop}(h:Q 0xFCA86420 {s with toks:=s.toks+1}):dM (model prog w) A (pyHash .none) Q E s:=by
 have a:s.TypeIs .none "NoneType":=rfl;unfold pyHash
 first|unfold pyHashByItsType|skip
 have b:[Value.none].any Value.onHeap=J:=rfl;refine wB1 ?_;rw[cRoomFor,aj (by rw[b];exact aK)];refine wP1 ?_;refine wB1 (wpAny_specialOf a F.slot_NoneType_hash.lookup ?_);show dM _ _ (if(Z (Value.builtin "NoneType.__hash__") == Z Value.none)=M then _ else _) Q E s;rw[aj (by rw[beq_builtin_none];exact aK)];refine wB1 (wpAny_specialOf a F.slot_NoneType_hash.lookup ?_);show dM _ _ (callSpecialIfBoundUnlessNone? .none "__hash__" _ >>= _) Q E s;refine wB1 (wpAny_callSpecialIfBoundUnlessNone?_slot a F.slot_NoneType_hash (wE1 F.slot_NoneType_hash a F.entry_NoneType_hash (show dM _ _ (retInt 0xFCA86420) _ _ s from wpAny_ret_mkInt ?_) (F.args_NoneType_hash_1 _)));exact wP1 h
def rZ(prog:dF)(w:dH)(k:TK):Prop:=∀{A:dG} {E:dB->dD->Prop} {s:dD} {v:dB} {Q:Int->dD->Prop},A.units+k.dep<cLine->gG s.heap k v->Q k.hash {s with toks:=s.toks+k.draws}->dM (model prog w) A (pyHash v) Q E s
theorem gU.split{h:dP}:∀{ks:List TK} {vs:List dB},gU h ks vs->ks.length=vs.length:=λa=>a.rec (motive_1:=λ_ _ _=>True) (motive_2:=λks vs _=>ks.length=vs.length) trivial (λ_ _=>trivial) (λ_ _ _ _ _=>trivial) O (λ_ _ _ ih=>congrArg (· + 1) ih)
theorem AU{xs:List TK}(all:∀k∈xs,rZ prog w k):rZ prog w (.tup xs):=by
 intro A E s v Q t u h;cases u with
 | @tup a o m n _ r hc y hi=>
  have i:s.TypeIs (.ref a) "tuple":=⟨o,r,hc⟩;rw[TK.dep]at t;unfold pyHash
  first|unfold pyHashByItsType|skip
  first|refine wB1 (wpAny_cRoomFor_or (.inr (by lia)) ?_)|skip
  refine wB1 (wpAny_specialOf i F.slot_tuple_hash.lookup ?_);show dM _ _ (if(Z (Value.builtin "tuple.__hash__") == Z Value.none)=M then _ else _) Q E s;rw[aj (by rw[beq_builtin_none];exact aK)];refine wB1 (wpAny_specialOf i F.slot_tuple_hash.lookup ?_);show dM _ _ (callSpecialIfBoundUnlessNone? (.ref a) "__hash__" _ >>= _) Q E s;refine wB1 (wpAny_callSpecialIfBoundUnlessNone?_slot i F.slot_tuple_hash (wE1 F.slot_tuple_hash i F.entry_tuple_hash ?_ (F.args_tuple_hash_1 _)));show dM _ _ (Builtin.Tuple.tupleItemsOf (.ref a) >>= _) _ _ s;refine wB1 (wpAny_tupleItemsOf r y ?_);refine wB1 ?_;rw[<- Array.forIn_toList];refine wpAny_forIn_list _
   (λrest (b:Array Int) s'=>∃c d,xs=c++d/\gU s.heap d rest/\b.toList=TK.hashes c/\s'={s with toks:=s.toks+TK.drawsAll c})
   _ ?_ ?_ _ _ ⟨[],xs,O,hi,O,O⟩
  ·rintro x rest b s' ⟨c,d,e,p,j,rfl⟩;cases p with
   | @cons k _ f _ h1 g=>
    have q:k∈xs:=by rw[e];simp
    refine wB1 (all k q (show A.in1.units+k.dep<cLine by have:=TK.dep_mem q;rw[show A.in1.units=A.units+1 from rfl];lia) h1 ?_)
    first
     |exact wP1 ⟨c++[k],f,by simp[e],g,by rw[TK.hashes_app];simp[j,TK.hashes],by rw[TK.draws_app];simp[TK.drawsAll,bm]⟩
     |exact wB1 (wP1 (wP1 ⟨c++[k],f,by simp[e],g,by rw[TK.hashes_app];simp[j,TK.hashes],by rw[TK.draws_app];simp[TK.drawsAll,bm]⟩))
  ·rintro b s' ⟨c,d,e,p,j,rfl⟩;cases p;rw[aN]at e;subst e;show dM _ _ (retInt (Builtin.Tuple.tupleHashOf b.toList)) _ _ _;rw[j];refine wpAny_ret_mkInt ?_;show dM _ _ (if(decide (-(2:Int)^63<=Builtin.Tuple.tupleHashOf (TK.hashes xs))&&decide (Builtin.Tuple.tupleHashOf (TK.hashes xs)<2^63))=M then _ else _) Q E _;rw[TK.hash,TK.draws]at h;unfold reduceHash at h;by_cases l:(decide (-(2:Int)^63<=Builtin.Tuple.tupleHashOf (TK.hashes xs))&&decide (Builtin.Tuple.tupleHashOf (TK.hashes xs)<2^63))=M
   ·rw[ak l];rw[ak l]at h;exact wP1 (by simpa[bm]using h)
   ·rw[aj l];rw[aj l]at h;exact wB1 (wpAny_rule (wP1 (by simpa[bm]using h)))
mutual
theorem wO:∀k:TK,rZ prog w k
 | .non=>λb a h=>by cases a;exact sK h
 | .int i=>λb a h=>by cases a;exact wpAny_pyHash_int h
 | .tup xs=>AU (tK xs)
theorem tK:∀ks:List TK,∀k∈ks,rZ prog w k
 |[],k,h=>by simp at h
 |x::xs,k,h=>by
  by_cases e:k=x
  ·rw[e];exact wO x
  ·exact tK xs k ((aF.mp h).resolve_left e)
end
end
theorem gG.inj{h:dP}:∀ {k k':TK} {v:dB},gG h k v->gG h k' v->k=k':=fun i=>i.rec (motive_1:=fun k v _=>∀ k',gG h k' v->k=k') (motive_2:=fun k v _=>∀ k',gU h k' v->k=k')
  (λk' g=>by cases g;rfl) (λ_ _ k' g=>by cases g;rfl)
  (λj l e m ih k' g=>by
   cases g with
   |tup d n c f=>
    rw[j]at d;cases d;rw[e]at c;cases c;rw[ih _ f])
  (λk' g=>by cases g;rfl) (λ_ _ a b k' g=>by cases g with|cons r' t'=>rw[a _ r',b _ t']) _
theorem gG.keeps{h h':dP}{d:dE}{o:Obj}{es ep}(ho:h.get? d=some o)(hd:o.data = .dict es ep)(hs:Heap.SameBut d h h'):∀ {k:TK} {v:dB},gG h k v->gG h' k v:=fun g=>g.rec (motive_1:=fun k v _=>gG h' k v) (motive_2:=fun k v _=>gU h' k v) .non .int
  (λ{a} _ _ _ _ e f c _ ih=>.tup ((hs.2 a (λz=>by subst z;rw[e]at ho;cases ho;rw[c]at hd;cases hd)).trans e) f c ih) .nil (λ_ _ a b=>.cons a b)
theorem gU.at{h:dP}:∀{ks:List TK} {vs:List dB} (j:Nat) (h1:j<ks.length) (h2:j<vs.length),gU h ks vs->gG h ks[j] vs[j]
 |_::_,_::_,0,_,_,.cons r _=>r
 |_::ks,_::vs,j+1,h1,h2,.cons _ t=>gU.at j (by simpa using h1) (by simpa using h2) t
theorem Bz{xs ys:List TK}(b:xs.length=ys.length):((af (min xs.length ys.length)).all λj=>decide (xs[j]?=ys[j]?))=decide (xs=ys):=by
 by_cases h:xs=ys
 ·subst h;simp
 ·rw[ai h,List.all_eq_false];have:∃j,xs[j]? ≠ ys[j]?:=Classical.byContradiction λz=>h (bZ λj=>Classical.byContradiction λq=>z ⟨j,q⟩);obtain⟨j,a⟩:=this;refine⟨j,?_,by simpa using a⟩;rw[aB,b,Nat.min_self];apply Classical.byContradiction;intro c;exact a (by rw[b4 (by lia),b4 (by lia)])
theorem IZ:∀(n:Nat) {k k':TK} {A:dG} {s:dD} {u v:dB},k.dep<=n->A.units+n<cLine->gG s.heap k u->gG s.heap k' v->SeqAt.EqAt A s u v (decide (k=k')):=by
 intro n
 induction n with
 |zero=>
  intro k k' A s u v F U r g;cases r with
  |tup _ _ _ _=>simp[TK.dep]at F
  |non=>
   cases g with
   |non=>simpa using SeqAt.EqAt.same (A:=A) (s:=s) Value.none
   |int i t=>simpa[ut]using ke (A:=A) (s:=s) (y:=.non) (x:=.int i) O ⟨t,O⟩ O O
   |tup e c d t=>simpa using(ft (A:=A) (s:=s) (b:=J) (v:=.non) (u:=.none) ⟨_,e,c,_,d⟩ O O (by lia)).2.1
  |int i t=>
   cases g with
   |non=>simpa[ut]using ke (A:=A) (s:=s) (y:=.int i) (x:=.non) ⟨t,O⟩ O O O
   |int j I=>
    have:=ke (A:=A) (s:=s) (y:=.int i) (x:=.int j) ⟨t,O⟩ ⟨I,O⟩ O O;have e:ut (.int i) (.int j)=decide (TK.int i=TK.int j):=by
     by_cases h:i=j
     ·subst h;simp[ut]
     ·rw[ai (λz=>h (by injection z))];simp[ut,h]
    rw[e]at this;exact this
   |tup e c d q=>simpa using(ft (A:=A) (s:=s) (b:=J) (v:=.int i) (u:=.int i t) ⟨_,e,c,_,d⟩ ⟨t,O⟩ O (by lia)).2.1
 |succ n ih=>
  intro k k' A s u v F U r g;cases r with
  |non=>
   cases g with
   |non=>simpa using SeqAt.EqAt.same (A:=A) (s:=s) Value.none
   |int i t=>simpa[ut]using ke (A:=A) (s:=s) (y:=.non) (x:=.int i) O ⟨t,O⟩ O O
   |tup e c d t=>simpa using(ft (A:=A) (s:=s) (b:=J) (v:=.non) (u:=.none) ⟨_,e,c,_,d⟩ O O (by lia)).2.1
  |int i t=>
   cases g with
   |non=>simpa[ut]using ke (A:=A) (s:=s) (y:=.int i) (x:=.non) ⟨t,O⟩ O O O
   |int j I=>
    have:=ke (A:=A) (s:=s) (y:=.int i) (x:=.int j) ⟨t,O⟩ ⟨I,O⟩ O O;have e:ut (.int i) (.int j)=decide (TK.int i=TK.int j):=by
     by_cases h:i=j
     ·subst h;simp[ut]
     ·rw[ai (λz=>h (by injection z))];simp[ut,h]
    rw[e]at this;exact this
   |tup e c d q=>simpa using(ft (A:=A) (s:=s) (b:=J) (v:=.int i) (u:=.int i t) ⟨_,e,c,_,d⟩ ⟨t,O⟩ O (by lia)).2.1
  | @tup a o f m xs p l w C=>
   cases g with
   |non=>simpa using(ft (A:=A) (s:=s) (b:=J) (v:=.non) (u:=.none) ⟨_,p,l,_,w⟩ O O (by lia)).1
   |int i t=>simpa using(ft (A:=A) (s:=s) (b:=J) (v:=.int i) (u:=.int i t) ⟨_,p,l,_,w⟩ ⟨t,O⟩ O (by lia)).1
   | @tup a2 Q items2 m2 ys am L K D=>
    by_cases N:a=a2
    ·subst N;have:TK.tup xs=TK.tup ys:=gG.inj (.tup p l w C) (.tup am L K D);rw[ah this];exact .same _
    ·refine .of_refs N ?_;have au:=C.split;have P:=D.split;have H:=SeqAt.RcAt.tuples (A:=A) (s:=s) (e:=fun j=>decide (xs[j]? = ys[j]?)) ⟨o,p,l,m,w⟩ ⟨Q,am,L,m2,K⟩ (by lia) (fun j h1 h2=>by
      have E:j<xs.length:=by rw[au];simpa using h1
      have ao:j<ys.length:=by rw[P];simpa using h2
      rw[TK.dep]at F;have V:=TK.dep_mem (bS E);have q:=ih (k:=xs[j]) (k':=ys[j]) (A:=A.in1) (s:=s) (by lia) (by show A.units+1+n<cLine;lia) (C.at j E (by simpa using h1)) (D.at j ao (by simpa using h2));have e:decide (xs[j]?=ys[j]?)=decide (xs[j]=ys[j]):=by
       rw[gG1 E,gG1 ao];simp
      rw[e];simpa using q)
     have R:f.size=xs.length:=by rw[au];simp
     have T:items2.size=ys.length:=by rw[P];simp
     rw[R,T]at H;have G:((af (min xs.length ys.length)).all (λj=>decide (xs[j]?=ys[j]?))&&xs.length == ys.length)=decide (TK.tup xs=TK.tup ys):=by
      by_cases B:xs.length=ys.length
      ·rw[Bz B,B,beq_self_eq_true,bN];by_cases h:xs=ys
       ·subst h;simp
       ·rw[ai h,ai (λz=>h (by injection z))]
      ·have S:(xs.length == ys.length)=J:=by simpa using B
       rw[S,Bool.and_false,ai (λz=>B (by injection z with z;rw[z]))]
     rw[G]at H;exact H
theorem zC{prog:dF}{w:dH}:∀(n:Nat) {k:TK} {A:dG} {E:dB->dD->Prop} {s:dD} {v:dB} {Q:Bool->dD->Prop},k.dep<=n->gG s.heap k v->Q M s->dM (model prog w) A (eqIsQuiet n v) Q E s:=by
 intro n
 induction n with
 |zero=>
  intro k A E s v Q e r h;cases r with
  |non=>rw[eqIsQuiet_byValue 0 O];exact wP1 h
  |int i t=>rw[eqIsQuiet_byValue 0 O];exact wP1 h
  |tup _ _ _ _=>simp[TK.dep]at e
 |succ n ih=>
  intro k A E s v Q e r h;cases r with
  |non=>rw[eqIsQuiet_byValue _ O];exact wP1 h
  |int i t=>rw[eqIsQuiet_byValue _ O];exact wP1 h
  | @tup a o b m xs g l j p=>
   have f:s.TypeIs (.ref a) "tuple":=⟨o,g,l⟩;rw[TK.dep]at e;unfold eqIsQuiet;refine wB1 (wpAny_specialOf f F.slot_tuple_eq.lookup ?_);show dM _ _ (isInstance (.ref a) (.type "tuple") >>= _) _ _ s;refine wB1 (wpAny_isInstance f isSubtype_tuple_tuple ?_);simp only[b5,bF1,if_false];refine wB1 (wpAny_seqItems g j ?_);refine wB1 ?_;show dM _ _ (forIn b _ _) _ _ s;rw[<- Array.forIn_toList];refine wpAny_forIn_list _ (λrest r s'=>r.1=Y/\s'=s /\ ∃ks,gU s.heap ks rest/\TK.depAll ks<=n) _ ?_ ?_ _ _ ⟨O,O,xs,p,by lia⟩
   ·rintro v rest r s' ⟨d,rfl,ks,z,q⟩;cases z with
    | @cons y _ c _ u x=>
     rw[TK.depAll]at q;refine wB1 (ih (k:=y) (by lia) u ?_);simp only[b5,bF1,if_false];exact wP1 ⟨O,O,c,x,by lia⟩
   ·rintro⟨B,r2⟩ s' ⟨d,rfl,_⟩;simp only at d;subst d;exact wP1 h
noncomputable def fP(prog:dF)(w:dH):HeapKind prog w TK where
 is:=λh k a=>gG h k (.ref a)/\k.dep<=8
 hash:=TK.hash
 draws:=TK.draws
 room:=λA=>A.units+8<cLine
 inj:=λhx hy=>hx.1.inj hy.1
 keeps:=λx ho hd hs=>⟨x.1.keeps ho hd hs,x.2⟩
 pyHash:=λhu hk h=>wO _ (by have:=hk.2;omega) hk.1 h
 eqBool:=λhu hx hy h=>IZ 8 hx.2 hu hx.1 hy.1 _ _ _ _ h
 quiet:=λhk h=>zC 8 hk.2 hk.1 h
noncomputable def LF:G2:=λo v S=>match o,v with
 | .ref n,.ref b=>match S[n]?,S[b]? with
  |some (.lst xs),Z (.lst ys)=>if xs.length+ys.length<=dL then Z (.non,S.set n (.lst (xs++ys)))else Y
  |_,_=>Y
 |_,_=>Y
noncomputable def rG(n:Nat)(k:Int):Nat:=if k<0 then(k+(n:Int)).toNat else min k.toNat n
noncomputable def yr:G3:=λo i v S=>match o,i with
 | .ref n,.int k=>match S[n]? with
  |some (.lst xs)=>if-(2^63)<=k/\k<2^63/\xs.length<dL then Z (.non,S.set n (.lst (xs.take (rG xs.length k)++v::xs.drop (rG xs.length k))))else Y
  |_=>Y
 |_,_=>Y
noncomputable def yw(f:D->D->Option Bool)(x:D):List D->Option (List Bool)
 |[]=>Z []
 |y::ys=>(f y x).bind λb=>(yw f x ys).map (b :: ·)
noncomputable def AZ:G2:=λo x S=>match o with
 | .ref n=>match S[n]? with
  |some (.lst ys)=>(yw (fU S eL) x ys).bind λbs=>if bs.length<2^62 then(bs.findIdx? id).map λj=>(.int (j:Nat),S)else Y
  |_=>Y
 |_=>Y
theorem wW(f:D->D->Option Bool)(x:D):∀{ys:List D} {bs:List Bool},yw f x ys=Z bs->bs.length=ys.length /\ ∀(j:Nat) (y:D) (k:Bool),ys[j]?=Z y->bs[j]?=Z k->f y x=Z k
 |[],bs,h=>by cases h;exact⟨O,λj y k h=>by simp at h⟩
 |y::ys,bs,h=>by
  rw[yw]at h;obtain⟨b,e,h⟩:=oB1.mp h;obtain⟨g,c,h⟩:=oM1.mp h;obtain⟨d,a1⟩:=wW f x c;subst h;refine⟨by simp[d],λj=>?_⟩;cases j with
  |zero=>intro a k h1 h2;simp at h1 h2;subst h1;subst h2;exact e
  |succ j=>intro a k h1 h2;exact a1 j a k (by simpa using h1) (by simpa using h2)
section
open PySem.MeetsSeq PySem.MeetsSeq2 PySem.MeetsSeq3 PySem.SeqRoads2
theorem tJ{l:dE}{its:Array dB}{n:Nat}{x:dB}{e:Nat->Bool}{top:Int}{j:Nat}(f:j<its.size)(ht:(j:Int)<top)(c:e j=true):∀ (k i:Nat),i+k=j->(∀ m,i<=m->m<j->e m=false) ->
  Meets (Builtin.«list.index.loop» ⟨[.ref l,x,rawInt i,rawInt top],[]⟩)
   (λA R s=>s.heap.get? l=Z {cls:=.type "list",data:=.seq its n}/\(∀m (h:m<its.size),SeqAt.EqAt A.in1 s its[m] x (e m))/\R (.ok (.ret (.int j s.toks))) {s with toks:=s.toks+1})
 |0,i,hk,hno,prog,w,A,R,⟨hp,g,d,tk,os⟩,⟨hl,he,h⟩=>by
  have o:i=j:=by lia
  subst o
  wp_walk using AutoSeq1.wpAny_loadPart' hl
  rw[show(if(i:Int)<top then its[((i:Nat):Int).toNat]? else Y)=Z its[i] by simp[ht,f]];refine wB1 (he i f prog w _ _ ?_);rw[c]
  wp_walk
  exact h
 |k+1,i,hk,hno,prog,w,A,R,⟨hp,g,d,tk,os⟩,⟨hl,he,h⟩=>by
  have h1:i<its.size:=by lia
  have h2:(i:Int)<top:=by lia
  wp_walk using AutoSeq1.wpAny_loadPart' hl
  rw[show(if(i:Int)<top then its[((i:Nat):Int).toNat]? else Y)=Z its[i] by simp[h1,h2]];refine wB1 (he i h1 prog w _ _ ?_);rw[hno i (nR1 i) (by lia)]
  wp_walk
  rw[show((i:Int)+1)=((i+1:Nat):Int) by push_cast;rfl];have z:=tJ (l:=l) (n:=n) (x:=x) f ht c k (i+1) (by lia) (λm a b=>hno m (by lia) b) prog w A R _ ⟨hl,he,h⟩;exact⟨plainId_quiet plain_index_loop _,wD1 entry_index_loop (by rw[Around.under_plainId plain_index_loop _];exact z)⟩
theorem AS{l:dE}{its:Array dB}{n:Nat}{x:dB}{e:Nat->Bool}{j:Nat}(o:j<its.size)(ht:(j:Int)<2^63-1)(c:e j=true)(a:∀ m,m<j->e m=false):
  Meets (Builtin.«list.index» ⟨[.ref l,x],[]⟩)
   (λA R s=>s.heap.get? l=Z {cls:=.type "list",data:=.seq its n}/\(∀m (h:m<its.size),SeqAt.EqAt A.in1 s its[m] x (e m))/\R (.ok (.ret (.int j s.toks))) {s with toks:=s.toks+1}):=by
 intro prog w A R ⟨p,g,d,tk,q⟩ ⟨f,k,h⟩
 wp_walk using AutoSeq1.wpAny_loadPart' f
 rw[show((λi:Int=>if i<0 then max 0 (i+(its.size:Int))else i) ((Y:Option Int).getD 0))=((0:Nat):Int) by simp,show((λi:Int=>if i<0 then max 0 (i+(its.size:Int))else i) ((Y:Option Int).getD (2^63-1)))=2^63-1 by simp];have z:=tJ (l:=l) (n:=n) (x:=x) o ht c j 0 (by lia) (λm _ b=>a m b) prog w A R _ ⟨f,k,h⟩;exact⟨plainId_quiet plain_index_loop _,wD1 entry_index_loop (by rw[Around.under_plainId plain_index_loop _];exact z)⟩
end
section
variable{X:Cx}
theorem Ke{K:Fg1}{H:Hp}{Q:VK}{f:G3}{xs:List V}(h:rN K (b3 f) xs H Q):∃x y z mu S d e g r b,xs=[x,y,z]/\eH K H mu d x/\eH K H mu e y/\eH K H mu g z/\Sim K H mu S/\f d e g S=Z (r,b)/\ph K mu H r b Q:=by
 obtain⟨mu,S,ds,r,b,k,c,a,hc⟩:=h;cases k with
 |nil=>cases a
 |cons q t=>cases t with
  |nil=>cases a
  |cons i t=>cases t with
   |nil=>cases a
   |cons j t=>cases t with
    |nil=>exact⟨_,_,_,mu,S,_,_,_,r,b,O,q,i,j,c,a,hc⟩
    |cons l t=>cases a
theorem HC(hu:X.A.units+64<cLine):Ew X "list.index" (λx xs H Q=>rN X.K (b2 AZ) (x::xs) H Q):=by
 intro ag s σ H x xs v us Q I N D h;obtain⟨V,y,mu,S,d,e,W,aq,R,am,r2,k,a,hc⟩:=zy h;cases R;unfold AZ at a;split at a
 ·rename_i n;split at a
  ·rename_i ys U;obtain⟨bs,G,a⟩:=oB1.mp a;split at a
   ·rename_i q;obtain⟨j,r,a⟩:=oM1.mp a;cases a;cases am with
    |ref C=>
     obtain⟨vs,au,t⟩:=k.lst U C;cases N;obtain⟨u,rfl,E⟩:=D.one;obtain⟨z,b,T,c,hl,e⟩:=I.lstM au;obtain⟨wq,o⟩:=wW _ _ G;have l2:=t.length;have l3:=c.length;rw[b6]at r;obtain⟨L,g,f⟩:=r;have l:∀m (a:m<b.toArray.size),SeqAt.EqAt X.A.in1 s b.toArray[m] u (bs[m]?.getD J):=λm a=>by
      have m1:m<b.length:=by simpa using a
      obtain⟨ao,K,w⟩:=t.getV (i:=m) (v:=vs[m]'(by lia)) (gG1 (by lia));obtain⟨w',p,B⟩:=c.get (i:=m) (x:=vs[m]'(by lia)) (gG1 (by lia));have m2:m<bs.length:=by lia
      have P:b.toArray[m]=w':=by
       have:=gG1 m1;rw[this]at p;simpa using p
      rw[P,gG1 m2];exact(l0 I k eL (A:=X.A.in1) (by show X.A.units+1+60<cLine;lia) w r2 B E (o m ao bs[m] K (gG1 m2))).1
     refine call_meets F.slot_list_index ⟨_,e,O⟩ F.entry_list_index (F.args_list_index_2 _ _)
      (AS (n:=T) (e:=λm=>bs[m]?.getD J) (j:=j) (by simp;lia) (by lia) ?_ ?_) ⟨e,l,?_⟩
     ·simp only[gG1 L,b7];simpa using g
     ·intro m a;have m2:m<bs.length:=by lia
      have:=f m a;simp only[gG1 m2,b7];simpa using this
     ·exact⟨.int j,H,I.tok _,⟨_,O⟩,hc.now (.int _) k⟩
   ·cases a
  ·cases a
 ·cases a
theorem D9:Ew X "list.insert" (λx xs H Q=>rN X.K (b3 yr) (x::xs) H Q):=by
 intro ag s σ H x xs v au Q I A r h;obtain⟨E,y,z,mu,S,d,e,g,am,L,B,w,r2,q,m,b,hc⟩:=Ke h;cases B;unfold yr at b;split at b
 ·rename_i n k;split at b
  ·rename_i ys D;split at b
   ·rename_i l;cases b;cases w with
    |ref i=>
     cases r2;obtain⟨vs,f,t⟩:=m.lst D i;cases A;obtain⟨G,j,rfl,o,p⟩:=r.two;obtain⟨tk,rfl⟩:=o;obtain⟨K,a,C,c,N,e⟩:=I.lstM f;have P:=t.length;have ao:=c.length;refine call_meets F.slot_list_insert ⟨_,e,O⟩ F.entry_list_insert (F.args_list_insert_3 _ _ _)
      (AutoSeq1.list_insert_list_int_val_1 _ a.toArray C k tk j (by rw[fitsIndex_both l.1 l.2.1];exact aK) (by rw[sT1];omega)) ⟨e,?_⟩
     have x:=Ext.put (u:=.lst (vs.take (rG ys.length k)++z::vs.drop (rG ys.length k))) f trivial (gM1 i);refine⟨.non,_,I.lset (its':=a.take (rG ys.length k)++j::a.drop (rG ys.length k)) f e ?_ ((c.take _).append (.cons p (c.drop _))) ?_,O,hc _ _ mu x .non (m.putL ((t.take _).append (.cons q (t.drop _))) i f)⟩
     ·rw[show ys.length=a.length by omega];simp[rG];exact b8 (by simp)
     ·simp;omega
   ·cases b
  ·cases b
 ·cases b
end
mutual
noncomputable def kD:D->Option TK
 | .non=>Z .non
 | .int i=>Z (.int i)
 | .tup xs=>(IH xs).map .tup
 |_=>Y
noncomputable def IH:List D->Option (List TK)
 |[]=>Z []
 |x::xs=>(kD x).bind λk=>(IH xs).map (k :: ·)
end
noncomputable def keyT:D->Option TK
 | .tup xs=>(IH xs).bind λks=>if(TK.tup ks).dep<=8 then Z (.tup ks)else Y
 |_=>Y
mutual
theorem II:∀{d:D} {k:TK},kD d=Z k->tkD k=d
 | .non,k,h=>by cases h;rfl
 | .int i,k,h=>by cases h;rfl
 | .tup xs,k,h=>by
  rw[kD]at h;obtain⟨ks,e,h⟩:=oM1.mp h;subst h;rw[tkD,vc e]
 | .bl _,k,h=>by simp[kD]at h
 | .str _,k,h=>by simp[kD]at h
 | .rol _,k,h=>by simp[kD]at h
 | .fn _,k,h=>by simp[kD]at h
 | .ref _,k,h=>by simp[kD]at h
theorem vc:∀{ds:List D} {ks:List TK},IH ds=Z ks->hW ks=ds
 |[],ks,h=>by cases h;rfl
 |x::xs,ks,h=>by
  rw[IH]at h;obtain⟨k,a,h⟩:=oB1.mp h;obtain⟨t,b,h⟩:=oM1.mp h;subst h;rw[hW,II a,vc b]
end
theorem wJ{d:D}{k:TK}(h:keyT d=Z k):tkD k=d/\k.dep<=8 /\ ∃xs,k = .tup xs:=by
 cases d with
 |tup xs=>
  rw[keyT]at h;obtain⟨ks,e,h⟩:=oB1.mp h;split at h
  ·rename_i a;cases h;exact⟨by rw[tkD,vc e],a,ks,O⟩
  ·cases h
 |_=>cases h
section
variable{X:Cx}{ag:List (dE×Obj)}{σ:L2.St}{H:Hp}{s:dD}{mu:List dE}
mutual
theorem vU(I:Inv X ag σ H s):∀(k:TK) {v:V} {u:dB},eH X.K H mu (tkD k) v->d5 v u->gG s.heap k u
 | .non,v,u,r,q=>by
  rw[tkD]at r;cases r;cases q;exact .non
 | .int i,v,u,r,q=>by
  rw[tkD]at r;cases r;obtain⟨t,rfl⟩:=q;exact .int i t
 | .tup xs,v,u,r,q=>by
  rw[tkD]at r;cases r with
  |tup h t=>
   cases q;obtain⟨a,d,⟨o,c,b,n,e⟩,_⟩:=I.tuple h;exact .tup c b e (by simpa using zh I xs t d)
theorem zh(I:Inv X ag σ H s):∀(ks:List TK) {vs:List V} {a:List dB},d2 X.K H mu (hW ks) vs->ee vs a->gU s.heap ks a
 |[],vs,a,r,q=>by rw[hW]at r;cases r;cases q;exact .nil
 |k::ks,vs,a,r,q=>by
  rw[hW]at r;cases r with
  |cons r t=>cases q with
   |cons q p=>exact .cons (vU I k r q) (zh I ks t p)
end
theorem uV{α β γ δ:Type}{F:α->β->Prop}{G:γ->δ->Prop}{f:α->γ}{g:β->δ}:∀{l₁:List α} {l₂:List β},Paired F l₁ l₂->(∀a b,F a b->G (f a) (g b))->Paired G (l₁.map f) (l₂.map g):=by
 intro a b h g
 induction h with
 |nil=>exact .nil
 |cons r t ih=>exact .cons (g _ _ r) ih
theorem uW{α β:Type}{F:α->β->Prop}:∀{l₁ f:List α} {l₂ e:List β},Paired F l₁ l₂->Paired F f e->Paired F (l₁++f) (l₂++e):=by
 intro a b c d h g
 induction h with
 |nil=>exact g
 |cons r t ih=>exact .cons r ih
theorem KT.length{K:Fg1}:∀{ks:List (TK×D)} {ws:List (TK×dE×dB)},KT K H mu ks ws->ks.length=ws.length:=λh=>Paired.length h
theorem KT.mem{K:Fg1}:∀{ks:List (TK×D)} {ws:List (TK×dE×dB)},KT K H mu ks ws -> ∀x∈ws,x.1.dep<=8/\eH K H mu (tkD x.1) (.ref x.2.1):=by
 intro ks ws a x h
 induction a with
 |nil=>cases h
 |cons r t ih=>
  rcases aF.mp h with e|e
  ·subst e;rw[<- r.1];exact⟨r.2.1,r.2.2.1⟩
  ·exact ih e
theorem KT.look{K:Fg1}{k:TK}:∀ {ks:List (TK×D)} {ws:List (TK×dE×dB)},KT K H mu ks ws ->
  (∀d,d0 ks k=Z d -> ∃p v,atKey ws k=Z p/\d5 v p.2/\eH K H mu d v)/\(atKey ws k).isSome=(d0 ks k).isSome:=by
 intro ks ws h
 induction h with
 |nil=>exact⟨λd h=>by simp[d0]at h,O⟩
 | @cons p g ks ws r t ih=>
  obtain⟨a,c⟩:=p;obtain⟨l,a2,e⟩:=g;obtain⟨z,d,q,v,f,r⟩:=r;dsimp only at z q f r;subst z;obtain⟨h1,h2⟩:=ih;by_cases b:a=k
  ·subst b;refine⟨λd h=>?_,by simp[atKey,d0]⟩;have:c=d:=by simpa[d0]using h
   subst this;exact⟨(a2,e),v,by simp[atKey],f,r⟩
  ·have j:d0 ((a,c)::ks) k=d0 ks k:=by simp[d0,bc,b]
   have i:atKey ((a,a2,e)::ws) k=atKey ws k:=by simp[atKey,bc,b]
   rw[j,i];exact⟨h1,h2⟩
theorem KT.put{K:Fg1}{k:TK}{d:D}{v:V}{a:dE}{u:dB}(hk:k.dep<=8)(j:eH K H mu (tkD k) (.ref a))(i:d5 v u)(q:eH K H mu d v){ks:List (TK×D)}{ws:List (TK×dE×dB)}(h:KT K H mu ks ws):KT K H mu (fi ks k d) (storedH ws k a u):=by
 unfold fi storedH;have e:(ks.any λp=>decide (p.1=k))=(atKey ws k).isSome:=by
  rw[h.look.2];unfold d0;rw[bg,bQ,List.find?_isSome,bR]
 rw[e];split
 ·clear e;refine uV h λp w ⟨z,f,g,l,c,m⟩=>?_;unfold putAt;by_cases b:p.1=k
  ·rw[ak b,ak (by rw[<- z];exact b)];exact⟨z,f,g,v,i,q⟩
  ·rw[aj b,aj (by rw[<- z];exact b)];exact⟨z,f,g,l,c,m⟩
 ·exact uW h (.cons ⟨O,hk,j,v,i,q⟩ .nil)
theorem tY(I:Inv X ag σ H s){a:dE}{xs:List (TK×dE×dB)}{kvs:List (TK×D)}(e:H a=Z (.ext (gf a xs)))(h:KT X.K H mu kvs xs):(a == sysModules)=J/\s.heap.DictOfH (fP X.prog X.w) a xs:=by
 obtain⟨⟨h1,h2,o,es,ep,c,f,g,d⟩,_⟩:=(show eG X.prog X.w H s.heap a (.ext (gf a xs))from I.hok a _ e);exact⟨h1,o,es,ep,c,f,g,d,λx b=>⟨vU I _ (h.mem x b).2 O,(h.mem x b).1⟩,h2⟩
theorem rQ{h:dP}{a:dE}{xs:List (TK×dE×dB)}(hd:(a == sysModules)=J)(hm:h.DictOfH (fP X.prog X.w) a xs):eG X.prog X.w H h a (.ext (gf a xs)):=by
 obtain⟨o,es,ep,d,g,i,e,m,f⟩:=hm;refine⟨⟨hd,f,o,es,ep,d,g,i,e⟩,⟨o,d⟩,λp n ⟨a1,a2,o',c,b,b3,l,k,j⟩ st=>⟨a1,a2,o',c,b,st _ b3,l,k,j⟩⟩
end
noncomputable def iT:G2:=λd e S=>match e with
 | .ref n=>match S[n]? with
  |some (.dcT kvs)=>(keyT d).map λk=>(.bl (d0 kvs k).isSome,S)
  |_=>vn d e S
 |_=>vn d e S
noncomputable def gp:G2:=λd e S=>match e with
 | .ref n=>match S[n]? with
  |some (.dcT kvs)=>(keyT d).map λk=>(.bl (!(d0 kvs k).isSome),S)
  |_=>jJ d e S
 |_=>jJ d e S
noncomputable def dZ:G2:=λd e S=>match d with
 | .ref n=>match S[n]? with
  |some (.dcT kvs)=>(keyT e).bind λk=>(d0 kvs k).map λx=>(x,S)
  |some (.dcF kvs)=>(keyT e).bind λk=>(d0 kvs k).map λx=>(x,S)
  |_=>mP d e S
 |_=>mP d e S
noncomputable def jj:G3:=λo i v S=>match o with
 | .ref n=>match S[n]? with
  |some (.dcT kvs)=>(keyT i).bind λk=>if kvs.length<dL then Z (.non,S.set n (.dcT (fi kvs k v)))else Y
  |some (.dct [])=>match keyT i with
   |some k=>Z (.non,S.set n (.dcT [(k,v)]))
   |none=>mz o i v S
  |_=>mz o i v S
 |_=>mz o i v S
section
variable{X:Cx}
theorem my{κ:Type}[DecidableEq κ](kvs:List (κ×D))(k:κ)(d:D):(fi kvs k d).length<=kvs.length+1:=by
 unfold fi;split
 ·rw[lM1];lia
 ·simp
theorem oz{h:dP}{a:dE}(dd:h.DictOf (fb X.prog X.w) a []):h.DictOfH (fP X.prog X.w) a []:=by
 obtain⟨o,es,ep,h1,h2,d,_,b,_⟩:=dd;have e:es.toList=[]:=by
  generalize es.toList=l at b;cases b;rfl
 exact⟨o,es,ep,h1,h2,d,e,(λx c=>by simp at c),bo⟩
theorem iM{A:dG}(a:A.units+64<cLine):(fP X.prog X.w).room A.in1:=by
 show A.units+1+8<cLine;lia
theorem jh{ag:List (dE×Obj)}{σ:L2.St}{H:Hp}{s:dD}{mu:List dE}(I:Inv X ag σ H s){d:D}{v:V}{u:dB}{k:TK}(r:eH X.K H mu d v)(q:d5 v u)(h:keyT d=some k):
  ∃a,u = .ref a/\v = .ref a/\eH X.K H mu (tkD k) (.ref a)/\k.dep<=8/\(fP X.prog X.w).is s.heap k a:=by
 obtain⟨e,b,xs,ex⟩:=wJ h;subst e;have is:=vU I k r q;subst ex;cases id is with
 | @tup a _ _ _ _ _ _ _ _=>
  rw[tkD]at r;cases r with
  |tup h1 h2=>
   cases q;exact⟨a,O,O,by rw[tkD];exact .tup h1 h2,b,is,b⟩
theorem ms(g:X.A.units+64<cLine):fV X (compareOp .In) (r2 X.K (b2 iT)):=by
 intro ag s σ H x y u w Q I o l h;obtain⟨mu,S,d,e,r,i,j,c,f,b,hc⟩:=pE h;have back:vn d e S=Z (r,i)->dM (model X.prog X.w) X.A (compareOp .In u w) (EP X ag σ Q) X.xe s:=λb=>Ir g ag s σ H x y u w Q I o l ⟨mu,S,[d,e],r,i,.cons j (.cons c .nil),f,b,hc⟩;unfold iT at b;split at b
 ·rename_i n;split at b
  ·rename_i kvs v;obtain⟨k,t,b⟩:=oM1.mp b;cases b;cases c with
   |ref p=>
    cases l;obtain⟨xs,q,m,_⟩:=f.dcT v p;obtain⟨A,z⟩:=tY I q m;obtain⟨a,rfl,rfl,_,_,hi⟩:=jh I j o t;refine wpAny_in_heap (iM g) hi A z ?_;exact⟨.bl (atKey xs k).isSome,H,I.tok _,O,by rw[m.look.2];exact hc.now (.bl _) f⟩
  ·exact back b
 ·exact back b
theorem sV(g:X.A.units+64<cLine):fV X (compareOp .NotIn) (r2 X.K (b2 gp)):=by
 intro ag s σ H x y u w Q I o l h;obtain⟨mu,S,d,e,r,i,j,c,f,b,hc⟩:=pE h;have back:jJ d e S=Z (r,i)->dM (model X.prog X.w) X.A (compareOp .NotIn u w) (EP X ag σ Q) X.xe s:=λb=>z7 g ag s σ H x y u w Q I o l ⟨mu,S,[d,e],r,i,.cons j (.cons c .nil),f,b,hc⟩;unfold gp at b;split at b
 ·rename_i n;split at b
  ·rename_i kvs v;obtain⟨k,t,b⟩:=oM1.mp b;cases b;cases c with
   |ref p=>
    cases l;obtain⟨xs,q,m,_⟩:=f.dcT v p;obtain⟨A,z⟩:=tY I q m;obtain⟨a,rfl,rfl,_,_,hi⟩:=jh I j o t;refine wpAny_notIn_heap (iM g) hi A z ?_;exact⟨.bl (!(atKey xs k).isSome),H,I.tok _,O,by rw[m.look.2];exact hc.now (.bl _) f⟩
  ·exact back b
 ·exact back b
theorem GZ{ag:List (dE×Obj)}{σ:L2.St}{H:Hp}{s:dD}{mu:List dE}(I:Inv X ag σ H s){a:dE}{xs:List (TK×dE×dB)}{kvs:List (TK×D)}(e:∃o u,H a=Z (.frz o u)/\xl a xs o)(h:KT X.K H mu kvs xs):(a == sysModules)=J/\s.heap.DictOfH (fP X.prog X.w) a xs:=by
 obtain⟨o,u,e,h1,h2,f,es,ep,g,d⟩:=e;obtain⟨c,_⟩:=(show eG X.prog X.w H s.heap a (.frz o u)from I.hok a _ e);exact⟨h1,o,es,ep,c,f,g,d,λx b=>⟨vU I _ (h.mem x b).2 O,(h.mem x b).1⟩,h2⟩
theorem qP(K:X.A.units+64<cLine):Ey X (r2 X.K (b2 dZ)):=by
 intro value c ag s σ H x y v u Q I D am h m;obtain⟨mu,S,d,e,r,B,C,o,t,f,hc⟩:=pE h;have back:mP d e S=Z (r,B)->dM (model X.prog X.w) X.A (subscriptTail value c v u) (EP X ag σ Q) X.xe s:=λf=>Hw K value c ag s σ H x y v u Q I D am ⟨mu,S,[d,e],r,B,.cons C (.cons o .nil),t,f,hc⟩ m;have i:∀kvs a xs,v = .ref a->KT X.K H mu kvs xs->s.heap.DictOfH (fP X.prog X.w) a xs->((keyT e).bind λk=>(d0 kvs k).map λx=>(x,S))=Z (r,B)->dM (model X.prog X.w) X.A (subscriptTail value c v u) (EP X ag σ Q) X.xe s:=λkvs a xs P l F f=>by
  obtain⟨k,ao,f⟩:=oB1.mp f;obtain⟨z,au,f⟩:=oM1.mp f;cases f;subst P;obtain⟨b,rfl,rfl,_,_,hi⟩:=jh I o am ao;obtain⟨p,R,ep,N,L⟩:=l.look.1 _ au;have G:=F.typeIs;unfold subscriptTail;refine wB1 ?_;rw[getitemInPython_of_ne G.not_modules];refine wB1 (wpAny_specialOf G PySem.F.slot_dict_getitem.lookup ?_);have j:dM (model X.prog X.w) X.A (subscripted c J (.ref a) (.ref b)) (λr g=>dM (model X.prog X.w) X.A (letTemporaryGo value (.ref a) r >>= λ_=>pure r) (EP X ag σ Q) X.xe g) X.xe s:=by
   rw[m];exact wpAny_operating (wpAny_mono (wpAny_getItem_heap (iM K) hi F ep (show EP X ag σ Q p.2 _ from⟨R,H,I.tok _,N,hc.now L t⟩)) (λr g q=>wB1 (wpAny_letTemporaryGo (wP1 q))) λ_ _ x=>x)
  first
   |exact wP1 (wB1 j)
   |exact wB1 j
   |exact j
 unfold dZ at f;split at f
 ·rename_i n;split at f
  ·rename_i kvs E;cases C with
   | @ref _ a w=>
    cases D;obtain⟨xs,A,l,_⟩:=t.dcT E w;exact i kvs a xs O l (tY I A l).2 f
  ·rename_i kvs E;cases C with
   | @ref _ a w=>
    cases D;obtain⟨xs,A,l,_⟩:=(show kk X.K H mu a (.dcF kvs)from t.ob n _ a E w);exact i kvs a xs O l (GZ I A l).2 f
  ·exact back f
 ·exact back f
theorem re(F:X.A.units+64<cLine):vM X (rU X.K (b3 jj)):=by
 intro ag s σ H o i v P T u Q I ao C r h;obtain⟨mu,S,ds,d,R,aq,l,a,hc⟩:=id h;cases aq with
 |cons y U=>cases U with
  |cons A V=>cases V with
   |cons p W=>
    cases W;rename_i N au L;dsimp only[b3]at a;have back:mz N au L S=Z (d,R)->dM (model X.prog X.w) X.A (setItem P T u) (λ_ s'=>∃H',Inv X ag σ H' s'/\Q H') X.xe s:=λa=>E3 F ag s σ H o i v P T u Q I ao C r ⟨mu,S,[N,au,L],d,R,.cons y (.cons A (.cons p .nil)),l,a,hc⟩;unfold jj at a;split at a
    ·rename_i n;split at a
     ·rename_i kvs K;obtain⟨k,E,a⟩:=oB1.mp a;split at a
      ·rename_i hl;cases a;cases y with
       | @ref _ m g=>
        cases ao;obtain⟨xs,t,j,wq⟩:=l.dcT K g;obtain⟨D,B⟩:=tY I t j;obtain⟨b,rfl,rfl,rk,x,hi⟩:=jh I A C E;refine wpAny_setItem_heap (hsz:=wq) (iM F) hi B λh' e c=>?_;have f:∃q,h'.get? _=Z q:=let ⟨q,_,_,f,_⟩:=e;⟨q,f⟩
        have put:Ext mu mu H (upd H m (.ext (gf m (storedH xs k b u)))):=Ext.put t trivial (gM1 g);refine⟨_,lm I (by rw[t];exact True.intro) c f (rQ D e),hc _ mu put (l.put g t trivial ⟨_,d8,((j.put x rk r p).ext put),?_⟩)⟩;rw[<- (j.put x rk r p).length];have:=my kvs k L;lia
      ·cases a
     ·rename_i K;split at a
      ·rename_i k E;cases a;cases y with
       | @ref _ m g=>
        cases ao;obtain⟨ws,w,j⟩:=l.dct K g;cases j;obtain⟨z,D,vs,G,B⟩:=wZ I.hok w;cases G;obtain⟨b,rfl,rfl,rk,x,hi⟩:=jh I A C E;have am:s.heap.DictOfH (fP X.prog X.w) _ []:=oz B;refine wpAny_setItem_heap (hsz:=bi _) (iM F) hi am λh' e c=>?_;have f:∃q,h'.get? _=Z q:=let ⟨q,_,_,f,_⟩:=e;⟨q,f⟩
        have put:Ext mu mu H (upd H m (.ext (gf m (storedH [] k b u)))):=Ext.put w trivial (gM1 g);exact⟨_,lm I (by rw[w];exact True.intro) c f (rQ D e),hc _ mu put (l.put g w trivial ⟨_,d8,KT.ext put (.cons ⟨O,x,rk,v,r,p⟩ .nil),(show 1<=dL by decide)⟩)⟩
      ·exact back a
     ·exact back a
    ·exact back a
end
noncomputable def qB(S:Sto)(d:D):Option Bool:=match d with
 | .non=>Z J
 | .bl b=>Z b
 | .int i=>Z (i != 0)
 | .str y=>if y.length<=dL then Z ((y.length:Int) != 0)else Y
 | .ref n=>match S[n]? with
  |some (.dct kvs)=>Z (!kvs.isEmpty)
  |_=>(d4 S d).map λp=> !p.2.isEmpty
 |_=>(d4 S d).map λp=> !p.2.isEmpty
noncomputable def Da (m:FE):FT:=λr S=>(m r S).bind λp=>(qB p.2 p.1).map λb=>(b,p.2)
section
variable{K:Fg1}{H:Hp}{mu:List dE}{S:Sto}
theorem ra{d:D}{v:V}{b:Bool}(r:eH K H mu d v)(s:Sim K H mu S)(h:((d4 S d).map λp=> !p.2.isEmpty)=Z b):BG K v H b:=by
 obtain⟨⟨k,xs⟩,e,h⟩:=oM1.mp h;obtain⟨a,vs,rfl,q,t⟩:=d6 r s e;have z:(!xs.isEmpty) = !vs.isEmpty:=by cases t<;>rfl
 dsimp only at h;rw[z]at h;cases k
 ·exact .inr (.inl ⟨vs,q,h.symm⟩)
 ·exact .inl ⟨vs,q,h.symm⟩
theorem zd{d:D}{v:V}{b:Bool}(r:eH K H mu d v)(s:Sim K H mu S)(h:qB S d=Z b):BG K v H b:=by
 cases d with
 |non=>cases r;cases h;rfl
 |bl k=>cases r;cases h;rfl
 |int i=>cases r;cases h;rfl
 |str y=>
  rw[qB]at h;split at h
  ·rename_i g;cases r;cases h;exact⟨g,O⟩
  ·cases h
 |tup xs=>exact ra r s h
 |rol xs=>exact ra r s h
 |fn x=>cases h
 |ref n=>
  rw[qB]at h;split at h
  ·rename_i kvs e;cases h;cases r with
   |ref a=>
    obtain⟨ws,f,c⟩:=s.dct e a;refine .inr (.inr ⟨ws,f,?_⟩);cases c<;>rfl
  ·exact ra r s h
end
theorem iG{X:Cx}{x:Expr}{f:FE}(h:XE X x f)(he:∀a,isTrue x X.env a=(do let v<-a;standAt x.pos;holding [v] (truthy v)):=by intro _;rfl):XT X x (Da f):=
 ⟨uR (zF h.h he) <| by
  rintro σ H Q ⟨r,mu,S,b,m,he,e,c,hc⟩;obtain⟨⟨l,n⟩,j,c⟩:=oB1.mp c;obtain⟨b1,i,c⟩:=oM1.mp c;cases c;exact⟨r,mu,S,_,_,he,e,j,λv H1 mu1 k g d=>⟨_,zd g d i,hc H1 mu1 k d⟩⟩⟩
mutual
noncomputable def pyD:D->Option PyData
 | .non=>Z .none
 | .bl b=>Z (.bool b)
 | .int i=>Z (.int i)
 | .str x=>Z (.str x)
 | .tup xs=>(pyDs xs).map .tuple
 | .rol _=>Y
 | .fn _=>Y
 | .ref _=>Y
noncomputable def pyDs:List D->Option (List PyData)
 |[]=>Z []
 |d::ds=>(pyD d).bind λp=>(pyDs ds).map λps=>p::ps
end
mutual
theorem nQ:∀{d:D} {p:PyData},pyD d=Z p->p.hasDict=J
 | .non,p,h=>by simp only[pyD]at h;cases h;rfl
 | .bl b,p,h=>by simp only[pyD]at h;cases h;rfl
 | .int i,p,h=>by simp only[pyD]at h;cases h;rfl
 | .str x,p,h=>by simp only[pyD]at h;cases h;rfl
 | .tup xs,p,h=>by
  simp only[pyD]at h;obtain⟨ps,e,h⟩:=oM1.mp h;cases h;simp only[PyData.hasDict];exact mo e
 | .rol _,p,h=>by simp only[pyD]at h;cases h
 | .fn _,p,h=>by simp only[pyD]at h;cases h
 | .ref _,p,h=>by simp only[pyD]at h;cases h
theorem mo:∀{ds:List D} {ps:List PyData},pyDs ds=Z ps->PyData.hasDictAll ps=J
 |[],ps,h=>by simp only[pyDs]at h;cases h;rfl
 |d::ds,ps,h=>by
  simp only[pyDs]at h;obtain⟨p,a,h⟩:=oB1.mp h;obtain⟨c,b,h⟩:=oM1.mp h;cases h;simp only[PyData.hasDictAll,nQ a,mo b,Bool.or_self]
end
noncomputable def oo:G1:=λd S=>match d with
 | .tup xs=>(pyDs xs).bind λps=>if(PyData.tuple ps).showable=M/\(PyData.tuple ps).shown.length<=dL/\(PyData.tuple ps).depth<=60 then Z (.str (PyData.tuple ps).shown,S)else Y
 |_=>Y
section
variable{X:Cx}{ag:List (dE×Obj)}{σ:L2.St}{H:Hp}{s:dD}{mu:List dE}
theorem zB(I:Inv X ag σ H s):∀ {d:D} {v:V} {u:dB} {p:PyData},eH X.K H mu d v->d5 v u->pyD d=some p -> ∃ as,Reads s.heap u p as:=fun w=>w.rec (motive_1:=fun d v _=>∀ u p,d5 v u->pyD d=some p -> ∃ as,Reads s.heap u p as) (motive_2:=fun ds vs _=>∀ f ps,ee vs f->pyDs ds=some ps -> ∃ as,ReadsAll s.heap f ps as)
  (λ_ _ c h=>by simp only[pyD]at h;cases h;cases c;exact⟨[],.none⟩)
  (λb _ _ c h=>by simp only[pyD]at h;cases h;cases c;exact⟨[],.bool b⟩)
  (λi _ _ c h=>by simp only[pyD]at h;cases h;obtain⟨t,rfl⟩:=c;exact⟨[],.int i t⟩)
  (λx _ _ c h=>by simp only[pyD]at h;cases h;obtain⟨t,rfl⟩:=c;exact⟨[],.str x t⟩)
  (λq _ ih _ _ c h=>by
   simp only[pyD]at h;obtain⟨ps,e,h⟩:=oM1.mp h;cases h;cases c;obtain⟨g,m,⟨o,r,hc,n,z⟩,_⟩:=I.tuple q;obtain⟨as,k⟩:=ih _ _ m e;exact⟨as,.tuple r hc z (by simpa using k)⟩)
  (λ_ _ _ _ _ _ h=>by simp only[pyD]at h;cases h) (λ_ _ _ _ h=>by simp only[pyD]at h;cases h) (λ_ _ _ _ h=>by simp only[pyD]at h;cases h)
  (λ_ _ tv h=>by simp only[pyDs]at h;cases h;cases tv;exact⟨[],.nil⟩)
  (λ_ _ a b _ _ tv h=>by
   simp only[pyDs]at h;obtain⟨p,y,h⟩:=oB1.mp h;obtain⟨A,l,h⟩:=oM1.mp h;cases h;cases tv with
   |cons v tv=>
    obtain⟨a1,j⟩:=a _ _ v y;obtain⟨a2,r2⟩:=b _ _ tv l;exact⟨_,.cons j r2⟩) _ _
end
section
variable{X:Cx}
theorem Bn{k:Nat}(hr:fN k X.A):eZ X (.builtin "repr") (rN X.K (b1 oo)):=by
 intro ag s σ H xs v Q I r h;obtain⟨x,mu,S,d,w,n,rfl,c,i,a,hc⟩:=Ci h;unfold oo at a;split at a
 ·rename_i ds;obtain⟨ps,e,a⟩:=oB1.mp a;split at a
  ·rename_i j;obtain⟨h1,h2,p⟩:=j;cases a;cases r with
   |cons g rt=>
    cases rt;have f:pyD (.tup ds)=Z (.tuple ps):=by simp only[pyD,e,oP1]
    obtain⟨as,l⟩:=zB I c g f;cases c with
    |tup q t=>
     cases g;refine repr_of_reads' l h1 (PyData.noDict_hsm (nQ f)) hr.gd (by have:=hr.un;lia) (λb o z=>z) (λh' u tk m=>?_) h2;exact⟨.str _,H,I.kept m,⟨u,O⟩,hc.now (.str _) i⟩
  ·cases a
 ·cases a
noncomputable def oh:List D->Option (List Int)
 |[]=>Z []
 | .int i::ds=>(oh ds).map λis=>i::is
 |_=>Y
noncomputable def ddI(ns:List Int):List Int:=ns.foldl step_dedup []
theorem tZ:∀(ns acc:List Int),acc.Nodup->(ns.foldl step_dedup acc).Nodup
 |[],acc,h=>h
 |n::ns,acc,h=>by
  rw[b9];refine tZ ns _ ?_;unfold step_dedup;split
  ·exact h
  ·rename_i d;rw[bA];refine⟨h,by simp,λa f b c e=>?_⟩;simp at c;apply d;rw[bR];exact⟨a,f,by simp[e,c]⟩
theorem yh{K:Fg1}{H:Hp}{mu:List dE}:∀{ds:List D} {vs:List V} {a:List dB} {ns:List Int},d2 K H mu ds vs->ee vs a->oh ds=Z ns->IntsAre a ns/\ns.length=ds.length:=by
 intro ds vs a ns g b h
 induction g using d2.ind generalizing a ns with
 |hn=>cases h;cases b;exact⟨.nil,O⟩
 | @hc d v ds vs r t ih=>
  cases d with
  |int i=>
   obtain⟨c,e,h⟩:=oM1.mp h;cases h;cases r;cases b with
   |cons r b=>
    obtain⟨j,f⟩:=ih b e;obtain⟨tk,rfl⟩:=r;exact⟨.cons _ _ j,by rw[lC1,lC1,f]⟩
  |_=>cases h
end
@[elab_as_elim] theorem LD {P:List dB->Prop}{us:List dB}(l:us.length=0)(f:P []):P us:=by
 cases us with
 |nil=>exact f
 |cons _ _=>cases l
@[elab_as_elim] theorem KZ {P:List dB->Prop}{us:List dB}(l:us.length=1)(f:∀a,P [a]):P us:=by
 cases us with
 |nil=>cases l
 |cons a us=>exact LD (P:=λus=>P (a::us)) (Nat.succ.inj l) (f a)
@[elab_as_elim] theorem KY {P:List dB->Prop}{us:List dB}(l:us.length=2)(f:∀a b,P [a,b]):P us:=by
 cases us with
 |nil=>cases l
 |cons a us=>exact KZ (P:=λus=>P (a::us)) (Nat.succ.inj l) (f a)
@[elab_as_elim] theorem KX {P:List dB->Prop}{us:List dB}(l:us.length=3)(f:∀a b c,P [a,b,c]):P us:=by
 cases us with
 |nil=>cases l
 |cons a us=>exact KY (P:=λus=>P (a::us)) (Nat.succ.inj l) (f a)
@[elab_as_elim] theorem KW {P:List dB->Prop}{us:List dB}(l:us.length=4)(f:∀a b c d,P [a,b,c,d]):P us:=by
 cases us with
 |nil=>cases l
 |cons a us=>exact KX (P:=λus=>P (a::us)) (Nat.succ.inj l) (f a)
@[elab_as_elim] theorem JF {P:List dB->Prop}{us:List dB}(l:us.length=5)(f:∀a b c d e,P [a,b,c,d,e]):P us:=by
 cases us with
 |nil=>cases l
 |cons a us=>exact KW (P:=λus=>P (a::us)) (Nat.succ.inj l) (f a)
end Mi
namespace HT
open PySem PySem.Spec PyProof.Rows
variable{prog:dF}{w:dH}{A:dG}{E:dB->dD->Prop}{s:dD}
end HT
namespace Mi
open PySem PySem.Spec PyProof.Rows L2
section
variable{X:Cx}
end
end Mi
namespace HT
open PySem PySem.Spec PyProof.Rows
section
variable{prog:dF}{w:dH}{A:dG}{R:Result->dD->Prop}{I ax L:dE}{xs:Array dB}
end
section
variable{prog:dF}{w:dH}{A:dG}{E:dB->dD->Prop}{s:dD}
end
end HT
namespace Mi
open PySem PySem.Spec PyProof.Rows L2
section
variable{X:Cx}
end
section
variable{elt tg iter tg2 iter2 tg3 iter3:Expr}{ifs ifs2 ifs3:List Expr}{scope:dS}{pos:Pos}
end
section
variable{X:Cx}
end
noncomputable def ym(a:Int):List Int->List Int
 |[]=>[a]
 |b::l=>if a<=b then a::b::l else b::ym a l
noncomputable def kC:List Int->List Int
 |[]=>[]
 |a::l=>ym a (kC l)
theorem lX(a:Int):∀l:List Int,(ym a l).Perm (a::l)
 |[]=>.refl _
 |b::l=>by
  rw[ym];split
  ·exact .refl _
  ·exact((lX a l).cons b).trans (.swap _ _ _)
theorem iK:∀l:List Int,(kC l).Perm l
 |[]=>.refl _
 |a::l=>(lX a _).trans ((iK l).cons a)
theorem wM{a:Int}:∀{l:List Int},l.Pairwise (· <= ·)->(ym a l).Pairwise (· <= ·)
 |[],_=>List.pairwise_singleton _ _
 |b::l,h=>by
  rw[ca]at h;rw[ym];split
  ·rename_i d;rw [ca,ca];exact ⟨fun x c=>by
    rcases aF.mp c with z|z
    ·lia
    ·have:=h.1 x z;lia,h.1,h.2⟩
  ·rename_i d;rw[ca];refine⟨λx c=>?_,wM h.2⟩;rcases aF.mp ((lX a l).mem_iff.mp c)with z|z
   ·lia
   ·exact h.1 x z
theorem nC:∀l:List Int,(kC l).Pairwise (· <= ·)
 |[]=>.nil
 |a::l=>wM (nC l)
theorem rh:∀{a b:List Int},a.Perm b->a.Pairwise (· <= ·)->b.Pairwise (· <= ·)->a=b
 |[],b,p,_,_=>(List.nil_perm.mp p).symm
 |x::a,[],p,_,_=>absurd p.length_eq (by simp)
 |x::a,y::b,p,h1,h2=>by
  rw[ca]at h1 h2;have e:x=y:=by
   have d:=p.mem_iff.mp (mS1 (a:=x) (l:=a));have f:=p.mem_iff.mpr (mS1 (a:=y) (l:=b));rcases aF.mp d with z|z
   ·exact z
   ·rcases aF.mp f with c|c
    ·exact c.symm
    ·have:=h2.1 x z;have:=h1.1 y c;lia
  subst e;rw[rh (List.perm_cons x |>.mp p) h1.2 h2.2]
section
variable{X:Cx}
theorem yg:∀{us:List dB} {ns:List Int},IntsAre us ns->ee (ns.map V.int) us:=by
 intro us ns h
 induction h with
 |nil=>exact .nil
 |cons i t _ ih=>exact .cons ⟨t,O⟩ ih
end
end Mi
namespace Mi
open PySem PySem.Spec PyProof.Rows L2
section
variable{X:Cx}
end
theorem lI(n:Nat):∀ns:List Int,D.unds n (ns.map D.int)=M
 |[]=>rfl
 |_::ns=>by rw[mP1,D.unds,lI n ns];rfl
theorem gc_same{n:Nat}{d:D}{S:Sto}(h:S.length=n):gc n (d,S)=(d,S):=by
 unfold gc;split
 ·rw[show(d,S).2=S from rfl,<- h,bY]
 ·rfl
theorem yH{n:Nat}{f:FN}{ds:List D}{S S1:Sto}{d:D}(h:f ds []=Z (d,S1))(hn:ds.length=n)(a:D.unds 0 ds=M)(hd:d.und 0=M):dW n f ds S=Z (d,S):=by
 unfold dW mG;rw[ak hn,ak a,h,oP1,ak hd]
theorem Bm{n:Nat}{f:FN}{ds:List D}{S S1:Sto}{d:D}(h:f ds []=Z (d,S1))(hn:ds.length=n)(a:D.unds 0 ds=M)(hd:d.und 0=J):dW n f ds S=Z (d.sh S.length,S++S1.map (Ob.sh S.length)):=by
 unfold dW mG;rw[ak hn,ak a,h,oP1,aj (by dsimp only;rw[hd];decide)]
theorem qk{n:Nat}{f:FN}{ds:List D}{S S1:Sto}{d:D}(h:f ds S=Z (d,S1))(hn:ds.length=n)(a:D.unds 0 ds=J):dW n f ds S=Z (gc S.length (d,S1)):=by
 unfold dW mG;rw[ak hn,aj (by rw[a];decide),h,oP1]
theorem l8{n:Nat}{f:FN}{ds:List D}{S S1:Sto}{d:D}(h:f ds S=Z (d,S1))(hn:ds.length=n)(a:D.unds 0 ds=J)(b:S1.length=S.length):dW n f ds S=Z (d,S1):=by
 rw[qk h hn a,gc_same b]
theorem pP{i j:Int}(h1: -(2^64)<i)(h2:i<2^64):eV i j=M:=by
 unfold eV;simp only[bO,bA1,al];exact .inl (.inl ⟨h1,h2⟩)
theorem wu{i j:Int}(h1: -(2^64)<j)(h2:j<2^64):eV i j=M:=by
 unfold eV;simp only[bO,bA1,al];exact .inl (.inr ⟨h1,h2⟩)
theorem kT{S:Sto}{n:Nat}{xs:List D}(h:S[n]?=Z (.lst xs)):pM S [(n,xs)]=M:=by
 rw[pM,h];simp[D.sames_refl,pM]
noncomputable def j6(n:Nat):Nat->List D
 |0=>[]
 |k+1=>.ref n::j6 (n+1) k
theorem tj:∀{n:Nat} {lo:Int} {d:D},d∈gM lo n -> ∃k:Int,d = .int k/\lo<=k/\k<lo+n
 |0,lo,d,h=>by simp[gM]at h
 |n+1,lo,d,h=>by
  rw[gM]at h;rcases aF.mp h with h|h
  ·exact⟨lo,h,Int.le_refl _,by lia⟩
  ·obtain⟨k,e,h1,h2⟩:=tj h;exact⟨k,e,by lia,by lia⟩
theorem gJ{n:Nat}:∀{xs:List D} {x:D},D.unds n xs=M->x∈xs->x.und n=M
 |y::ys,x,h,hx=>by
  rw[D.unds,bA1]at h;rcases aF.mp hx with e|e
  ·rw[e];exact h.1
  ·exact gJ h.2 e
theorem jA{S:Sto}{d:D}(h:d.und 0=M):d4 S d=d4 [] d:=by
 cases d with
 |ref n=>simp[D.und]at h
 |_=>rfl
theorem iL{S:Sto}{d:D}(h:d.und 0=M){p:Bool×List D}(e:d4 S d=Z p):D.unds 0 p.2=M:=by
 cases d with
 |ref n=>simp[D.und]at h
 |tup xs=>cases e;simpa[D.und]using h
 |rol xs=>cases e;simpa[D.und]using h
 |_=>cases e
theorem qc{f f':D->D->Option Bool}:∀{xs ys:List D},(∀x∈xs,∀y∈ys,f x y=f' x y)->lj f xs ys=lj f' xs ys
 |[],[],_=>rfl
 |[],_::_,_=>rfl
 |_::_,[],_=>rfl
 |x::xs,y::ys,h=>by
  rw[lj,lj,h x mS1 y mS1,qc λa d b c=>h a (mC1 _ d) b (mC1 _ c)]
theorem wX{S:Sto}:∀{n:Nat} {d e:D},d.und 0=M->e.und 0=M->fU S n d e=fU [] n d e
 |0,_,_,_,_=>rfl
 |n+1,d,e,hd,he=>by
  rw[fU,fU,jA hd,jA he];cases h1:d4 [] d with
  |none=>cases d4 [] e<;>rfl
  |some p=>
   cases h2:d4 [] e with
   |none=>rfl
   |some q=>
    dsimp only;have a:=iL hd h1;have g:=iL he h2;rw[qc (f:=fU S n) (f':=fU [] n) λx b y c=>wX (gJ a b) (gJ g c)]
theorem pU{f f' g g':D->D->Option Bool}:∀{xs ys:List D},(∀x∈xs,∀y∈ys,f x y=f' x y)->(∀x∈xs,∀y∈ys,g x y=g' x y)->oX f g xs ys=oX f' g' xs ys
 |[],[],_,_=>rfl
 |[],_::_,_,_=>rfl
 |_::_,[],_,_=>rfl
 |x::xs,y::ys,h,k=>by
  rw[oX,oX,h x mS1 y mS1,k x mS1 y mS1,pU (λa d b c=>h a (mC1 _ d) b (mC1 _ c)) λa d b c=>k a (mC1 _ d) b (mC1 _ c)]
theorem wz{S:Sto}:∀{n:Nat} {d e:D},d.und 0=M->e.und 0=M->ka S n d e=ka [] n d e
 |0,_,_,_,_=>rfl
 |n + 1,d,e,j,i=>by
  rw[ka,ka,jA j,jA i];cases JE d e with
  |some b=>rfl
  |none=>
   cases h1:d4 [] d with
   |none=>rfl
   |some p=>
    cases h2:d4 [] e with
    |none=>rfl
    |some q=>
     dsimp only;have h:=iL j h1;have k:=iL i h2;rw[pU (f:=fU S n) (f':=fU [] n) (g:=ka S n) (g':=ka [] n) (λx a y c=>wX (gJ h a) (gJ k c)) λx a y c=>wz (gJ h a) (gJ k c)]
open Classical in
noncomputable def rkV(ws:List dB)(x:dB):Nat:=ws.findIdx λy=>decide (y=x)
theorem zz{ws:List dB}{x:dB}(h:x∈ws):ws[rkV ws x]?=Z x:=by
 have a:rkV ws x<ws.length:=List.findIdx_lt_length_of_exists ⟨x,h,by simp⟩;rw[gG1 a];have:=List.findIdx_getElem (w:=a);have e:ws[rkV ws x]=x:=of_decide_eq_true this;rw[e]
noncomputable def kR(ws:List dB)(xs:Array Keyed)(i:Nat):Nat:=(xs[i]?.map λp=>rkV ws p.1).getD 0
theorem k8{ws:List dB}{xs ys:Array Keyed}{i j:Nat}(h:xs[i]?=ys[j]?):kR ws xs i=kR ws ys j:=by unfold kR;rw[h]
def Up(ws:List dB)(xs:Array Keyed)(k:Nat):Prop:=∀i j,i<j->j<k->kR ws xs i<kR ws xs j
structure l9 (prog:dF)(w:dH)(A:dG)(s:dD)(κ:SortKind)(ws:List dB)(a₀:Array Keyed):Prop where
 nd:ws.Nodup
 keys:(a₀.toList.map (·.1)).Perm ws
 lt:∀(x y:dB) (i j:Nat),ws[i]?=some x->ws[j]?=some y->i≠j -> ∀(E:dB->dD->Prop) (Q:Bool->dD->Prop),Q (decide (i<j)) s->dM (model prog w) A (keyLt' κ x y) Q E s
section
variable{prog:dF}{w:dH}{A:dG}{E:dB->dD->Prop}{s:dD}{κ:SortKind}{ws:List dB}{a₀:Array Keyed}
theorem l9.at_(C:l9 prog w A s κ ws a₀){xs:Array Keyed}(p:xs.Perm a₀){i:Nat}(hi:i<a₀.size):∃x q,xs[i]?=Z (x,q)/\ws[kR ws xs i]?=Z x:=by
 have a:i<xs.size:=by rw[p.size_eq];exact hi
 refine⟨xs[i].1,xs[i].2,aG1 a,?_⟩;have b:xs[i]∈a₀.toList:=(cb.mp p).mem_iff.mp (by simp);have:=zz (C.keys.mem_iff.mp (cc.mpr ⟨_,b,O⟩));unfold kR;rw[aG1 a];exact this
theorem l9.inj(C:l9 prog w A s κ ws a₀){xs:Array Keyed}(p:xs.Perm a₀){i j:Nat}(hi:i<a₀.size)(e:j<a₀.size)(h:kR ws xs i=kR ws xs j):i=j:=by
 obtain⟨x,q,g,b⟩:=C.at_ p hi;obtain⟨y,r,c,f⟩:=C.at_ p e;rw[h,f]at b;cases b;have nd:(xs.toList.map (·.1)).Nodup:=(((cb.mp p).map (·.1)).trans C.keys).nodup_iff.mpr C.nd;have a:(xs.toList.map (·.1))[i]?=Z x:=by rw[gP1,aT1,g];rfl
 have d:(xs.toList.map (·.1))[j]?=Z x:=by rw[gP1,aT1,c];rfl
 exact(List.getElem?_inj (gE1.mp a).1 nd).mp (a.trans d.symm)
theorem EW(C:l9 prog w A s κ ws (pairsOf vs)){xs:Array Keyed}(p:xs.Perm (pairsOf vs))(u:Up ws xs (pairsOf vs).size):xs.map (·.2)=ws.toArray:=by
 have l:ws.length=(pairsOf vs).size:=by rw[<- C.keys.length_eq,lM1];simp
 have a:∀i,i<(pairsOf vs).size->i<=kR ws xs i:=by
  intro i
  induction i with
  |zero=>intro _;lia
  |succ i ih=>intro h;have:=ih (by lia);have:=u i (i+1) (by lia) h;lia
 have b:∀d i,i+d+1=(pairsOf vs).size->kR ws xs i<=i:=by
  intro d
  induction d with
  |zero=>
   intro i h;obtain⟨x,q,_,f⟩:=C.at_ p (i:=i) (by lia);have:=(gE1.mp f).1;lia
  |succ d ih=>
   intro i h;have:=ih (i+1) (by lia);have:=u i (i+1) (by lia) (by lia);lia
 apply Array.ext
 ·rw[Array.size_map,p.size_eq,<- l];simp
 ·intro i h1 h2;rw[Array.size_map,p.size_eq]at h1;have m:kR ws xs i=i:=Nat.le_antisymm (b ((pairsOf vs).size-1-i) i (by lia)) (a i h1);obtain⟨x,q,e,f⟩:=C.at_ p h1;rw[m]at f;have c:(x,q)∈(pairsOf vs).toList:=(cb.mp p).mem_iff.mp (aM.mpr (cf e));rw[pairsOf_toList]at c;have k:x=q:=(mem_zip_self c).1;have j:(xs.map (·.2))[i]?=Z q:=by rw[Array.getElem?_map,e];rfl
  have g:ws.toArray[i]?=Z x:=by rw[cg];exact f
  rw[aG1 (by rw[Array.size_map,p.size_eq];exact h1)]at j;rw[aG1 h2]at g;rw[Option.some.inj j,Option.some.inj g,k]
end
section
variable{prog:dF}{w:dH}{A:dG}{E:dB->dD->Prop}{s:dD}
theorem zY{p q:dB}{b:Bool}{Q:Bool->dD->Prop}(r:BI A.in1 s p q b)(h:Q b s):dM (model prog w) A (oneLt' J p q) Q E s:=by
 rw[oneLt'_eq];simp only[bF1,if_false];exact wB1 (wpAny_of_in1 (r prog w E _ (wpAny_truthy_bool h)))
theorem iS(f:Bool)(x y:dB):keyLt' (tuples' f) x y=(do
  let xs<-Builtin.List.listItems x
  let ys<-Builtin.List.listItems y
  for ((p,q),i) in (xs.toList.zip ys.toList).zipIdx do
   if !(<- eqBool p q)then return<-oneLt' (f&&i == 0) p q
  return decide (xs.size<ys.size)):=rfl
theorem GD{a b:dE}{f zs:List dB}{k:Bool}{Q:Bool->dD->Prop}(ha:IsTup s.heap a f.toArray)(hb:IsTup s.heap b zs.toArray)(L:uk A s f zs k)(h:Q k s):
  dM (model prog w) A (keyLt' (tuples' J) (.ref a) (.ref b)) Q E s:=by
 rw[iS];obtain⟨o,u,v,_,m⟩:=ha;obtain⟨y,r,B,_,n⟩:=hb;refine wB1 (listItems_at u m (wB1 (listItems_at r n ?_)));simp only[Bool.false_and];refine wB1 (wpAny_mono (wpAny_forIn_list _ (λrest c s'=>s'=s/\c=(Y,()) /\ ∃(i:Nat) (vs ws:List dB),rest=(vs.zip ws).zipIdx i/\uk A s vs ws k/\vs.length+zs.length=ws.length+f.length)
  (λc s'=>s'=s/\(c=(Z k,())\/(c=(Y,())/\k=decide (f.length<zs.length)))) ?_ ?_ _ _ ⟨O,O,0,f,zs,O,L,by lia⟩) ?_ λ_ _ e=>e)
 ·rintro x rest c s' ⟨rfl,rfl,i,vs,ws,d,j,g⟩;cases j with
  |nn=>simp at d
  |nc _ _=>simp at d
  |cn _ _=>simp at d
  | @eq p q ps l _ e t=>
   rw[bT,bL]at d;cases d;refine wB1 (e.of_in1 prog w E _ ?_);simp only[b5,bF1,if_false];exact wP1 ⟨O,O,i+1,ps,l,O,t,by simp at g;lia⟩
  | @lt p q ps l _ e t=>
   rw[bT,bL]at d;cases d;refine wB1 (e.of_in1 prog w E _ ?_);simp only[ci,if_true];exact wB1 (zY t (wP1 ⟨O,.inl O⟩))
 ·rintro c s' ⟨rfl,rfl,i,vs,ws,d,j,g⟩;refine⟨O,.inr ⟨O,?_⟩⟩;cases j with
  |nn=>simp at g;rw[ai (by lia)]
  |nc _ _=>simp at g;rw[ah (by lia)]
  |cn _ _=>simp at g;rw[ai (by lia)]
  |eq _ _=>simp at d
  |lt _ _=>simp at d
 ·rintro c s' ⟨rfl,z⟩;rcases z with rfl|⟨rfl,z⟩
  ·exact wP1 h
  ·refine wP1 ?_;rw[sT1,sT1,<- z];exact h
theorem kZ{ao:Model}{α β:Type}{f:α->Sem β}{P:α->β->Prop}:∀ {l:List α} {Q:List β->dD->Prop},(∀ v∈l,∃ r,P v r /\ ∀ Q:β->dD->Prop,Q r s->dM ao A (f v) Q E s) ->
  (∀rs,rs.length=l.length->(∀r∈rs,∃v∈l,P v r)->Q rs s)->dM ao A (l.mapM f) Q E s
 |[],Q,_,q=>by rw[List.mapM_nil];exact wP1 (q [] rfl λr a=>by cases a)
 |v::l,Q,h,q=>by
  rw[List.mapM_cons];obtain⟨r,p,a⟩:=h v mS1;refine wB1 (a _ ?_);refine wB1 (kZ (λv c=>h v (mC1 _ c)) λrs g d=>?_);refine wP1 (q (r::rs) (by rw[lC1,lC1,g]) λx b=>?_);rcases aF.mp b with z|z
  ·exact⟨v,mS1,by rw[z];exact p⟩
  ·obtain⟨e,h1,h2⟩:=d x z;exact⟨e,mC1 _ h1,h2⟩
theorem tO(v:dB):firstOfTuple' v=(do
  if(<- typeOf v) != .type "tuple" then return Y
  return (<- Builtin.List.listItems v)[0]?):=rfl
theorem GF{vs:List dB}{Q:SortKind->dD->Prop}(m:vs≠[])(h:∀ v∈vs,∃ a p ps b c,v = .ref a/\IsTup s.heap a (p::ps).toArray/\p = .ref b/\IsTup s.heap b c)(q:Q (tuples' false) s):
  dM (model prog w) A (keyKind' vs.toArray) Q E s:=by
 rw[keyKind'_eq,cj,<- bind_pure_comp];refine wB1 (wB1 (kZ (P:=λ_ r=>∃b c,r=Z (.ref b)/\IsTup s.heap b c) (λv k=>?_) λrs G j=>wP1 ?_))
 ·obtain⟨a,p,ps,b,c,rfl,⟨o,g,i,_,B⟩,rfl,u⟩:=h v k;refine⟨Z (.ref b),⟨b,c,O,u⟩,λQ q=>?_⟩;rw[tO];refine wB1 (wpAny_typeOf (T:="tuple") ⟨o,g,i⟩ ?_);rw[aj (by decide)];refine wB1 (listItems_at g B (wP1 ?_));simpa using q
 ·have D:rs.toArray.all (·.isSome)=true:=by
   rw[ck,bC];intro r n;obtain⟨v,_,b,c,e,_⟩:=j r n;rw[e];rfl
  rw[ak D];refine wB1 (wpAny_rule ?_);rw[oneTypeOnly'_eq];have C:rs.toArray.filterMap id=(rs.filterMap id).toArray:=by simp
  rw[C,cj,<- bind_pure_comp];refine wB1 (wB1 (wB1 (kZ (P:=λ_ t=>t=Value.type "tuple") (λv k=>?_) λf d u=>wP1 ?_)))
  ·obtain⟨r,n,e⟩:=aL.mp k;obtain⟨I,_,b,c,y,⟨o,g,i,_⟩⟩:=j r n;rw[y]at e;cases e;exact⟨_,O,λQ q=>wpAny_typeOf (T:="tuple") ⟨o,g,i⟩ q⟩
  ·cases f with
   |nil=>
    exfalso;cases rs with
    |nil=>exact m (cm.mp G.symm)
    |cons r rs=>
     obtain⟨_,_,b,_,e,_⟩:=j r mS1;rw[e]at d;simp at d
   |cons t f=>
    have all:∀x∈t::f,x=Value.type "tuple":=λx l=>by obtain⟨_,_,z⟩:=u x l;exact z
    have H:=all t mS1;subst H;have F:((Value.type "tuple"::f).toArray.all λx=>x == Value.type "tuple")=M:=by
     rw[ck,bC];intro x l;rw[all x l];rfl
    show dM _ _ (pure (if((Value.type "tuple"::f).toArray.all λx=>x == Value.type "tuple")=M then Z (Value.type "tuple")else Y)) _ _ _;rw[ak F];exact wP1 (wP1 q)
end
section
variable{prog:dF}{w:dH}{A:dG}{E:dB->dD->Prop}{R:Result->dD->Prop}
end
section
variable{prog:dF}{w:dH}{A:dG}{E:dB->dD->Prop}{s:dD}
end
mutual
theorem uF{n:Nat}:∀k:TK,(tkD k).und n=M
 | .non=>rfl
 | .int _=>rfl
 | .tup xs=>by rw[tkD,D.und];exact vS xs
theorem vS{n:Nat}:∀ks:List TK,D.unds n (hW ks)=M
 |[]=>rfl
 |k::ks=>by rw[hW,D.unds,uF k,vS ks];rfl
end
section
variable{X:Cx}
end
def Hn(H:Hp)(a:dE):Prop:=(∃kvs,H a=Z (.dK kvs)) \/ ∃xs,H a=Z (.ext (gf a xs))
section
variable{X:Cx}
theorem Ds{ag:List (dE×Obj)}{σ:L2.St}{H:Hp}{s:dD}{a:dE}(I:Inv X ag σ H s)(h:Hn H a):(a == sysModules)=J /\ ∃o,s.heap.get? a=Z o/\o.ExactDict:=by
 rcases h with⟨kvs,e⟩|⟨xs,e⟩
 ·obtain⟨_,b,vs,_,o,es,ep,h1,h2,_⟩:=I.hok a _ e;exact⟨b,o,h1,h2⟩
 ·obtain⟨⟨b,_,o,es,ep,h1,h2,_⟩,_⟩:=(show eG X.prog X.w H s.heap a (.ext (gf a xs))from I.hok a _ e);exact⟨b,o,h1,h2⟩
end
abbrev ul(h:dP)(it d:dE)(i n ep:Nat):Prop:=h.get? it=Z {cls:=.type "dict_keyiterator",dict:=Y,data:=.fields #[.ref d,.int i 0,.int n 0,.int ep 0],slots:= #[]}
section
variable{prog:dF}{w:dH}{A:dG}{E:dB->dD->Prop}{s:dD}
theorem wE{it d:dE}{i ep:Nat}{es:Array DictEntry}{o:Obj}{Q:Option dB->dD->Prop}(g:ul s.heap it d i es.size ep)(hd:s.heap.get? d=Z o)(k:o.data = .dict es ep)(hi:i<es.size)(q:∀h',ul h' it d (i+1) es.size ep->Heap.SameBut it s.heap h'->Q (Z es[i].key) {s with heap:=h'}):dM (model prog w) A (pyNext (.ref it)) Q E s:=by
 have h:s.TypeIs (.ref it) "dict_keyiterator":=⟨_,g,O⟩;unfold pyNext;refine wB1 (wpAny_attempt (wpAny_callSpecial?_slot (name:=Str.ofString "__next__") h PySem.F.slot_dict_keyiterator_next
  (wE1 PySem.F.slot_dict_keyiterator_next h PySem.F.entry_dict_keyiterator_next ?_ (PySem.F.args_dict_keyiterator_next_1 _))))
 refine wB1 (wP1 (wB1 (wB1 (wB1 (wpAny_typeNameOfWhole_keyiter h (wP1 ?_))))));refine wB1 (wpAny_fieldsOf g O ?_);have j:Builtin.Dict_items.ownsTuple "dict_keyiterator"=J:=by decide
 simp only[j,bF1,if_false];show dM _ _ (if(Value.ref d == Value.none)=M then _ else _) _ _ s;rw[aj (show¬ ((Value.ref d == Value.none)=M)from aK)];refine wB1 (wP1 (wB1 (wpAny_dictEntries hd k ?_)));rw[aj (by simp)];refine wB1 (wP1 (wB1 (wpAny_dictEpoch hd k ?_)));rw[aj (by simp)];refine wP1 ?_;simp only[show¬ ((i:Int)<0)from by lia,if_false,Int.toNat_natCast,aG1 hi];refine wB1 (wB1 (wpAny_typeNameOfWhole_keyiter h (wP1 ?_)));refine wB1 (wpAny_isOneOf_keyiter h ?_);show dM _ _ (setField (.ref it) 1 (rawInt ((i:Int)+1)) >>= _) _ _ s;refine wB1 (wS1 g (by simp) λb a c=>?_);replace a:ul b it d (i+1) es.size ep:=by
  have e:((i+1:Nat):Int)=(i:Int)+1:=by lia
  unfold ul;rw[e];simpa[rawInt]using a
 have f:Shared.TypeIs {s with heap:=b} (.ref it) "dict_keyiterator":=⟨_,a,O⟩;refine wB1 (wpAny_holding (wB1 (wpAny_isOneOf_keyiter f ?_)));show dM _ _ (pure es[i].key) _ _ _;exact wP1 (wP1 ⟨_,O,wP1 (q b a c)⟩)
theorem AG{it d:dE}{i ep:Nat}{es:Array DictEntry}{o:Obj}{Q:Option dB->dD->Prop}(n:A.handled=Y)(f:ul s.heap it d i es.size ep)(hd:s.heap.get? d=Z o)(h:o.data = .dict es ep)(hi:es.size<=i)(q:∀h',(∀b o,b≠it->s.heap.get? b=Z o->h'.get? b=Z o)->Q Y {s with heap:=h'}):dM (model prog w) A (pyNext (.ref it)) Q E s:=by
 have j:s.TypeIs (.ref it) "dict_keyiterator":=⟨_,f,O⟩;unfold pyNext;refine wB1 (wpAny_attempt (wpAny_callSpecial?_slot (name:=Str.ofString "__next__") j PySem.F.slot_dict_keyiterator_next
  (wE1 PySem.F.slot_dict_keyiterator_next j PySem.F.entry_dict_keyiterator_next ?_ (PySem.F.args_dict_keyiterator_next_1 _))))
 refine wB1 (wP1 (wB1 (wB1 (wB1 (wpAny_typeNameOfWhole_keyiter j (wP1 ?_))))));refine wB1 (wpAny_fieldsOf f O ?_);have g:Builtin.Dict_items.ownsTuple "dict_keyiterator"=J:=by decide
 simp only[g,bF1,if_false];show dM _ _ (if(Value.ref d == Value.none)=M then _ else _) _ _ s;rw[aj (show¬ ((Value.ref d == Value.none)=M)from aK)];refine wB1 (wP1 (wB1 (wpAny_dictEntries hd h ?_)));rw[aj (by simp)];refine wB1 (wP1 (wB1 (wpAny_dictEpoch hd h ?_)));rw[aj (by simp)];refine wP1 ?_;simp only[show¬ ((i:Int)<0)from by lia,if_false,Int.toNat_natCast,cp hi];refine wB1 (wB1 (wpAny_typeNameOfWhole_keyiter j (wP1 ?_)));show dM _ _ (setField (.ref it) 0 .none >>= _) _ _ s;refine wB1 (wS1 f (by simp) λl k c=>?_);show dM _ _ (newExc (.type "StopIteration") [] >>= _) _ _ _;refine wB1 ?_;simp only[newExc,newTuple];refine wB1 (wO1 ?_ (by size_fits));refine wB1 (m:=firstArgMember _ _) (wpAny_of_eq (a:=Value.none) (by first|rfl|(simp only[firstArgMember];rfl)) ?_);refine wO1 ?_ (by size_fits);simp only[raiseNew];refine wB1 (wpAny_handled ?_);rw[show A.in1.handled=Y from n];refine wB1 (wP1 (wpAny_throw ?_));refine wB1 (wpAny_isInstance (T:="StopIteration") (b:=M) ⟨_,hS1 _ O,O⟩ isSubtype_stop ?_);exact wP1 (q _ λb o p e=>hP1 _ (hP1 _ (c.extBut b o p e)))
theorem wG {d:dE}{es:Array DictEntry}{ep:Nat}{o:Obj}{Q:dB->dD->Prop}(hm:(d == sysModules)=false)(hd:s.heap.get? d=some o)(hc:o.cls = .type "dict")(a:o.data = .dict es ep)(hn:es.size<=dL)
  (q:Q (.ref s.heap.objs.size) {s with heap:=s.heap.push {cls:=.type "dict_keyiterator",data:=.fields #[.ref d,.int 0 0,.int es.size 0,.int ep 0]}}):dM (model prog w) A (pyIter (.ref d)) Q E s:=by
 have b:s.TypeIs (.ref d) "dict":=⟨o,hd,hc⟩;refine wpAny_pyIter_slot b PySem.F.slot_dict_iter (wE1 PySem.F.slot_dict_iter b PySem.F.entry_dict_iter ?_ (PySem.F.args_dict_iter_1 _));unfold Builtin.«dict.__iter__»;refine wB1 ?_;unfold Builtin.Dict.dictSlotNone;refine wB1 (wpAny_notOrdered_dict b ?_);show dM _ _ (pure (Value.ref d)) _ _ s;refine wP1 ?_;show dM _ _ (Builtin.Dict.showsAll d >>= _) _ _ s;unfold Builtin.Dict.showsAll;rw[aj (by rw[hm];exact aK)];refine wB1 (wP1 (wB1 (wpAny_dictEntries hd a (wB1 (wpAny_dictEpoch hd a (wB1 ?_))))));refine wO1 (wP1 ⟨_,O,"dict_keyiterator",_,⟨_,hS1 _ O,O⟩,PySem.F.slot_dict_keyiterator_next.lookup,?_⟩);simpa[rawInt]using q
end
section
variable{prog:dF}{w:dH}{A:dG}{E:dB->dD->Prop}{R:Result->dD->Prop}
theorem De{it d S:dE}{ep:Nat}{es:Array DictEntry}{o:Obj}{p:dB}(I:A.handled=none)(r:o.data = .dict es ep)(h1:it≠d)(h2:S≠d)(y:S≠it)(hn:es.size<=dL):
  ∀(k i:Nat) (s:dD) (acc:Array dB) (c:Nat),es.size-i=k->i<=es.size->ul s.heap it d i es.size ep->s.heap.get? d=Z o ->
  s.heap.get? S=Z {cls:=.type "list",dict:=Y,data:=.seq acc c,slots:= #[]}->acc.toList=(es.toList.take i).map (·.key) ->
  (∀h' a G,(∀b u,b≠it->b≠S->s.heap.get? b=Z u->h'.get? b=Z u)->h'.get? S=Z {cls:=.type "list",dict:=Y,data:=.seq a G,slots:= #[]}->a.toList=es.toList.map (·.key)->R (.ok (.ret p)) {s with heap:=h'}) ->
  dN (model prog w) A (.builtin "list.extend.loop" ⟨[.ref S,.ref it,p],[]⟩) R s:=by
 intro k
 induction k with
 |zero=>
  intro i s acc c H hi g v z x C;have e:i=es.size:=by lia
  subst e;refine wD1 PySem.F.entry_extend_loop ?_;rw[Around.under_plainId PySem.F.plain_extend_loop _];show dM _ A.in1 (pyNext (.ref it) >>= _) _ _ s;refine wB1 (AG I g v r (nR1 _) λh' keep=>wP1 ?_);exact C h' acc c (λb u l _ e=>keep b u l e) (keep S _ y z) (by rw[x,<- aJ,bY])
 |succ k ih=>
  intro i s acc c H hi g v z x C;have j:i<es.size:=by lia
  have t:acc.size=i:=by rw[<- aJ,x,lM1,aR,aJ];lia
  refine wD1 PySem.F.entry_extend_loop ?_;rw[Around.under_plainId PySem.F.plain_extend_loop _];show dM _ A.in1 (pyNext (.ref it) >>= _) _ _ s;refine wB1 (wE g v r j λh' n F=>?_);have q:=F.extBut S _ y z;show dM _ A.in1 (updateSeq S (·.push es[i].key) >>= _) _ _ _;refine wB1 (wpAny_updateSeq (s:={s with heap:=h'}) q O ?_ (by rw[t];lia) (by show(acc.push _).size<=dL+1;rw[Array.size_push,t];lia));have f:∀b u,b≠S->h'.get? b=Z u->(h'.update S (Obj.mapSeq (·.push es[i].key))).get? b=Z u:=λb u l e=>by rw[hU1 _ _ _ _ l];exact e
  refine wP1 ⟨plainId_quiet PySem.F.plain_extend_loop _,ih (i+1) {s with heap:=h'.update S (Obj.mapSeq (·.push es[i].key))} (acc.push es[i].key) _ (by lia) j (f it _ (Ne.symm y) n) (f d _ (Ne.symm h2) (F.extBut d _ (Ne.symm h1) v)) (hW1 _ q O) ?_ ?_⟩
  ·rw[cq,x,cr,aT1,aG1 j,cu];rfl
  ·intro D a G h B E;exact C D a G (λb u l m e=>h b u l m (f b u m (F.extBut b u l e))) B E
theorem Be:typeLookup (.type "dict") "__len__"=pure (Z (.builtin "dict.__len__")):=by rw[typeLookup_type,builtinLookup_eq_fast];kernel_rfl
theorem Df {s:dD}{v:dE}{Q:Bool->dD->Prop}(c:s.TypeIs (.ref v) "dict")(q:Q J s):dM (model prog w) A (Builtin.List.listLengthHint (.ref v)) Q E s:=by
 unfold Builtin.List.listLengthHint;refine wB1 (wpAny_specialOf c Be ?_);generalize a:("dict.__len__":String)=id0
 wp_delta
 rw[show splitId id0=Z ("dict","__len__")from by subst a;decide+kernel];subst a;refine wB1 (wpAny_isInstance (b:=M) c (by rw[isSubtype_type];kernel_rfl) ?_);rw[aj (by decide)];dsimp only;rw[ak (by decide+kernel)];refine wB1 (wpAny_typeOf c ?_);exact wP1 q
theorem wF {s:dD}{d:dE}{es:Array DictEntry}{ep:Nat}{o:Obj}{Q:dB->dD->Prop}(am:A.handled=none)(hm:(d == sysModules)=false)(hd:s.heap.get? d=some o)(hc:o.cls = .type "dict")(B:o.data = .dict es ep)(hn:es.size<=dL)
  (q:∀h' G,(∀b u,s.heap.get? b=Z u->h'.get? b=Z u)->h'.get? s.heap.objs.size=Z {cls:=.type "list",dict:=Y,data:=.seq (es.toList.map (·.key)).toArray G,slots:= #[]}->Q (.ref s.heap.objs.size) {s with heap:=h'}):
  dM (model prog w) A (call (.type "list") [.ref d]) Q E s:=by
 have i:d<s.heap.objs.size:=hL1 hd;refine callType_codes (Q₁:=λx j=>x = .ref s.heap.objs.size/\j={s with heap:=s.heap.push {cls:=.type "list",data:=.seq #[]}}) PySem.F.called_list (PySem.F.typeCall_list_1 _) PySem.F.entry_list_init
  (code_list_new _ ⟨O,O⟩) λx j a=>?_
 obtain⟨rfl,rfl⟩:=a;have D:(s.heap.push {cls:=.type "list",data:=.seq #[]}).get? s.heap.objs.size=Z {cls:=.type "list",data:=.seq #[]}:=hS1 _ O;refine⟨⟨_,D,O⟩,PySem.F.args_list_init_2 _ _,?_⟩;have C:∀b u,s.heap.get? b=Z u->(s.heap.push {cls:=.type "list",data:=.seq #[]}).get? b=Z u:=λb u e=>hP1 _ e;have r:(s.heap.push {cls:=.type "list",data:=.seq #[]}).objs.size=s.heap.objs.size+1:=by rw[hZ1]
 generalize s.heap.push {cls:=.type "list",data:=.seq #[]}=a at *
 show dM _ A.in1.in1 (do let old<-Builtin.List.listItems (.ref s.heap.objs.size);Builtin.List.listUpdate (.ref s.heap.objs.size) (λ_=> #[]);letGo old.toList.reverse;Builtin.List.listExtendWith (.ref s.heap.objs.size) (.ref d) .none) _ _ {s with heap:=a};refine wB1 (listItems_at D O ?_);show dM _ A.in1.in1 (updateSeq s.heap.objs.size (λ_=> #[]) >>= λ_=>letGo (#[]:Array dB).toList.reverse >>= λ_=>Builtin.List.listExtendWith (.ref s.heap.objs.size) (.ref d) .none) _ _ {s with heap:=a};refine wB1 (wpAny_updateSeq (s:={s with heap:=a}) D O ?_);have k:=hW1 (Obj.mapSeq (λ_=>(#[]:Array dB))) D O;have h:∀b u,s.heap.get? b=Z u->(a.update s.heap.objs.size (Obj.mapSeq (λ_=>(#[]:Array dB)))).get? b=Z u:=λb u e=>by rw[hU1 _ _ _ _ (nN1 (hL1 e))];exact C b u e
 have p:(a.update s.heap.objs.size (Obj.mapSeq (λ_=>(#[]:Array dB)))).objs.size=s.heap.objs.size+1:=by rw[Heap.size_update,r]
 generalize a.update s.heap.objs.size (Obj.mapSeq (λ_=>(#[]:Array dB)))=h₂ at *
 refine wB1 (wpAny_letGo ?_);unfold Builtin.List.listExtendWith;have t:Shared.TypeIs {s with heap:=h₂} (.ref d) "dict":=⟨o,h d o hd,hc⟩;refine wB1 (wpAny_typeOf t ?_);have h1:Builtin.List.listSameRef (.ref s.heap.objs.size) (.ref d)=J:=by simp[Builtin.List.listSameRef,nG1 i]
 rw[aj (by rw[h1];decide)];refine wB1 (wG (s:={s with heap:=h₂}) hm (h d o hd) hc B hn ?_);dsimp only;have y:ul (h₂.push {cls:=.type "dict_keyiterator",data:=.fields #[.ref d,.int 0 0,.int es.size 0,.int ep 0]}) h₂.objs.size d 0 es.size ep:=hS1 _ O;have g:=hP1 {cls:=.type "dict_keyiterator",data:=.fields #[.ref d,.int 0 0,.int es.size 0,.int ep 0]} k;have f:∀b u,s.heap.get? b=Z u->(h₂.push {cls:=.type "dict_keyiterator",data:=.fields #[.ref d,.int 0 0,.int es.size 0,.int ep 0]}).get? b=Z u:=λb u e=>hP1 _ (h b u e);generalize h₂.push {cls:=.type "dict_keyiterator",data:=.fields #[.ref d,.int 0 0,.int es.size 0,.int ep 0]}=h₃ at *
 rw[p]at y ⊢;have l:Shared.TypeIs {s with heap:=h₃} (.ref d) "dict":=⟨o,f d o hd,hc⟩;refine wB1 (wpAny_holding (Df l ?_));rw[ak (by decide+kernel)];refine wB1 (wpAny_rule (wB1 ?_));show dM _ A.in1.in1 (updateSeq s.heap.objs.size (·.push .none) >>= λ_=>updateSeq s.heap.objs.size (·.pop)) _ _ _;refine wB1 (wpAny_updateSeq (s:={s with heap:=h₃}) g O ?_);have c:=hW1 (Obj.mapSeq (·.push Value.none)) g O;refine wpAny_updateSeq (s:={s with heap:=h₃.update s.heap.objs.size (Obj.mapSeq (·.push Value.none))}) c O ?_;have n:=hW1 (Obj.mapSeq (·.pop)) c O;have m:∀b u,b≠s.heap.objs.size->h₃.get? b=Z u->((h₃.update s.heap.objs.size (Obj.mapSeq (·.push Value.none))).update s.heap.objs.size (Obj.mapSeq (·.pop))).get? b=Z u:=λb u v e=>by
  rw[hU1 _ _ _ _ v,hU1 _ _ _ _ v];exact e
 have z:s.heap.objs.size+1≠s.heap.objs.size:=Nat.succ_ne_self _;refine wP1 ⟨plainId_quiet PySem.F.plain_extend_loop _,De (A:=A.in1) (it:=s.heap.objs.size+1) (o:=o) am B (nG1 (cv i)) (nG1 i) (Ne.symm z) hn es.size 0
  {s with heap:=(h₃.update s.heap.objs.size (Obj.mapSeq (·.push Value.none))).update s.heap.objs.size (Obj.mapSeq (·.pop))} _ _ O (bi _) (m _ _ z y) (m d o (nN1 i) (f d o hd)) n O λh' H G keep F I=>⟨O,?_⟩⟩
 refine q h' G (λb u e=>?_) (by rw[F,<- I,Array.toArray_toList]);have v:b<s.heap.objs.size:=hL1 e;exact keep b u (nN1 (cv v)) (nN1 v) (m b u (nN1 v) (f b u e))
noncomputable def AY:G1:=λd S=>match d with
 | .ref n=>match S[n]? with
  |some (.dcT kvs)=>Z (.ref S.length,S++[.lst (kvs.map λp=>tkD p.1)])
  |some (.dct [])=>Z (.ref S.length,S++[.lst []])
  |_=>DE d S
 |_=>DE d S
end
section
variable{X:Cx}
theorem KT.keys{K:Fg1}{H:Hp}{mu:List dE}:∀{ks:List (TK×D)} {ws:List (TK×dE×dB)},KT K H mu ks ws->d2 K H mu (ks.map λp=>tkD p.1) (ws.map λx=>V.ref x.2.1)
 |_,_,.nil=>.nil
 |_,_,.cons ⟨z,d,k,_⟩ t=>.cons k (KT.keys t)
theorem pp:∀ws:List (TK×dE×dB),ee (ws.map λx=>V.ref x.2.1) (ws.map λx=>Value.ref x.2.1)
 |[]=>.nil
 |_::ws=>.cons O (pp ws)
theorem DU(k:X.calm=M):eZ X (.type "list") (rN X.K (b1 AY)):=by
 intro ag s σ H xs D Q I r h;obtain⟨x,mu,S,d,A,C,p,t,f,e,hc⟩:=Ci h;have back:DE d S=Z (A,C)->dM (model X.prog X.w) X.A (call (.type "list") D) (EP X ag σ Q) X.xe s:=λe=>G5 ag s σ H xs D Q I r (by rw[p];exact⟨mu,S,[d],A,C,.cons t .nil,f,e,hc⟩);unfold AY at e;split at e
 ·rename_i n;split at e
  ·rename_i kvs y;cases e;subst p;obtain⟨u,rfl,r2⟩:=g0 r;cases t with
   | @ref _ a q=>
    cases r2;obtain⟨ws,h1,h2,B⟩:=f.dcT y q;obtain⟨⟨g,_,o,es,ep,v,w,m,l⟩,_⟩:=(show eG X.prog X.w H s.heap a (.ext (gf a ws))from I.hok a _ h1);have i:es.size<=dL:=by rw[<- aJ,l,lM1];exact B
    refine wF (I.ok.hd k) g v w.1 m i λh' z keep c=>?_;have b:=I.hok.fresh (nR1 s.heap.objs.size);have F:ee (ws.map λx=>V.ref x.2.1) (es.toList.map (·.key)):=by
     rw[l,bu];exact pp ws
    refine⟨.ref s.heap.objs.size,_,I.laid (t':=s.toks) (o:=.lst (ws.map λx=>V.ref x.2.1)) keep (nR1 _) ⟨by rw[lM1];exact B,_,z,F,c⟩,O,hc _ _ (mu++[_]) (Ext.new_ b) (.ref (fQ f.len _)) (f.newL h2.keys b)⟩
  ·rename_i y;cases e;subst p;obtain⟨u,rfl,r2⟩:=g0 r;cases t with
   | @ref _ a q=>
    cases r2;obtain⟨ws,h1,h2⟩:=f.dct y q;cases h2;obtain⟨_,g,vs,v,o,es,ep,w,m,l,E⟩:=I.hok a _ h1;cases v;have j:es.toList=[]:=cm.mp (by have:=E.2.1.length;simpa using this);have i:es.size=0:=by rw[<- aJ,j];rfl
    refine wF (I.ok.hd k) g w m.1 l (by rw[i];exact bi _) λh' z keep c=>?_;have b:=I.hok.fresh (nR1 s.heap.objs.size);rw[j]at c
    exact⟨.ref s.heap.objs.size,_,I.laid (t':=s.toks) (o:=.lst []) keep (nR1 _) ⟨bi _,[],z,.nil,c⟩,O,hc _ _ (mu++[_]) (Ext.new_ b) (.ref (fQ f.len _)) (f.newL .nil b)⟩
  ·exact back e
 ·exact back e
noncomputable def J8(X:Cx)(td ty tx:TE):TE:=fun σ H Q=>td σ H λx H1=>∃a,x = .ref a/\Hn H1 a/\ty σ H1 λy H2=>tx σ H2 λz H3=>
 ∀ag s u r,Inv X ag σ H3 s->d5 y u->d5 z r->dM (model X.prog X.w) X.A (call (.builtin "dict.get") [.ref a,u,r]) (EP X ag σ Q) X.xe s
theorem FH {o e f:Expr}{apos cpos:Pos}{td ty tx:TE}(ho:PE X o td)(he:PE X e ty)(hf:PE X f tx)(m:M2 X o "get" apos e f cpos):PE X (.Call (.Attribute o "get" apos) [e,f] [] cpos) (J8 X td ty tx):=by
 intro ag s σ H Q I h;refine wpAny_Call_method m.base m.few m.line PySem.F.plainAttrs_dict PySem.F.slot_dict_get PySem.F.type_dict_get (fh (ho ag s σ H _ I h) λu l ⟨x,H1,j,D,a,ex,d,q⟩=>?_);subst ex;obtain rfl:u=Value.ref a:=D;obtain⟨_,o',i,c⟩:=Ds j d;refine⟨⟨o',i,c.1⟩,λb C=>by cases C;exact⟨o',i,c.2.1⟩,?_⟩;rw[m.trees];refine Calls.callWith_builtin O (Calls.evalArgs_plain (Calls.spliced_cons (fh (he ag l σ H1 _ j q) λr p ⟨y,H2,v,A,t⟩=>
  Calls.spliced_cons (fh (hf ag p σ H2 _ v t) λn B ⟨z,E,k,w,g⟩=>Calls.spliced_nil ?_))))
 exact g ag B r n k A w
noncomputable def yz(S:Sto)(n:Nat):Option (List (TK×D)):=match S[n]? with
 |some (.dcT kvs)=>Z kvs
 |some (.dct [])=>Z []
 |_=>Y
theorem w4{H:Hp}{mu:List dE}{S:Sto}{n:Nat}{a:dE}{kvs:List (TK×D)}(hs:Sim X.K H mu S)(hn:mu[n]? = some a)(h:yz S n=some kvs):
  Hn H a /\ ∃xs,KT X.K H mu kvs xs /\ ∀ag σ s,Inv X ag σ H s->(a == sysModules)=J/\s.heap.DictOfH (fP X.prog X.w) a xs:=by
 unfold yz at h;split at h
 ·rename_i ks c;cases h;obtain⟨xs,h1,h2,l⟩:=hs.dcT c hn;exact⟨.inr ⟨xs,h1⟩,xs,h2,λag σ s I=>tY I h1 h2⟩
 ·rename_i c;cases h;obtain⟨ws,h1,h2⟩:=hs.dct c hn;cases h2;refine⟨.inl ⟨[],h1⟩,[],.nil,λag σ s I=>?_⟩;obtain⟨_,b,vs,k,o,es,ep,f,i,g,j⟩:=I.hok a _ h1;cases k;have d:es.toList=[]:=cm.mp (by have:=j.2.1.length;simpa using this);exact⟨b,o,es,ep,f,i,g,d,λx e=>(by cases e),bo⟩
 ·cases h
noncomputable def rD(m a b:FE):FE:=λr S=>(m r S).bind λp=>match p.1 with
 | .ref n=>(yz p.2 n).bind λ_=>(a r p.2).bind λq=>(b r q.2).bind λt=>(yz t.2 n).bind λkvs=>(keyT q.1).map λk=>((d0 kvs k).getD t.1,t.2)
 |_=>Y
theorem xp {o e f:Expr}{apos cpos:Pos}{m a b:FE}(hu:X.A.units+64<cLine)(ho:XE X o m)(he:XE X e a)(hf:XE X f b)(hm:M2 X o "get" apos e f cpos:=by exact⟨O,O,O,O⟩):XE X (.Call (.Attribute o "get" apos) [e,f] [] cpos) (rD m a b):=
 ⟨eR (FH ho.h he.h hf.h hm) <| by
  rintro σ H Q ⟨r,mu,S,d,S',he,hs,hm,hc⟩;obtain⟨⟨R,G⟩,N,hm⟩:=oB1.mp hm;refine⟨r,mu,S,R,G,he,hs,N,λv1 H1 mu1 h r1 E=>?_⟩;dsimp only at hm;split at hm
  ·rename_i n;obtain⟨kv0,y,hm⟩:=oB1.mp hm;cases r1 with
   | @ref _ K am=>
    refine⟨K,O,(w4 E am y).1,?_⟩;obtain⟨⟨T,C⟩,ao,hm⟩:=oB1.mp hm;obtain⟨⟨d3,P⟩,e3,hm⟩:=oB1.mp hm;refine⟨r,mu1,G,T,C,he.ext h,E,ao,λv2 H2 x i r2 s2=>?_⟩;refine⟨r,x,C,d3,P,(he.ext h).ext i,s2,e3,λaq l g j U t=>?_⟩;obtain⟨kvs,en,hm⟩:=oB1.mp hm;obtain⟨k,V,hm⟩:=oM1.mp hm;cases hm;intro ag s u w I wq q;obtain⟨_,xs,F,au⟩:=w4 t (j.at (i.at am)) en;obtain⟨A,D⟩:=au ag σ s I;obtain⟨b,rfl,rfl,_,_,hi⟩:=jh I (r2.ext j) wq V;refine call_meetsIn PySem.F.slot_dict_get D.typeIs PySem.F.entry_dict_get (PySem.F.args_dict_get_3 _ _ _) (meetsH_dict_get_default (fP X.prog X.w) K b A w) ⟨iM hu,k,xs,hi,D,?_⟩;show EP X ag σ Q (((atKey xs k).map (·.2)).getD w) _;cases ez:d0 kvs k with
    |none=>
     have c:=(F.look (k:=k)).2;rw[ez]at c hc;have B:atKey xs k=Y:=by
      cases B:atKey xs k with
      |none=>rfl
      |some _=>rw[B]at c;cases c
     rw[B];exact⟨aq,l,I.tok _,q,hc _ l g ((h.trans i).trans j) U t⟩
    |some z=>
     obtain⟨p,v,W,rv,L⟩:=F.look.1 z ez;rw[ez]at hc;rw[W];exact⟨v,l,I.tok _,rv,hc _ l g ((h.trans i).trans j) L t⟩
  ·cases hm⟩
end
def NF(X:Cx)(a:dE):Prop:=(∀xs,X.H₀ a≠Z (.tup xs))/\(∀o v,X.H₀ a≠Z (.frz o v)) /\ ∀ps,X.H₀ a≠Z (.tbl ps)
section
variable{X:Cx}{ag:List (dE×Obj)}{σ:L2.St}{H:Hp}{s:dD}{a:dE}{u v:HO}
theorem tF(I:Inv X ag σ H s)(e:H a=Z u)(d:NF X a)(h1:∀c,u ≠ .own c)(h2:∀xs,u ≠ .tup xs)(new:eG X.prog X.w H s.heap a v):Inv X ag σ (upd H a v) s:=by
 have ne:∀{b:dE},H b=Y->b≠a:=λ{b} z=>by rintro rfl;rw[e]at z;cases z
 have f:∀b c,H b=Z (.own c)->upd H a v b=Z (.own c):=λb c z=>by
  rw[dY (by rintro rfl;rw[e]at z;cases z;exact h1 _ O)];exact z
 have h:∀b xs,H b=Z (.tup xs)->upd H a v b=Z (.tup xs):=λb xs z=>by
  rw[dY (by rintro rfl;rw[e]at z;cases z;exact h2 _ O)];exact z
 refine⟨I.ok,I.os,I.bare,⟨I.base.keep,I.base.slot,λb o q n i=>?_,I.base.there,λb xs q=>?_,λb o w q=>?_,λb ps q=>?_⟩,I.loc,I.cell,?_,λx c q=>?_,λp l=>?_,λb w q=>?_,I.len⟩
 ·have z:=I.base.free b o q n i;rw[dY (ne z)];exact z
 ·rw[dY (by rintro rfl;exact d.1 _ q)];exact I.base.tups b xs q
 ·rw[dY (by rintro rfl;exact d.2.1 _ _ q)];exact I.base.frzs b o w q
 ·rw[dY (by rintro rfl;exact d.2.2 _ q)];exact I.base.tbls b ps q
 ·rw[dY (ne I.free)];exact I.free
 ·rw[dY (ne (I.freeC x c q))];exact I.freeC x c q
 ·obtain⟨k,p2,j⟩:=I.pin p l;exact⟨k,by rw[dY (ne p2)];exact p2,j⟩
 ·by_cases g:b=a
  ·subst g;rw[d8]at q;cases q;exact new.stay (λc o _ z=>z) (λc z=>f c _ z) λc xs z=>h c xs z
  ·rw[dY g]at q;exact(I.hok b w q).stay (λc o _ z=>z) (λc z=>f c _ z) λc xs z=>h c xs z
end
inductive yP (a:dE):List (TK×dE×dB)->HO->Prop
 |ext (xs:List (TK×dE×dB)):yP a xs (.ext (gf a xs))
 |dK:yP a [] (.dK [])
noncomputable def ItD(a:dE)(o:Obj)(xs:List (TK×dE×dB)):It:=
 ⟨λi H=>(∃u,H a=Z (.frz o u))/\i<xs.length,λi H x H'=>H'=H /\ ∃q,xs[i]?=Z q/\x = .ref q.2.1,λi H=>(∃u,H a=Z (.frz o u))/\xs.length<=i⟩
theorem xy{P:dF}{w:dH}{K:Fg1}{tg:Expr}{a it:dE}{o:Obj}{xs:List (TK×dE×dB)}{es:Array DictEntry}{ep:Nat}(hd:o.data = .dict es ep)(c:es.toList=xs.map fun x=>(⟨x.1.hash,.ref x.2.1,x.2.2⟩:DictEntry)):
  vI P w K tg (ItD a o xs) [it] it (λi h=>ul h it a i es.size ep) where
 mem:=by simp
 obj:=λi h st b d=>by
  have e:b=it:=by simpa using d
  subst e;exact⟨_,st,λv z=>by cases z⟩
 keep:=λi h h' st k=>k it (by simp) _ st
 item:=by
  intro X B y j hc i ag s σ H E I f st q;subst B y j;obtain⟨⟨u,A⟩,hi⟩:=q;obtain⟨l,_⟩:=(show eG X.prog X.w H s.heap a (.frz o u)from I.hok a _ A);have r:es.size=xs.length:=by rw[<- aJ,c,lM1]
  obtain⟨p,n,G,t,g,m⟩:=f it (by simp);refine wE st l hd (by omega) λh' st' F=>?_;have am:Inv X ag σ H {s with heap:=h'}:=I.turned (t':=s.toks) (λb o d e=>(F.2 b d).trans e) p n t g m;have C:es[i].key = .ref (xs[i]).2.1:=by
   have:es.toList[i]?=(xs.map λx=>(⟨x.1.hash,.ref x.2.1,x.2.2⟩:DictEntry))[i]?:=by rw[c]
   rw[aT1,aG1 (by omega),gP1,gG1 hi]at this;have:=Option.some.inj this;rw[this]
  refine⟨_,O,wP (s:={s with heap:=h'}) st' O O (by decide) ⟨.ref (xs[i]).2.1,H,am,C,⟨O,_,gG1 hi,O⟩,st',λb d=>(f b d).1⟩⟩
 done:=by
  intro X B y j hc i ag s σ H E I f st q;subst B y j;obtain⟨⟨u,A⟩,hi⟩:=q;obtain⟨l,_⟩:=(show eG X.prog X.w H s.heap a (.frz o u)from I.hok a _ A);have r:es.size=xs.length:=by rw[<- aJ,c,lM1]
  obtain⟨p,n,G,t,g,m⟩:=f it (by simp);exact AG (I.ok.hd hc) st l hd (by omega) λh' D=>⟨O,I.turned (t':=s.toks) (λb o d e=>D b o d e) p n t g m⟩
 self:=λ_ _ _ _ _ st h=>wpAny_pyIter_keyiter ⟨_,st,O,O⟩ h
noncomputable def IP(X:Cx)(tl:TE):TI:=fun σ H R=>tl σ H λx H1=>∃a xs u,x = .ref a/\H1 a=Z u/\yP a xs u/\xs.length<=dL /\ ∀o,xl a xs o->NF X a->R (ItD a o xs) (upd H1 a (.frz o u))
theorem GY{X:Cx}{ag:List (dE×Obj)}{σ:L2.St}{H:Hp}{s:dD}{a:dE}{u:HO}{xs:List (TK×dE×dB)}(I:Inv X ag σ H s)(e:H a=Z u)(h:yP a xs u):∃o,s.heap.get? a=Z o/\xl a xs o:=by
 cases h with
 |ext xs=>
  obtain⟨⟨h1,h2,o,es,ep,b,c,d,f⟩,_⟩:=(show eG X.prog X.w H s.heap a (.ext (gf a xs))from I.hok a _ e);exact⟨o,b,h1,h2,c,es,ep,d,f⟩
 |dK=>
  obtain⟨_,h1,vs,h2,b⟩:=(show eG X.prog X.w H s.heap a (.dK [])from I.hok a _ e);cases h2;obtain⟨o,es,ep,b,c,d,f,_⟩:=oz b;exact⟨o,b,h1,bo,c,es,ep,d,f⟩
theorem GX{X:Cx}{ag:List (dE×Obj)}{σ:L2.St}{H:Hp}{s:dD}{a:dE}{u:HO}{xs:List (TK×dE×dB)}(I:Inv X ag σ H s)(e:H a=Z u)(h:yP a xs u):NF X a:=by
 refine⟨λys q=>?_,λo v q=>?_,λps q=>?_⟩
 ·have:=I.base.tups a ys q;rw[e]at this;cases this;cases h
 ·have:=I.base.frzs a o v q;rw[e]at this;cases this;cases h
 ·obtain⟨m,z⟩:=I.base.tbls a ps q;rw[e]at z;cases z;cases h
theorem Fs{X:Cx}{tg l:Expr}{tl:TE}(B:PE X l tl):PI X tg l (IP X tl):=by
 intro ag s σ H R I h;refine fh (B ag s σ H _ I h) λv s1 ⟨x,H1,d,t,r⟩=>?_;obtain⟨a,xs,u,e,f,g,E,q⟩:=r;subst e;cases t;obtain⟨o,n,k⟩:=GY d f g;have p:=GX d f g;have q:=q o k p;obtain⟨y,D,w,es,ep,j,i⟩:=k;have C:es.size=xs.length:=by rw[<- aJ,i,lM1]
 refine wG y n w.1 j (by lia) ?_;have m:Inv X ag σ (upd H1 a (.frz o u)) s1:=tF d f p (λc z=>by subst z;cases g) (λc z=>by subst z;cases g) ⟨n,d.hok a _ f⟩;refine⟨s1.heap.objs.size,[s1.heap.objs.size],_,_,_,O,m.kept (t':=s1.toks) λb o e=>hP1 _ e,xy j i,hS1 _ O,λb A=>?_,q⟩;have e:b=s1.heap.objs.size:=by simpa using A
 subst e;exact d.fpOk (nR1 _) (m.hok.fresh (nR1 _))
noncomputable def AH:Ob->Option (List (TK×D))
 | .dcT kvs=>Z kvs
 | .dct []=>Z []
 |_=>Y
noncomputable def lZ(k:Nat)(keep:List Nat)(m:FE)(g:FG)(t:FT)(b:FV):FE:=λr S=>(m r S).bind λp=>match p.1 with
 | .ref n=>(p.2[n]?).bind fun ob=>(AH ob).bind fun kvs=>(fK [] g t b (kvs.map fun q=>tkD q.1) (rK k keep r) (p.2.set n (.dcF kvs))).bind fun q=>
   if q.1.length<=dL then Z (.ref q.2.2.length,q.2.2.set n ob++[.lst q.1])else Y
 |_=>Y
section
variable{K:Fg1}{H H':Hp}{mu mu':List dE}{S:Sto}{n:Nat}{a:dE}{o:Obj}{u:HO}
theorem kk.exv{b:dE}(e:yV mu mu' H H')(h:∀o,H b=Z o->H' b=Z o):∀{o:Ob},kk K H mu b o->kk K H' mu' b o
 | .lst _,⟨vs,q,r⟩=>⟨vs,h _ q,r.exv e⟩
 | .dct _,⟨ws,q,r⟩=>⟨ws,h _ q,Paired.mapP r λ_ _ z=>⟨z.1,z.2.exv e⟩⟩
 | .dcT _,⟨ws,q,r,l⟩=>⟨ws,h _ q,Paired.mapP r λ_ _ ⟨z,d,k,v,a,r⟩=>⟨z,d,k.exv e,v,a,r.exv e⟩,l⟩
 | .iset _,q=>⟨h _ q.1,q.2⟩
 | .dcF _,⟨ws,⟨o,u,c,f⟩,r,l⟩=>⟨ws,⟨o,u,h _ c,f⟩,Paired.mapP r λ_ _ ⟨z,d,k,v,a,r⟩=>⟨z,d,k.exv e,v,a,r.exv e⟩,l⟩
 | .tst _,⟨ws,q,r⟩=>⟨ws,h _ q,Paired.mapP r λ_ _ ⟨z,d,k,v,a,r⟩=>⟨z,d,k.exv e,v,a,r.exv e⟩⟩
theorem sj(e:H a=Z (.frz o u))(h1:∀xs,u ≠ .tup xs)(h2:∀xs,u ≠ .lst xs):yV mu mu H (upd H a u) where
 pre:=bn
 tup:=λb xs h=>by
  have ne:b≠a:=by
   rintro rfl;rcases h with h|⟨_,h⟩<;>(rw[e]at h;cases h)
   exact h1 _ O
  rcases h with h|⟨c,h⟩
  ·exact .inl (by rw[dY ne];exact h)
  ·exact .inr ⟨c,by rw[dY ne];exact h⟩
 frl:=λb c xs h=>by
  rw[dY (by rintro rfl;rw[e]at h;cases h;exact h2 _ O)];exact h
theorem Sim.thaw(s:Sim K H mu S){d:Ob}(hn:mu[n]?=Z a)(x:yV mu mu H (upd H a u))(ho:kk K (upd H a u) mu a d):Sim K (upd H a u) mu (S.set n d):=by
 refine⟨by rw[aW];exact s.len,s.nd,λk o' b h1 h2=>?_⟩;by_cases c:n=k
 ·subst c;have f:n<S.length:=by
   have:=(gE1.mp h1).1
   rwa [aW]at this
  rw[aI f]at h1;cases h1;rw[hn]at h2;cases h2;exact ho
 ·rw [gS1 c] at h1;have ne:b≠a:=fun e=>by
   subst e;obtain⟨i,h⟩:=gE1.mp hn;obtain⟨j,g⟩:=gE1.mp h2;exact c ((List.getElem_inj s.nd).mp (h.trans g.symm))
  exact(s.ob k o' b h1 h2).exv x λd e=>by rw[dY ne];exact e
theorem Dm(s:Sim K H mu S){ob:Ob}{kvs:List (TK×D)}(h:S[n]? = some ob)(hk:AH ob=some kvs)(hn:mu[n]? = some a):
  ∃xs u,H a=Z u/\yP a xs u/\KT K H mu kvs xs/\xs.length<=dL /\ ∀H' mu',yV mu mu' H H'->H' a=Z u->kk K H' mu' a ob:=by
 cases ob with
 |dcT ks=>
  cases hk;obtain⟨xs,e,r,l⟩:=s.dcT h hn;exact⟨xs,_,e,.ext xs,r,l,λH' mu' x b=>⟨xs,b,Paired.mapP r λ_ _ ⟨z,d,k,v,c,r⟩=>⟨z,d,k.exv x,v,c,r.exv x⟩,l⟩⟩
 |dct ks=>
  cases ks with
  |nil=>
   cases hk;obtain⟨ws,e,r⟩:=s.dct h hn;cases r;exact⟨[],_,e,.dK,.nil,bi _,λH' mu' x b=>⟨[],b,.nil⟩⟩
  |cons _ _=>cases hk
 |_=>cases hk
end
theorem KT.keyOf{K:Fg1}{H:Hp}{mu:List dE}{ks:List (TK×D)}{ws:List (TK×dE×dB)}(h:KT K H mu ks ws){i:Nat}{d:D}(e:(ks.map λq=>tkD q.1)[i]?=Z d){q:TK×dE×dB}(c:ws[i]?=Z q):eH K H mu d (.ref q.2.1):=by
 obtain⟨v,a,b⟩:=h.keys.get e;rw[gP1,c]at a;cases a;exact b
theorem Bi{X:Cx}{K:Fg1}{k:Nat}{keep:List Nat}{m:FE}{g:FG}{t:FT}{b:FV}{tb:dE->TS}(hb:∀ a E σ H,ER K a b E σ H->tb a E σ H){σ:L2.St}{H:Hp}{Q:VK}(h:tM K (lZ k keep m g t b) σ H Q):
  vX k keep (IP X (tM K m)) (Cb K g) (xz K t) tb σ H (λv H'=>∃a o u,H' a=Z (.frz o u)/\(∀xs,u ≠ .tup xs)/\NF X a/\Q v (upd H' a u)):=by
 obtain⟨r,mu,S,d,S',he,hs,s,hc⟩:=h;obtain⟨⟨d1,S1⟩,e1,s⟩:=oB1.mp s;cases d1 with
 |ref n=>
  obtain⟨x,eo,s⟩:=oB1.mp s;obtain⟨kvs,ek,s⟩:=oB1.mp s;obtain⟨⟨ys,r2,am⟩,e2,s⟩:=oB1.mp s;dsimp only at s;split at s
  ·rename_i hl;cases s;refine⟨r,mu,S,.ref n,S1,he,hs,e1,λv H1 mu1 x1 r1 s1=>?_⟩;cases r1 with
   | @ref _ a D=>
   obtain⟨xs,u,ao,A,C,hz,back⟩:=Dm s1 eo ek D;refine⟨a,xs,u,O,ao,A,hz,λo hO nf p f=>?_⟩;have mt:Mut (Z u):=by cases A<;>trivial
   have put:Ext mu1 mu1 H1 (upd H1 a (.frz o u)):=Ext.put ao mt (gM1 D);have sf:Sim K (upd H1 a (.frz o u)) mu1 (S1.set n (.dcF kvs)):=s1.put D ao mt ⟨xs,⟨o,u,d8,hO⟩,KT.ext put C,hz⟩;have l:p≠a:=by rintro rfl;rw[d8]at f;cases f
   have T:Ext mu1 mu1 (upd H1 a (.frz o u)) (upd (upd H1 a (.frz o u)) p (.lst [])):=Ext.fresh f;have hlen:kvs.length=xs.length:=by have:=C.keys.length;simpa using this
   have J1:ItR K (ItD a o xs) ⟨kvs.map λq=>tkD q.1,[]⟩ mu1 (upd H1 a (.frz o u)):=by
    intro i H2 mu2 am x2 s2 _;have hf:=x2.frz a o u d8;refine⟨λd A=>?_,λh=>⟨⟨u,hf⟩,by rw[lM1]at h;lia⟩⟩;have hi:i<xs.length:=by have:=(gE1.mp A).1;rw[lM1]at this;lia
    refine⟨⟨⟨u,hf⟩,hi⟩,?_⟩;rintro y H3 ⟨rfl,q,eq,rfl⟩;exact⟨.refl _ _,s2,((KT.ext put C).keyOf A eq).exw x2⟩
   refine n4 (hb p) J1 T.w d8 (sf.notin f) .nil ((Ei k keep (he.ext (x1.trans put))).ext T) (sf.fresh f) e2 (by simpa using hl) fun σ' H' mu' B I wq U aq he' s'=>?_;have F:H' a=Z (.frz o u):=I.frz a o u (by rw[dY l.symm];exact d8);have h1:∀xs,u ≠ .tup xs:=λxs z=>by subst z;cases A
   have h2:∀xs,u ≠ .lst xs:=λxs z=>by subst z;cases A
   refine⟨a,o,u,F,h1,nf,?_⟩;have G:=(bW.mp I.pre).2;have na:mu'[n]?=Z a:=by
    obtain⟨t,rfl⟩:=G;rw[gL1 (gE1.mp D).1];exact D
   have ne1:∀{b:dE},H1 b=Y->b≠a:=λ{b} z=>by rintro rfl;rw[ao]at z;cases z
   have y:Ext mu1 (mu'++[p]) H1 (upd H' a u):=by
    refine⟨G.trans (bv _ _),λb w e nb=>?_,λb ys e=>?_,λb x w e=>?_,λb V=>?_⟩
    ·have R:b≠a:=λz=>nb (by rw[z];exact gM1 D);have bp:b≠p:=by rintro rfl;rw[dY l,e]at f;cases f
     rw[dY R];exact I.old b w (by rw[dY bp,dY R];exact e) λz=>by
      rcases aF.mp z with z|z
      ·exact bp z
      ·exact nb z
    ·exact(sj (mu:=mu') F h1 h2).tup b ys (I.tup b ys (T.tup b ys (put.tup b ys e)))
    ·have R:b≠a:=by rintro rfl;rw[ao]at e;cases e;cases A
     rw[dY R];exact I.frz b x w (T.frz b x w (put.frz b x w e))
    ·rcases aG.mp V with z|z
     ·rcases I.new b (mC1 _ z)with q|q
      ·rcases aF.mp q with q|q
       ·exact .inr (by rw[q];rw[dY l]at f;exact f)
       ·exact .inl q
      ·by_cases au:b=p
       ·exact .inr (by rw[au];rw[dY l]at f;exact f)
       ·rw[dY au]at q;by_cases P:b=a
        ·exact .inl (by rw[P];exact gM1 D)
        ·rw[dY P]at q;exact .inr q
     ·have:b=p:=by simpa using z
      exact .inr (by rw[this];rw[dY l]at f;exact f)
   have tx:=sj (mu:=mu') F h1 h2;have L:Sim K (upd H' a u) mu' (am.set n x):=s'.thaw na tx (back _ _ ⟨G,y.tup,λb x w e=>y.frz b x _ e⟩ d8);have N:upd H' a u p=Z (.lst B):=by rw[dY l];exact wq
   refine hc _ _ (mu'++[p]) (x1.trans y) (by rw[show am.length=(am.set n x).length by simp];exact .ref (fQ L.len p)) ⟨by rw[lA1,lA1,L.len];rfl,?_,λj w b h1 h2=>?_⟩
   ·rw[bA];refine⟨L.nd,by simp,λb hb c hc e=>?_⟩;have:c=p:=by simpa using hc
    subst this;subst e;exact U hb
   ·by_cases C:j<(am.set n x).length
    ·rw[gL1 C]at h1;rw[gL1 (by rw[L.len];exact C)]at h2;exact(L.ob j w b h1 h2).mor [p]
    ·have W:j=(am.set n x).length:=by
      have:=(gE1.mp h1).1;rw[lA1]at this;simp at this C;simp;lia
     subst W;rw[gR1 (nR1 _)]at h1;rw[<- L.len,gR1 (nR1 _)]at h2;simp at h1 h2;subst h1;subst h2;exact⟨B,N,((by simpa using aq:d2 K H' mu' ys B).exv tx).mor [p]⟩
  ·cases s
 |_=>cases s
theorem pk{X:Cx}{elt tg iter:Expr}{ifs:List Expr}{scope:dS}{pos:Pos}{T:List Str}{keep:List Nat}{k:List (Str×dE)}{m:FE}{g:FG}{t:FT}{e:FE}(hc:X.calm=M)(C:Ho X scope T keep)(i:iY X.env.cells scope.names []=Z k)(hi:XE X iter m)(hb:∀s H b,JQ (cxC X scope k T keep s H b) X.K tg ifs elt g t e)(hs:∀x,foldedSetIterable iter X.env x=pure x:=by intro _;rfl):XE X (.ListComp elt [⟨tg,iter,ifs,0⟩] scope pos) (lZ T.length keep m g t (eD e)):=by
 refine⟨λag s σ H Q I h=>?_⟩;have n:=wf (g:=Cb X.K g) (ti:=xz X.K t) (emit:=mD elt) (tb:=λp=>px p (tM X.K e)) hc (λit f d=>uI elt tg iter ifs scope pos it f d) C i (Fs (tg:=tg) hi.h) (λs H b p=>⟨(hb s H b).g.h,(hb s H b).t.h,m5 (hb s H b).e.h p⟩) hs;refine wpAny_mono (n ag s σ H _ I (Bi (λa E σ H q=>ll q) h)) ?_ λ_ _ x=>x;rintro v w ⟨x,H2,l,r2,a,o,u,j,y,r,q⟩;exact⟨x,upd H2 a u,tF l j r (λc z=>by cases z) (λc z=>by cases z) (l.hok a _ j).2,r2,q⟩
theorem vK.lt{xs:Array Nat}(h:vK xs){a b u v:Nat}(e:a<b)(c:xs[a]?=Z u)(d:xs[b]?=Z v):u<v:=by
 rw[<- aT1]at c d;obtain⟨g,c⟩:=gE1.mp c;obtain⟨f,d⟩:=gE1.mp d;have:=cw.mp h a b g f e;rw[c,d]at this;exact this
structure Bs (xs:Array Nat)(j i:Nat):Prop where
 le:i<=xs.size
 lo:∀k v,xs[k]?=some v->k<i->v<j
 hi:∀k v,xs[k]?=some v->i<=k->j<=v
theorem Bs.uniq{xs:Array Nat}{j i i':Nat}(h:Bs xs j i)(h':Bs xs j i'):i=i':=by
 rcases Nat.lt_trichotomy i i' with z|z|z
 ·have a:i<xs.size:=nL1 z h'.le;have e:=aG1 a;have:=h.hi _ _ e (nR1 _);have:=h'.lo _ _ e z;lia
 ·exact z
 ·have a:i'<xs.size:=nL1 z h.le;have e:=aG1 a;have:=h'.hi _ _ e (nR1 _);have:=h.lo _ _ e z;lia
theorem Bq{xs:Array Nat}{j:Nat}(hr:vK xs):∀n lo hi:Nat,lo<=hi->hi<=xs.size->hi-lo<=n->(∀k v,xs[k]?=Z v->k<lo->v<j)->(∀k v,xs[k]?=Z v->hi<=k->j<=v)->Bs xs j (SetTable.below.go xs j n lo hi)
 |0,lo,hi,h1,h2,g,a,b=>by
  have:lo=hi:=by lia
  subst this;exact⟨h2,a,b⟩
 |n + 1,lo,hi,h1,h2,g,a,b=>by
  rw[SetTable.below.go];by_cases d:lo<hi
  ·rw[ak d];have f:(lo+hi)/2<xs.size:=by lia
   have c:=aG1 f;have h:xs.getD ((lo+hi)/2) j=xs[(lo+hi)/2]:=by simp[Array.getD,f]
   dsimp only;rw[h];by_cases hc:xs[(lo+hi)/2]<j
   ·rw[ak hc];refine Bq hr n _ _ (by lia) h2 (by lia) (λk v e i=>?_) b;rcases bV k ((lo+hi)/2)with z|z
    ·have:=hr.lt z e c;lia
    ·have:k=(lo+hi)/2:=by lia
     subst this;rw[c]at e;cases e;exact hc
   ·rw[aj hc];refine Bq hr n _ _ (by lia) (by lia) (by lia) a λk v e i=>?_;rcases bV ((lo+hi)/2) k with z|z
    ·have:=hr.lt z c e;lia
    ·have:k=(lo+hi)/2:=by lia
     subst this;rw[c]at e;cases e;lia
  ·rw[aj d];have:lo=hi:=by lia
   subst this;exact⟨h2,a,b⟩
theorem oE{xs:Array Nat}(hr:vK xs)(j:Nat):Bs xs j (SetTable.below xs j):=
 Bq hr _ 0 _ (bi _) (nR1 _) (by lia) (λ_ _ _ h=>absurd h (bw _)) λk v e h=>by
  have:=(Array.getElem?_eq_some_iff.mp e).1;lia
theorem tH{α:Type}(xs:Array α)(p:Nat)(x:α):(SetTable.insertAt xs p x).toList=xs.toList.take p++x::xs.toList.drop p:=by
 unfold SetTable.insertAt;rw[cy,cq,cA,cA];simp[List.extract_eq_drop_take];rw[b8 (by simp)]
theorem Cj{xs:Array Nat}(hr:vK xs){j:Nat}(hn:xs[SetTable.below xs j]? ≠ Z j):vK (SetTable.insertAt xs (SetTable.below xs j) j):=by
 have b:=oE hr j;unfold vK;rw[tH,cB,ca];have lo:∀v∈xs.toList.take (SetTable.below xs j),v<j:=λv h=>by
  obtain⟨k,d⟩:=bq h;rw[List.getElem?_take]at d;split at d
  ·rename_i f;exact b.lo k v (by rw[<- aT1];exact d) f
  ·cases d
 have hi:∀v∈xs.toList.drop (SetTable.below xs j),j<v:=λv h=>by
  obtain⟨k,d⟩:=bq h;rw[cC,aT1]at d;have h1:=b.hi _ v d (br _ _);rcases bV j v with z|z
  ·exact z
  ·exfalso;have g:v=j:=by lia
   subst g;cases k with
   |zero=>exact hn d
   |succ k=>
    have l:SetTable.below xs v<xs.size:=by have:=(Array.getElem?_eq_some_iff.mp d).1;lia
    have e:=aG1 l;have:=b.hi _ _ e (nR1 _);have:=hr.lt (by lia) e d;lia
 refine⟨hr.sublist (aU _ _),⟨hi,hr.sublist (cD _ _)⟩,λa i c hc=>?_⟩;rcases aF.mp hc with z|z
 ·rw[z];exact lo a i
 ·exact bh (lo a i) (hi c z)
structure TS (l:Bool)(t:SetTable):Prop where
 up:vK t.place
 du:t.dummies = #[]
 ld:t.led=l
theorem s0{t:SetTable}(hd:t.dummies = #[])(j:Nat):SetTable.has t.dummies j=J:=by rw[hd];rfl
theorem pz{t:SetTable}(hd:t.dummies = #[]){f:Nat->Int}{h:Int}:∀(n:Nat) (p:SetTable.Probe) (j:Nat) (d:Option Nat),p.dummy=Y->SetTable.probe.go t f h n p=Z (.empty j d)->d=Y/\t.place[SetTable.below t.place j]? ≠ Z j
 |0,p,j,d,_,e=>by rw[SetTable.probe.go]at e;cases e
 |n+1,p,j,d,hp,e=>by
  have a:(t.advance p).dummy=Y:=by
   unfold SetTable.advance;split
   ·exact hp
   ·dsimp only;exact hp
  rw[SetTable.probe.go]at e;unfold SetTable.slot at e;dsimp only at e;rw[s0 hd]at e;by_cases hc:(t.place[SetTable.below t.place p.j]? == Z p.j)=M
  ·rw[ak hc]at e;dsimp only at e;split at e
   ·cases e
   ·exact pz hd n _ j d a e
  ·rw[aj hc,aj (by decide)]at e;dsimp only at e;cases e;refine⟨hp,λz=>hc ?_⟩;rw[z];simp
theorem DH{t:SetTable}(hd:t.dummies = #[]){h:Int}{j:Nat}{b:Bool}(e:t.freeSlot h=Z (j,b)):t.place[SetTable.below t.place j]? ≠ Z j:=by
 unfold SetTable.freeSlot at e;split at e
 ·rename_i c d ep;obtain⟨rfl,a⟩:=pz hd _ _ _ _ O ep;cases e;exact a
 ·cases e
theorem kx{l:Bool}{t:SetTable}(h:TS l t)(n:Nat):TS l (t.standIn n):=by
 refine⟨?_,O,h.ld⟩;show(Array.range n).toList.Pairwise (· < ·);rw[Array.toList_range];exact cE
theorem HA{l:Bool}{t:SetTable}(h:TS l t)(n:Nat):TS l (t.orStandIn n):=by
 unfold SetTable.orStandIn;split
 ·exact h
 ·exact kx h n
theorem EL{l:Bool}{t:SetTable}(ht:TS l t)(es:Array (Int×dB))(h:Int)(x:dB):TS l (layNew t es h x).2.1:=by
 unfold layNew;split
 ·rename_i j b e;show TS l ((t.put j).1.orStandIn _);refine HA (t:=(t.put j).1) ⟨?_,?_,ht.ld⟩ _
  ·exact Cj ht.up (DH ht.du e)
  ·show(if SetTable.has t.dummies j=M then _ else t.dummies) = #[];rw[s0 ht.du,aj (by decide)];exact ht.du
 ·exact kx ht _
theorem rO{α:Type}(f:Nat->Option α):∀l:List Nat,((l.filterMap λj=>(f j).map (j,·)).map (·.1)).Sublist l
 |[]=>.slnil
 |a::l=>by
  rw[aE];cases f a with
  |none=>exact(rO f l).cons a
  |some x=>exact(rO f l).cons₂ a
theorem B8{l p:Bool}{m d c:Nat}{hs:Array Int}{t:SetTable}{a:Array Nat}(e:SetTable.laid m d c l p hs=Z (t,a)):TS l t:=by
 unfold SetTable.laid at e;obtain⟨b,_,e⟩:=oB1.mp e;cases e;refine⟨?_,O,O⟩;unfold vK;dsimp only;exact List.pairwise_lt_range.sublist (by simpa using rO (λj=>b.getD j Y) (af (m+1)))
theorem y9{l:Bool}{t:SetTable}(ht:TS l t)(es:Array (Int×dB))(n:Nat):TS l (relayAll t es n).2.1:=by
 unfold relayAll;split
 ·rename_i b a e;dsimp only;split
  ·have:=B8 e;rw[ht.ld]at this;exact this
  ·exact kx ht _
 ·exact kx ht _
theorem za(l:Bool):TS l (SetTable.fresh 0 0 l):=⟨List.Pairwise.nil,O,O⟩
theorem DW{xs:Array Nat}(hr:vK xs){i:Nat}(hi:i<xs.size):SetTable.below xs (xs[i]+1)=i+1:=by
 refine(oE hr _).uniq ⟨hi,λk v e a=>?_,λk v e a=>?_⟩
 ·rcases bV k i with z|z
  ·have:=hr.lt z e (aG1 hi);lia
  ·have:k=i:=by lia
   subst this;rw[aG1 hi]at e;cases e;lia
 ·have:=hr.lt (show i<k by lia) (aG1 hi) e;lia
theorem Bp{xs:Array Nat}(hr:vK xs):SetTable.below xs 0=0:=
 (oE hr _).uniq ⟨bi _,λk v e a=>absurd a (bw _),λk v e a=>bi _⟩
noncomputable def Ku(e:Int×dB):Int:=match e.2 with
 | .int k _=>k
 |_=>0
structure Els (es:Array (Int×dB))(ns:List Int):Prop where
 el:∀e∈es.toList,∃k t,e=(hashInt k,Value.int k t)
 pm:(es.toList.map Ku).Perm ns
theorem Els.of{P:dF}{w:dH}{es:Array (Int×dB)}{ns:List Int}(h:Els es ns):ElemsOf (intKind P w) es.toList:=λe a=>by
 obtain⟨k,t,rfl⟩:=h.el e a;exact⟨⟨k,intKind_is _ _ _ _,O⟩,O⟩
theorem Els.size{es:Array (Int×dB)}{ns:List Int}(h:Els es ns):es.size=ns.length:=by
 have:=h.pm.length_eq;rw[lM1,aJ]at this;exact this
theorem Els.perm{es fs:Array (Int×dB)}{ns:List Int}(h:Els es ns)(p:fs.toList.Perm es.toList):Els fs ns:=
 ⟨λe a=>h.el e (p.mem_iff.mp a),(p.map _).trans h.pm⟩
theorem Els.add{es fs:Array (Int×dB)}{ns:List Int}(h:Els es ns){k:Int}{t:Tok}(p:fs.toList.Perm (es.push (hashInt k,.int k t)).toList):Els fs (ns++[k]):=by
 rw[cq]at p;refine⟨λe a=>?_,?_⟩
 ·rcases aG.mp (p.mem_iff.mp a)with z|z
  ·exact h.el e z
  ·simp at z;exact⟨k,t,z⟩
 ·refine(p.map _).trans ?_;rw[cu];exact h.pm.append (.refl _)
def ju(b:Bool)(p:dE)(ns:List Int)(h:dP):Prop:=∃es ep t l,h.get? p=Z (stO es ep t)/\Els es ns/\es.size<scanBound/\t.fits es.size=M/\TS l t/\(b=J->l=M)
section
variable{P:dF}{w:dH}{A:dG}{E:dB->dD->Prop}{s:dD}{b:Bool}{p:dE}{ns:List Int}
theorem zE{es fs:Array (Int×dB)}{ep:Nat}{t u:SetTable}{h:dP}(e:h.get? p=Z (stO es ep t)):(h.update p (Obj.putSet fs u)).get? p=Z (stO fs (ep+1) u):=by
 have:=hW1 (Obj.putSet fs u) e (by rw[putSet_of fs u O];rfl);rw[putSet_of fs u O]at this;exact this
theorem gw{c:Bool}{Q:Unit->dD->Prop}(q:Q () s):dM (model P w) A (match c with
  |true=>rule "set.scan.the-table-gave-way"
  |false=>pure ()) Q E s:=by cases c<;>first|exact wP1 q|exact wpAny_rule q
theorem KD{k:Int}{tk:Tok}{Q:Bool->dD->Prop}(X:ju b p ns s.heap)(hr:ns.length+1<scanBound)(q:∀c h',Heap.SameBut p s.heap h'->ju b p (step_dedup ns k) h'->Q c {s with heap:=h'}):dM (model P w) A (setAddHashed p (.int k tk) (hashInt k)) Q E s:=by
 obtain⟨es,ep,t,l,g,a,R,C,U,am⟩:=X;have hz:=a.size;have N:ElemsOf (intKind P w) es.toList:=a.of;unfold setAddHashed setAddHashedIn;refine wpAny_holding (wB1 (wpAny_setState_of g O C ?_));dsimp only;rw[byScan_of (knd:=intKind P w) O R N,ak O];unfold setAddByScan;refine wB1 (wB1 (wpAny_rule (wB1 (wpAny_setScan_of (knd:=intKind P w) (k:=k) (intKind_is _ _ _ _) g O C N ?_))));cases hx:List.findIdx? (λe=>(intKind P w).is k e.2) es.toList with
 |some j=>
  obtain⟨T,i,_⟩:=b6.mp hx;have G:k∈ns:=by
   refine a.pm.mem_iff.mp (cc.mpr ⟨_,bS T,?_⟩);obtain⟨k',wq,e⟩:=a.el _ (bS T);rw[e]at i ⊢;exact((intKind P w).inj _ _ _ i (intKind_is P w k' wq)).symm
  have B:step_dedup ns k=ns:=by unfold step_dedup;rw[ak (bR.mpr ⟨k,G,by simp⟩)]
  rw[B]at q;exact wP1 (wP1 (q _ s.heap (Heap.SameBut.refl p s.heap) ⟨es,ep,t,l,g,a,R,C,U,am⟩))
 |none=>
  have B:step_dedup ns k=ns++[k]:=by
   unfold step_dedup;rw[aj λz=>?_];obtain⟨k',G,e⟩:=bR.mp z;have e:=beq_iff_eq.mp e;subst e;obtain⟨x,m,d⟩:=cc.mp (a.pm.mem_iff.mpr G);obtain⟨n,h,rfl⟩:=a.el x m;have d:n=k':=d;subst d;have:=List.findIdx?_eq_none_iff.mp hx _ m;rw[show(intKind P w).is n (hashInt n,Value.int n h).2=M from intKind_is _ _ _ _]at this;cases this
  rw[B]at q;have F:=layNew_perm t es (hashInt k) (.int k tk);have H:=layNew_fits t es (hashInt k) (.int k tk);have o:=EL U es (hashInt k) (.int k tk);dsimp only;generalize layNew t es (hashInt k) (.int k tk)=L at F H o ⊢;obtain⟨fs,u,aq,gv⟩:=L;dsimp only at F H o ⊢;have y:Els fs (ns++[k]):=a.add F;have D:fs.size<scanBound:=by rw[y.size,lA1];exact hr
  refine wB1 (gw ?_);have tail:∀ (c:Bool),dM (model P w) A (do
    storeSet p fs u
    if (!aq&&u.tooFull)=true then do
      (match (relayAll u fs (SetTable.grown fs.size)).2.2 with
       |true=>rule "set.scan.the-table-gave-way"
       |false=>pure ())
      storeSet p (relayAll u fs (SetTable.grown fs.size)).1 (relayAll u fs (SetTable.grown fs.size)).2.1
      pure (Z M)
     else pure (Z M)) (λr s'=>dM (model P w) A (match r with
      |some f=>pure f
      |none=>setAddHashedIn p (.int k tk) (hashInt k) 99999) Q E s') E s:=λ_=>by
   refine wB1 (wpAny_storeSet_of g O ?_ (fits_of_scanBound D));have I:=zE (fs:=fs) (u:=u) g;have V:=Heap.SameBut.update s.heap p (Obj.putSet fs u);split
   ·have p2:=relayAll_perm u fs (SetTable.grown fs.size);have K:=relayAll_fits u fs (SetTable.grown fs.size);have h:=y9 o fs (SetTable.grown fs.size);generalize relayAll u fs (SetTable.grown fs.size)=L2 at p2 K h ⊢;obtain⟨ao,v,W⟩:=L2;dsimp only at p2 K h ⊢;have au:=y.perm p2;have S:ao.size<scanBound:=by rw[au.size,<- y.size];exact D
    refine wB1 (gw (wB1 (wpAny_storeSet_of I O ?_ (fits_of_scanBound S))));exact wP1 (wP1 (q _ _ (V.trans (Heap.SameBut.update _ p _)) ⟨ao,_,v,l,zE I,au,S,K,h,am⟩))
   ·exact wP1 (wP1 (q _ _ V ⟨fs,_,u,l,I,y,D,H,o,am⟩))
  split
  ·refine wB1 (wP1 ?_);exact tail M
  ·refine wB1 (wP1 ?_);exact tail M
end
section
variable{P:dF}{w:dH}{A:dG}{E:dB->dD->Prop}{s:dD}
noncomputable def byT(w:dH):Bool:=w.params.followText "set-order"
theorem CP(x:dB){G:dB->dD->Prop}(q:G (.ref s.heap.objs.size) {s with heap:=s.heap.push (stO #[] 0 (.fresh 0 0 (!byT w)))}):
  dN (model P w) A (.call (.builtin "set.__new__") ⟨[.type "set",x],[]⟩) (wants G E) s:=by
 refine codeAny_of_tree (?_:dM _ A.in1 (do checkBuiltinCall "set.__new__" ⟨[.type "set",x],[]⟩;again (.builtin "set.__new__" ⟨[.type "set",x],[]⟩)) _ _ s);refine wB1 (wpAny_of_eq (PySem.F.newCall_set_1 x) (wP1 ⟨plainId_quiet PySem.F.plain_set_new _,wD1 PySem.F.entry_set_new (?_:_)⟩));rw[Around.under_plainId PySem.F.plain_set_new _];unfold Builtin.«set.__new__» Builtin.Frozenset.newClass;have a:=sub_set_self;obtain⟨b,g,d,tk,c⟩:=s;dsimp only
 wp_walk
 refine wpAny_askSetting (wP1 (?_:_));dsimp only;simp only[newObj];exact wB1 (wpAny_alloc (wP1 (wP1 q)))
end
section
variable{P:dF}{w:dH}{A:dG}{E:dB->dD->Prop}{b:Bool}
theorem ju.old{p:dE}{ns:List Int}{h h':dP}(x:ju b p ns h)(k:∀o,h.get? p=Z o->h'.get? p=Z o):ju b p ns h':=by
 obtain⟨es,ep,t,l,e,r⟩:=x;exact⟨es,ep,t,l,k _ e,r⟩
theorem ou:∀(ns acc:List Int),(ns.foldl step_dedup acc).length<=acc.length+ns.length
 |[],acc=>by simp
 |n::ns,acc=>by
  rw[b9];have h1:=ou ns (step_dedup acc n);have h2:(step_dedup acc n).length<=acc.length+1:=by unfold step_dedup;split<;>simp
  rw[lC1];lia
end
theorem i4:Slot "set_iterator" "__next__" "set_iterator.__next__":=
 .of (owner:="set_iterator") (n:="__next__") (by rw[typeLookup_type,builtinLookup_eq_fast];kernel_rfl) (by decide+kernel) (by decide+kernel) (by decide+kernel) (by first|exact .inl (by decide+kernel)|exact .inr (by decide+kernel)) (by rw[isSubtype_type];kernel_rfl)
theorem qf:entryFor table "set_iterator.__next__"=Z Builtin.«set_iterator.__next__» :=entryFor_of_tree (by kernel_rfl)
theorem ue(x:dB):argsOk "set_iterator.__next__" ⟨[x],[]⟩:=by unfold argsOk;kernel_rfl
theorem tR:entryFor table "set.__iter__"=Z Builtin.«frozenset.__iter__» :=entryFor_alias (id':="frozenset.__iter__") (by kernel_rfl) O (by decide+kernel) (by kernel_rfl)
abbrev Hh(h:dP)(it a:dE)(f:dB)(i n ep:Nat):Prop:=h.get? it=Z {cls:=.type "set_iterator",dict:=Y,data:=.fields #[f,.int i 0,.ref a,.int n 0,.int ep 0],slots:= #[]}
noncomputable def lM(t:SetTable)(i:Nat):Nat:=match i with
 |0=>0
 |i+1=>t.place.getD i 0+1
inductive ug (w:dH)(h:dP)(a:dE)(es:Array (Int×dB))(ep:Nat)(t:SetTable):dB->Nat->List dB->Prop
 |txt (b:byT w=true) (i:Nat) (sl:Nat):ug w h a es ep t (.int sl 0) i ((pickOrder (w.params.setOrder a ep) es).toList.map (·.2))
 |drw (b:byT w=false) (d:(!t.plain&&decide (es.size>1))=true) (i:Nat) (tp:dE) (ps:List Nat) (e:h.get? tp=some {cls:=.type "tuple",data:=.seq (ps.map λj=>Value.int (j:Nat) 0).toArray}) (pm:ps.Perm (af es.size)):ug w h a es ep t (.ref tp) i (ps.map λj=>(es[j]?.map (·.2)).getD .none)
 |plc (b:byT w=false) (d:(!t.plain&&decide (es.size>1))=false) (ld:t.led=true) (up:vK t.place) (i:Nat):ug w h a es ep t (.int (lM t i) 0) i (es.toList.map (·.2))
theorem pI{α:Type}(f:Nat->Nat):∀(n k:Nat) (l:List α) (out:Array α),l.length=n->(pickOrder.go f n k l out).toList.Perm (out.toList++l)
 |0,k,l,out,h=>by
  rw[pickOrder.go,cm.mp h,aN]
 |n+1,k,l,out,h=>by
  have b:f k%l.length<l.length:=Nat.mod_lt _ (by lia);rw[pickOrder.go,gG1 b];refine(pI f n (k+1) _ _ (by rw[cF b];lia)).trans ?_;rw[cq,bH];refine List.Perm.append_left _ ?_;have c:l=l.take (f k%l.length)++l[f k%l.length]::l.drop (f k%l.length+1):=by rw[List.getElem_cons_drop,cG]
  rw[cH];refine List.Perm.trans ?_ (List.Perm.of_eq c.symm);exact(List.perm_middle (l₁:=l.take (f k%l.length)) (l₂:=l.drop (f k%l.length+1)) (a:=l[f k%l.length])).symm
theorem ug.perm{w:dH}{h:dP}{a:dE}{es:Array (Int×dB)}{ep:Nat}{t:SetTable}{f:dB}{i:Nat}{pl:List dB}(y:ug w h a es ep t f i pl):pl.Perm (es.toList.map (·.2)):=by
 cases y with
 |txt=>exact(pI _ _ _ _ _ O).map _
 |drw _ _ _ d ps e c=>
  refine(c.map _).trans ?_;have:(af es.size).map (λj=>(es[j]?.map (·.2)).getD .none)=es.toList.map (·.2):=by
   apply bZ;intro j;rw[gP1,gP1,aT1 (xs:=es)];by_cases b:j<es.size
   ·rw[cI b,oP1,aG1 b];rfl
   ·rw[b4 (by simpa using b),cp (by lia)];rfl
  rw[this]
 |plc=>exact .refl _
theorem ug.len{w:dH}{h:dP}{a:dE}{es:Array (Int×dB)}{ep:Nat}{t:SetTable}{f:dB}{i:Nat}{pl:List dB}(y:ug w h a es ep t f i pl):pl.length=es.size:=by
 rw[y.perm.length_eq,lM1,aJ]
section
variable{P:dF}{w:dH}{A:dG}{E:dB->dD->Prop}{s:dD}{it a:dE}{f:dB}{i ep:Nat}{es:Array (Int×dB)}{t:SetTable}{pl:List dB}
theorem qx{Q:Bool->dD->Prop}(q:Q (byT w) s):dM (model P w) A setsByText Q E s:=by unfold setsByText;exact wB1 (wpAny_askSetting (wP1 q))
theorem zr{sl:Nat}{Q:Option (dB×Nat)->dD->Prop}(b:byT w=M)(ho:s.heap.get? a=Z (stO es ep t))(hf:t.fits es.size=M)(q:Q (((pickOrder (w.params.setOrder a ep) es)[i]?).map λe=>(e.2,sl)) s):dM (model P w) A (setNext a sl i ep) Q E s:=by
 unfold setNext;refine wB1 (wpAny_setState_of ho O hf (wB1 (qx ?_)));rw[b,ak O,aj (by simp)];refine wB1 ?_;unfold setWalk;refine wB1 (wpAny_setState_of ho O hf (wB1 (qx ?_)));rw[b,ak O];exact wB1 (wpAny_askSetting (wP1 (wP1 q)))
theorem DX(a:vK t.place)(hi:i<=t.place.size):SetTable.below t.place (lM t i)=i:=by
 cases i with
 |zero=>exact Bp a
 |succ j=>
  have b:j<t.place.size:=hi;show SetTable.below t.place (t.place.getD j 0+1)=j+1;rw[show t.place.getD j 0=t.place[j]from by simp[Array.getD,b]];exact DW a b
theorem zt{Q:Option (dB×Nat)->dD->Prop}(b:byT w=J)(d:(!t.plain&&decide (es.size>1))=J)(g:t.led=M)(j:vK t.place)(ho:s.heap.get? a=Z (stO es ep t))(hf:t.fits es.size=M)(hi:i<=es.size)(q:Q ((es[i]?).map λe=>(e.2,lM t (i+1))) s):dM (model P w) A (setNext a (lM t i) i ep) Q E s:=by
 have k:t.place.size=es.size:=by
  unfold SetTable.fits at hf;rw[bA1,beq_iff_eq]at hf;exact hf.1
 unfold setNext;refine wB1 (wpAny_setState_of ho O hf (wB1 (qx ?_)));rw[b,aj (by decide)];rw[aj (λz=>by have f:(!t.plain&&decide (es.size>1))=M:=z;rw[d]at f;cases f)];refine wB1 ?_;show dM _ _ (if(!t.led && !es.isEmpty)=M then _ else _) _ _ _;rw[aj (by rw[g];simp)];refine wP1 ?_;dsimp only;rw[DX j (by omega)];by_cases c:i<es.size
 ·rw [aG1 c] at q ⊢;rw [aG1 (show i<t.place.size by omega)];have h:lM t (i+1)=t.place[i]+1:=by
   show t.place.getD i 0+1=_;rw[show t.place.getD i 0=t.place[i]from by simp[Array.getD,show i<t.place.size by omega]]
  rw[h]at q;exact wP1 q
 ·rw[cp (by omega)]at q ⊢;exact wP1 q
theorem B1{Q:Option dB->dD->Prop}(k:Hh s.heap it a f i es.size ep)(ho:s.heap.get? a=Z (stO es ep t))(hf:t.fits es.size=M)(y:ug w s.heap a es ep t f i pl){x:dB}(hx:pl[i]? = Z x)(N:∀ g,f = .ref g->g≠it)(q:∀h' h,Hh h' it a h (i+1) es.size ep->(∀c o,c≠it->s.heap.get? c=Z o->h'.get? c=Z o)->ug w h' a es ep t h (i+1) pl->(∀g,h = .ref g->f = .ref g)->Q (Z x) {s with heap:=h'}):dM (model P w) A (pyNext (.ref it)) Q E s:=by
 have I:s.TypeIs (.ref it) "set_iterator":=⟨_,k,O⟩;unfold pyNext;refine wB1 (wpAny_attempt (wpAny_callSpecial?_slot (name:=Str.ofString "__next__") I i4 (wE1 i4 I qf ?_ (ue _))));refine wB1 (wP1 (wB1 (wpAny_fieldsOf k O ?_)));dsimp only;refine wB1 (wpAny_setEntries_of ho O hf ?_);rw[aj (by simp)];have R:i<es.size:=by have:=(gE1.mp hx).1;rw[y.len]at this;exact this
 have two:∀ (h:dB),(∀ g,h = .ref g->f = .ref g)->(∀ h',(∀ c o,c≠it->s.heap.get? c=some o->h'.get? c=some o)->ug w h' a es ep t h (i+1) pl) ->
   dM (model P w) A.in1 (setField (.ref it) 0 h >>= fun _=>setField (.ref it) 1 (rawInt ((i:Int)+1)) >>= fun _=>ret x) (fun u s'=>∃ v,u=Fin.done (Flow.ret v)/\dM (model P w) A (pure (some v)) Q E s') (fun e s'=>dM (model P w) A (do
     let y<-isInstance e (.type "StopIteration")
     if y=M then pure Y else throw e) Q E s') s:=λh L au=>by
  refine wB1 (wS1 k (by simp) λh1 ao C=>wB1 (wS1 (s:={s with heap:=h1}) ao (by simp) λh2 B l=>wP1 ⟨_,O,wP1 ?_⟩));have n:∀c o,c≠it->s.heap.get? c=Z o->h2.get? c=Z o:=λc o hc e=>l.extBut c o hc (C.extBut c o hc e);refine q h2 h ?_ n (au h2 n) L;have e:((i+1:Nat):Int)=(i:Int)+1:=by lia
  unfold Hh;rw[e];simpa[rawInt]using B
 cases y with
 |txt b _ r=>
  refine wB1 (zr (i:=i) (sl:=r) (ep:=ep) b ho hf ?_);rw[gP1,aT1]at hx;obtain⟨e,D,rfl⟩:=oM1.mp hx;rw[D];exact two (.int r 0) (λg z=>by cases z) λh' _=>.txt b _ r
 |plc b d F H _=>
  refine wB1 (zt (i:=i) b d F H ho hf (by lia) ?_);rw[gP1,aT1]at hx;obtain⟨e,D,rfl⟩:=oM1.mp hx;rw[D];exact two (.int (lM t (i+1)) 0) (λg z=>by cases z) λh' _=>.plc b d F H _
 |drw b d _ g ps e K=>
  rw[gP1]at hx;obtain⟨j,am,rfl⟩:=oM1.mp hx;have m:j<es.size:=by have:=K.mem_iff.mp (gM1 am);simpa using this
  refine wB1 (wpAny_seqItems e O ?_);have p:((ps.map λj=>Value.int (j:Nat) 0).toArray)[((i:Int)).toNat]?=Z (.int (j:Nat) 0):=by
   rw[Int.toNat_natCast,cg,gP1,am];rfl
  dsimp only;rw[p];dsimp only;refine wB1 ?_;unfold setNextDrawn;refine wB1 (wpAny_setState_of ho O hf ?_);dsimp only;rw[aj (by simp),Int.toNat_natCast,aG1 m];refine wP1 (wB1 (wS1 k (by simp) λh2 B l=>wP1 ⟨_,O,wP1 ?_⟩));have n:∀c o,c≠it->s.heap.get? c=Z o->h2.get? c=Z o:=λc o hc e=>l.extBut c o hc e;have G:=q h2 (.ref g) ?_ n (.drw b d _ g ps (n g _ (N g O) e) K) λ_ z=>z
  ·rw[aG1 m]at G;exact G
  ·have e:((i+1:Nat):Int)=(i:Int)+1:=by lia
   unfold Hh;rw[e];simpa[rawInt]using B
theorem uJ{Q:Option dB->dD->Prop}{G:Fin->dD->Prop}(d:A.handled=none)(q:∀ h',(∀ c o,s.heap.get? c=some o->h'.get? c=some o)->Q none {s with heap:=h'}):
  dM (model P w) A.in1 (newExc (.type "StopIteration") [] >>= fun e=>raiseNew e) G (fun e s'=>dM (model P w) A (do
     let y<-isInstance e (.type "StopIteration")
     if y=M then pure Y else throw e) Q E s') s:=by
 refine wB1 ?_;simp only[newExc,newTuple];refine wB1 (wO1 ?_ (by size_fits));refine wB1 (m:=firstArgMember _ _) (wpAny_of_eq (a:=Value.none) (by first|rfl|(simp only[firstArgMember];rfl)) ?_);refine wO1 ?_ (by size_fits);simp only[raiseNew];refine wB1 (wpAny_handled ?_);rw[show A.in1.handled=Y from d];refine wB1 (wP1 (wpAny_throw (?_:_)));refine wB1 (wpAny_isInstance (b:=M) (T:="StopIteration") ⟨_,hS1 _ O,O⟩ isSubtype_stop (?_:_));exact wP1 (q _ λb o e=>hP1 _ (hP1 _ e))
theorem EA{Q:Option dB->dD->Prop}(m:A.handled=Y)(h:Hh s.heap it a f es.size es.size ep)(ho:s.heap.get? a=Z (stO es ep t))(hf:t.fits es.size=M)(y:ug w s.heap a es ep t f es.size pl)(q:∀h',(∀c o,c≠it->s.heap.get? c=Z o->h'.get? c=Z o)->Q Y {s with heap:=h'}):dM (model P w) A (pyNext (.ref it)) Q E s:=by
 have u:s.TypeIs (.ref it) "set_iterator":=⟨_,h,O⟩;unfold pyNext;refine wB1 (wpAny_attempt (wpAny_callSpecial?_slot (name:=Str.ofString "__next__") u i4 (wE1 i4 u qf ?_ (ue _))));refine wB1 (wP1 (wB1 (wpAny_fieldsOf h O ?_)));dsimp only;refine wB1 (wpAny_setEntries_of ho O hf ?_);rw[aj (by simp)];have l:=y.len;cases y with
 |txt b _ z=>
  refine wB1 (zr (i:=es.size) (sl:=z) (ep:=ep) b ho hf ?_);rw[cp (by rw[lM1,aJ]at l;lia)];refine wB1 (wS1 h (by simp) λh1 p g=>?_);exact uJ (s:={s with heap:=h1}) m λh' k=>q h' λc o hc e=>k c o (g.extBut c o hc e)
 |plc b d v x _=>
  refine wB1 (zt (i:=es.size) (ep:=ep) b d v x ho hf (nR1 _) ?_);rw[cp (nR1 _)];refine wB1 (wS1 h (by simp) λh1 p g=>?_);exact uJ (s:={s with heap:=h1}) m λh' k=>q h' λc o hc e=>k c o (g.extBut c o hc e)
 |drw b d _ D ps e B=>
  refine wB1 (wpAny_seqItems e O ?_);have r:((ps.map λj=>Value.int (j:Nat) 0).toArray)[((es.size:Int)).toNat]?=Y:=by
   rw[Int.toNat_natCast,cg,b4 (by rw[lM1]at l ⊢;lia)]
  dsimp only;rw[r];dsimp only;refine wB1 (wS1 h (by simp) λh1 p g=>?_);refine wB1 (wS1 (s:={s with heap:=h1}) p (by simp) λh2 C n=>?_);exact uJ (s:={s with heap:=h2}) m λh' k=>q h' λc o hc e=>k c o (n.extBut c o hc (g.extBut c o hc e))
theorem Bk{a:Source}{n:Nat}{Q:Nat->dD->Prop}(hn:n≠0)(q:∀i c,i<n->Q i {s with drawn:=c}):dM (model P w) A (choose a n) Q E s:=fun Γ p b=>by
 unfold choose;rw[Sem.wp_choose];refine⟨hn,?_⟩;exact wP1 (A:=A) (E:=E) (q _ _ (Nat.mod_lt _ (Nat.pos_of_ne_zero hn))) Γ p b
theorem Bc{α:Type}:∀(n:Nat) (xs:List α) (s:dD) (Q:List α->dD->Prop),xs.length=n->(∀ys b,ys.Perm xs->Q ys {s with drawn:=b})->dM (model P w) A (drawOrder n xs) Q E s
 |0,xs,s,Q,h,q=>by
  have:=cm.mp h;subst this;exact wP1 (q [] s.drawn (.refl _))
 |n+1,[],s,Q,h,q=>by simp at h
 |n+1,x::xs,s,Q,h,q=>by
  rw[drawOrder];refine wB1 (Bk (by simp) λi b hi=>?_);rw[gG1 hi];dsimp only;refine wB1 (Bc n _ _ _ (by rw[cF hi];lia) λys a c=>wP1 (q _ a ?_));refine(c.cons _).trans ?_;have d:x::xs=(x::xs).take i++(x::xs)[i]::(x::xs).drop (i+1):=by rw[List.getElem_cons_drop,cG]
  rw[cH];refine List.Perm.trans ?_ (List.Perm.of_eq d.symm);exact List.perm_middle.symm
  all_goals simp
theorem B3{l:Bool}{Q:dB->dD->Prop}(ho:s.heap.get? a=some (stO es ep t))(hf:t.fits es.size=true)(hz:es.size<scanBound)(D:TS l t)(G:byT w=false->l=true)(q:∀it h' h f pl,(∀c o,s.heap.get? c=some o->h'.get? c=some o)->s.heap.objs.size<=it->Hh h' it a f 0 es.size ep->ug w h' a es ep t f 0 pl->(∀b,f = .ref b->b≠it/\s.heap.objs.size<=b)->Q (.ref it) {s with heap:=h',drawn:=h}):
  dM (model P w) A (pyIter (.ref a)) Q E s:=by
 have B:s.TypeIs (.ref a) "set":=⟨_,ho,rfl⟩;refine wpAny_pyIter_slot B PySem.F.slot_set_iter (wE1 PySem.F.slot_set_iter B tR ?_ (PySem.F.args_set_iter_1 _));unfold Builtin.«frozenset.__iter__»;refine wB1 (m:=Builtin.Frozenset.slot0 _ _) (wP1 ?_);unfold Builtin.Frozenset.sizeOf;refine wB1 (wB1 (wpAny_setEntries_of ho rfl hf (wP1 ?_)));unfold setDrawn;refine wB1 (wB1 (wpAny_setState_of ho rfl hf (wB1 (qx (wP1 ?_)))));show dM _ _ (if (!byT w&&(!t.plain&&decide (es.size>1)))=true then _ else _) _ _ _;have d:∀ (h1:dP) (h:Drawn) (f:dB) (pl:List dB),(∀ c o,s.heap.get? c=some o->h1.get? c=some o)->s.heap.objs.size<=h1.objs.size->(∀ b,f = .ref b->b<h1.objs.size/\s.heap.objs.size<=b)->(∀ h',(∀ c o,h1.get? c=some o->h'.get? c=some o)->ug w h' a es ep t f 0 pl) ->
   dM (model P w) A.in1 (setEpoch a >>= λe=>newFields "set_iterator" [f,rawInt 0,.ref a,rawInt es.size,rawInt e] >>= λr=>ret r) (λd s'=>∃r,d=Fin.done (Flow.ret r) /\ ∃T g,s'.TypeIs r T/\typeLookup (.type T) "__next__"=pure (Z g)/\Q r s') E {s with heap:=h1,drawn:=h}:=by
  intro h1 h f pl C x u F;refine wB1 (wpAny_setEpoch_of (C a _ ho) O hf (wB1 (wO1 (wP1 ⟨_,O,"set_iterator",_,⟨_,hS1 _ O,O⟩,i4.lookup,?_⟩) (by size_fits))));refine q h1.objs.size _ h f pl (λc o e=>hP1 _ (C c o e)) x ?_ (F _ λc o e=>hP1 _ e) λb e=>⟨nN1 (u b e).1,(u b e).2⟩;have:=hS1 h1 (o:={cls:=.type "set_iterator",data:=.fields #[f,.int 0 0,.ref a,.int es.size 0,.int ep 0]}) O;exact this
 by_cases n:byT w=M
 ·rw[aj (by rw[n];simp)];refine wB1 (wP1 ?_);exact d s.heap s.drawn _ _ (λ_ _ e=>e) (nR1 _) (λb z=>by cases z) λh' _=>.txt n 0 0
 ·have n:byT w=J:=by simpa using n
  by_cases p:(!t.plain&&decide (es.size>1))=M
  ·rw[ak (by rw[n,p];rfl)];refine wB1 (Bc es.size (af es.size) s _ (by simp) λys h y=>?_);refine wB1 (m:=newTuple _) (wO1 (s:={s with drawn:=h}) ?_ ?_)
   ·refine d (s.heap.push {cls:=.type "tuple",data:=.seq (ys.map λ(i:Nat)=>rawInt i).toArray}) h (.ref s.heap.objs.size) (ys.map λj=>(es[j]?.map (·.2)).getD .none) (λc o e=>hP1 _ e) (by rw[hZ1];exact aX _) (λb z=>by cases z;exact⟨by rw[hZ1];exact bD _,nR1 _⟩) λh' k=>?_;exact .drw n p 0 _ ys (k _ _ (hS1 _ O)) y
   ·have:=y.length_eq;have v:=fits_of_scanBound hz;simp[sizeOk,this,v]
  ·have p:(!t.plain&&decide (es.size>1))=J:=by simpa using p
   rw[aj (by rw[p];simp)];refine wB1 (wP1 ?_);exact d s.heap s.drawn _ _ (λ_ _ e=>e) (nR1 _) (λb z=>by cases z) λh' _=>.plc n p (by rw[D.ld];exact G n) D.up 0
end
theorem ug.keep{w:dH}{h h':dP}{a:dE}{es:Array (Int×dB)}{ep:Nat}{t:SetTable}{f:dB}{i:Nat}{pl:List dB}(y:ug w h a es ep t f i pl)(k:∀c o,f = .ref c->h.get? c=Z o->h'.get? c=Z o):ug w h' a es ep t f i pl:=by
 cases y with
 |txt b _ m=>exact .txt b _ m
 |drw b d _ c ps e g=>exact .drw b d _ c ps (k c _ O e) g
 |plc b d j l _=>exact .plc b d j l _
section
variable{P:dF}{w:dH}{A:dG}{E:dB->dD->Prop}
theorem B2{it a S:dE}{ep:Nat}{es:Array (Int×dB)}{t:SetTable}{pl:List dB}{v:dB}{R:Result->dD->Prop}(V:A.handled=none)(hf:t.fits es.size=true)(h1:it≠a)(h2:S≠a)(F:S≠it)(hn:es.size<=dL):
  ∀(k i:Nat) (s:dD) (f:dB) (acc:Array dB) (c:Nat),es.size-i=k->i<=es.size->Hh s.heap it a f i es.size ep->s.heap.get? a=Z (stO es ep t)->ug w s.heap a es ep t f i pl->(∀g,f = .ref g->g≠it/\g≠S) ->
  s.heap.get? S=Z {cls:=.type "list",dict:=Y,data:=.seq acc c,slots:= #[]}->acc.toList=pl.take i ->
  (∀h' d L,(∀b u,b≠it->b≠S->s.heap.get? b=Z u->h'.get? b=Z u)->h'.get? S=Z {cls:=.type "list",dict:=Y,data:=.seq d L,slots:= #[]}->d.toList=pl->R (.ok (.ret v)) {s with heap:=h'}) ->
  dN (model P w) A (.builtin "list.extend.loop" ⟨[.ref S,.ref it,v],[]⟩) R s:=by
 intro k
 induction k with
 |zero=>
  intro i s f acc c T hi l E y D G C I;have e:i=es.size:=by lia
  subst e;have j:=y.len;refine wD1 PySem.F.entry_extend_loop (?_:_);rw[Around.under_plainId PySem.F.plain_extend_loop _];show dM _ A.in1 (pyNext (.ref it) >>= _) _ _ s;refine wB1 (EA V l E hf y λh' keep=>wP1 ?_);exact I h' acc c (λb u n _ e=>keep b u n e) (keep S _ F G) (by rw[C,<- j,bY])
 |succ k ih=>
  intro i s f acc c T hi l E y D G C I;have ao:i<es.size:=by lia
  have j:=y.len;obtain⟨x,au⟩:∃x,pl[i]?=some x:=⟨_,gG1 (by lia)⟩;have B:acc.size=i:=by rw[<- aJ,C,aR];lia
  refine wD1 PySem.F.entry_extend_loop (?_:_);rw[Around.under_plainId PySem.F.plain_extend_loop _];show dM _ A.in1 (pyNext (.ref it) >>= _) _ _ s;refine wB1 (B1 l E hf y au (λg e=>(D g e).1) λh' Q r keep U N=>?_);have z:=keep S _ F G;show dM _ A.in1 (updateSeq S (·.push x) >>= _) _ _ _;refine wB1 (wpAny_updateSeq (s:={s with heap:=h'}) z O ?_ (by rw[B];lia) (by show(acc.push _).size<=dL+1;rw[Array.size_push,B];lia));have h:∀b u,b≠S->h'.get? b=Z u->(h'.update S (Obj.mapSeq (·.push x))).get? b=Z u:=λb u n e=>by rw[hU1 _ _ _ _ n];exact e
  refine wP1 ⟨plainId_quiet PySem.F.plain_extend_loop _,ih (i+1) {s with heap:=h'.update S (Obj.mapSeq (·.push x))} Q (acc.push x) _ (by lia) ao (h it _ (Ne.symm F) r) (h a _ (Ne.symm h2) (keep a _ (Ne.symm h1) E)) (U.keep λg o e q=>h g o (D g (N g e)).2 q) (λg e=>D g (N g e)) (hW1 _ z O) ?_ ?_⟩
  ·rw[cq,C,cr,au];rfl
  ·intro am d L m H K;exact I am d L (λb u n p e=>m b u n p (h b u p (keep b u n e))) H K
theorem zw:typeLookup (.type "set") "__len__"=pure (Z (.builtin "set.__len__")):=by rw[typeLookup_type,builtinLookup_eq_fast];kernel_rfl
theorem B4 {s:dD}{v:dE}{Q:Bool->dD->Prop}(c:s.TypeIs (.ref v) "set")(q:Q J s):dM (model P w) A (Builtin.List.listLengthHint (.ref v)) Q E s:=by
 unfold Builtin.List.listLengthHint;refine wB1 (wpAny_specialOf c zw (?_:_));generalize a:("set.__len__":String)=id0
 wp_delta
 rw[show splitId id0=Z ("set","__len__")from by subst a;decide+kernel];subst a;refine wB1 (wpAny_isInstance (b:=M) c (by rw[isSubtype_type];kernel_rfl) (?_:_));rw[aj (by decide)];dsimp only;rw[ak (by decide+kernel)];exact wB1 (wpAny_typeOf c (wP1 q))
theorem uD{s:dD}{a:dE}{ns:List Int}{Q:List dB->dD->Prop}(aq:A.handled=Y)(hx:ju (byT w) a ns s.heap)(q:∀h' p vs N,(∀b u,s.heap.get? b=Z u->h'.get? b=Z u)->s.heap.objs.size<=h'.objs.size->IntsAre vs N->N.Perm ns->Q vs {s with heap:=h',drawn:=p}):dM (model P w) A (collect (.ref a)) Q E s:=by
 obtain⟨es,ep,t,l,G,R,S,ao,W,V⟩:=hx;have n:a<s.heap.objs.size:=hL1 G;unfold collect;refine wB1 (wpAny_runValue (wD1 PySem.F.entry_proto_collect (?_:_)));rw[Around.under_plainId PySem.F.plain_proto_collect _];show dM _ A.in1 (newList [] >>= λl=>again (.builtin "list.__iadd__" ⟨[l,.ref a],[]⟩)) _ _ s;refine wB1 (wO1 (?_:_));refine wP1 ⟨plainId_quiet PySem.F.plain_list_iadd _,wD1 PySem.F.entry_list_iadd (?_:_)⟩;rw[Around.under_plainId PySem.F.plain_list_iadd _];have x:(s.heap.push {cls:=.type "list",data:=.seq ([]:List dB).toArray}).get? s.heap.objs.size=Z {cls:=.type "list",data:=.seq ([]:List dB).toArray}:=hS1 _ O;have g:∀b u,s.heap.get? b=Z u->(s.heap.push {cls:=.type "list",data:=.seq ([]:List dB).toArray}).get? b=Z u:=λb u e=>hP1 _ e;have z:(s.heap.push {cls:=.type "list",data:=.seq ([]:List dB).toArray}).objs.size=s.heap.objs.size+1:=by rw[hZ1]
 have L:s.heap.objs.size≠a:=nG1 n;have h1:Builtin.List.listSameRef (.ref s.heap.objs.size) (.ref a)=J:=by simp[Builtin.List.listSameRef,L]
 show dM _ A.in1 (Builtin.List.listExtendWith (.ref s.heap.objs.size) (.ref a) (.ref s.heap.objs.size)) _ _ {s with heap:=s.heap.push {cls:=.type "list",data:=.seq ([]:List dB).toArray}};generalize s.heap.push {cls:=.type "list",data:=.seq ([]:List dB).toArray}=h₁ at *
 unfold Builtin.List.listExtendWith;refine wB1 (wpAny_typeOf (T:="set") ⟨_,g a _ G,O⟩ ?_);rw[aj (by rw[h1];decide)];refine wB1 (B3 (s:={s with heap:=h₁}) (g a _ G) ao S W V λit d p f pl h c K y F=>?_);dsimp only at h c F;have i:=h _ _ x;have B:Shared.TypeIs {s with heap:=d,drawn:=p} (.ref a) "set":=⟨_,h _ _ (g a _ G),O⟩;refine wB1 (wpAny_holding (B4 B ?_));rw[ak (by decide+kernel)];refine wB1 (wpAny_rule (wB1 ?_));show dM _ A.in1 (updateSeq s.heap.objs.size (·.push .none) >>= λ_=>updateSeq s.heap.objs.size (·.pop)) _ _ _;refine wB1 (wpAny_updateSeq (s:={s with heap:=d,drawn:=p}) i O ?_);have j:=hW1 (Obj.mapSeq (·.push Value.none)) i O;refine wpAny_updateSeq (s:={s with heap:=d.update s.heap.objs.size (Obj.mapSeq (·.push Value.none)),drawn:=p}) j O ?_;have r:=hW1 (Obj.mapSeq (·.pop)) j O;have m:∀b u,b≠s.heap.objs.size->d.get? b=Z u->((d.update s.heap.objs.size (Obj.mapSeq (·.push Value.none))).update s.heap.objs.size (Obj.mapSeq (·.pop))).get? b=Z u:=λb u C e=>by
  rw[hU1 _ _ _ _ C,hU1 _ _ _ _ C];exact e
 rw[z]at c F;have au:=y.perm;refine wP1 ⟨plainId_quiet PySem.F.plain_extend_loop _,B2 (it:=it) (pl:=pl) aq ao (nG1 (bh n c)) (nG1 n) (nN1 c) (fits_of_scanBound S) es.size 0
  {s with heap:=(d.update s.heap.objs.size (Obj.mapSeq (·.push Value.none))).update s.heap.objs.size (Obj.mapSeq (·.pop)),drawn:=p} f _ _ O (bi _) (m _ _ (nG1 c) K) (m a _ (nN1 n) (h _ _ (g a _ G))) (y.keep λI o e q=>m I o (nG1 (F I e).2) q) (λI e=>⟨(F I e).1,nG1 (F I e).2⟩) r O λh' D c' keep H U=>?_⟩
 show dM _ A (load s.heap.objs.size >>= _) _ _ {s with heap:=h',drawn:=p};refine wB1 (wpAny_load H ?_);have hI:∀v∈pl,∃k t,v=Value.int k t:=λv am=>by
  obtain⟨e,X,rfl⟩:=cc.mp (au.mem_iff.mp am);obtain⟨k,t,rfl⟩:=R.el e X;exact⟨k,t,O⟩
 have all:∀vs:List dB,(∀v∈vs,∃k t,v=Value.int k t)->IntsAre vs (vs.map λv=>Ku (0,v)):=by
  intro vs
  induction vs with
  |nil=>intro _;exact .nil
  |cons v vs ih=>
   intro am;obtain⟨k,t,rfl⟩:=am v mS1;exact .cons k t (ih λu wq=>am u (mC1 _ wq))
 refine wP1 (q h' p D.toList (pl.map λv=>Ku (0,v)) (λb u e=>?_) (aD (hL1 H)) (by rw[U];exact all pl hI) ?_)
 ·have C:=hL1 e;exact keep b u (nN1 (bh C c)) (nN1 C) (m b u (nN1 C) (h _ _ (g b u e)))
 ·refine(au.map _).trans ?_;rw[bu];exact R.pm
theorem sn {s:dD}{a:dE}{ns:List Int}{Q:dB->dD->Prop}(o:A.handled=none)(hx:ju (byT w) a ns s.heap)(j:ns.length<64)
  (q:∀h' f L n out,(∀b u,s.heap.get? b=Z u->h'.get? b=Z u)->s.heap.objs.size<=L->h'.get? L=Z (seqObj "list" out n)->IntsAre out.toList (kC ns)->Q (.ref L) {s with heap:=h',drawn:=f}):
  dM (model P w) A (call (.builtin "sorted") [.ref a]) Q E s:=by
 refine Calls.call_function_entry kind_sorted plain_sorted entry_sorted (args_sorted1 _) (?_:_);unfold Builtin.«sorted»;refine wB1 (m:=checkCount "sorted" 1 1 _) (wP1 (wB1 (uD o hx λh' f vs t keep r l k=>?_)));have d:vs.length<64:=by rw[l.length,k.length_eq];exact j
 refine wB1 (wpAny_newList (hsz:=by rw[sizeLine_eq];lia) ?_);have c:(h'.push (seqObj "list" vs.toArray 0)).get? h'.objs.size=Z (seqObj "list" vs.toArray 0):=hS1 _ O;show dM _ _ _ _ _ {s with heap:=h'.push (seqObj "list" vs.toArray 0),drawn:=f};refine wB1 (wpAny_holding (wE1 slot_list_sort ⟨_,c,O⟩ entry_list_sort (list_sort_tree (s:={s with heap:=h'.push (seqObj "list" vs.toArray 0),drawn:=f}) c l d λout i a1 a2 a3=>⟨_,O,?_⟩) (args_list_sort _)));have p:i=kC ns:=rh (a2.trans (k.trans (iK ns).symm)) a3 (nC ns);subst p;obtain⟨n,g⟩:=sortedHeap_at (out:=out) c;refine wP1 ⟨_,O,q _ f h'.objs.size n out (λb u e=>?_) r g a1⟩;have h:=keep b u e;show(sortedHeap (h'.push (seqObj "list" vs.toArray 0)) h'.objs.size vs out).get? b=Z u;rw[sortedHeap_old (nN1 (hL1 h)) (by rw[hZ1];exact cv (hL1 h))];exact hP1 _ h
end
section
variable{X:Cx}
def Fa(X:Cx)(vs:List V)(H:Hp)(Q:VK):Prop:=∃a ns,vs=[.ref a]/\H a=Z (.ext (ju (byT X.w) a ns))/\ns.length<64 /\ ∀p,H p=Y->Q (.ref p) (upd H p (.lst ((kC ns).map V.int)))
theorem yf{ag:List (dE×Obj)}{σ:L2.St}{H:Hp}{s:dD}(I:Inv X ag σ H s)(d:Drawn):Inv X ag σ H {s with drawn:=d}:=⟨I.ok,I.os,I.bare,I.base,I.loc,I.cell,I.free,I.freeC,I.pin,I.hok,I.len⟩
theorem DR(hc:X.calm=M):eZ X (.builtin "sorted") (Fa X):=by
 intro ag s σ H xs k Q I r h;obtain⟨a,ns,rfl,g,i,q⟩:=h;obtain⟨u,rfl,r2⟩:=g0 r;cases r2;obtain⟨e,_⟩:=(show eG X.prog X.w H s.heap a (.ext (ju (byT X.w) a ns))from I.hok a _ g);refine sn (I.ok.hd hc) e i λh' f L n out keep d b j=>?_;have c:=I.hok.fresh d;refine⟨.ref L,_,yf (I.laid (t':=s.toks) (o:=.lst ((kC ns).map V.int)) keep d ⟨?_,out.toList,n,yg j,by rw[Array.toArray_toList];exact b⟩) f,O,q _ c⟩;rw[lM1,(iK ns).length_eq,sizeLine_eq];lia
theorem I9(ns:List Int):(ddI ns).length<=ns.length:=by
 have:=ou ns [];unfold ddI;simpa using this
end
section
variable{X:Cx}{ag:List (dE×Obj)}{σ:L2.St}{H:Hp}{s:dD}{a:dE}{kvs:List (Key×V)}{k:Key}{v:V}{u r:dB}{A:dG}{E:dB->dD->Prop}
end
section
variable{X:Cx}
end
open AutoSeq1 (wpAny_loadPart')
section
variable{prog:dF}{w:dH}{A:dG}{E:dB->dD->Prop}{s:dD}
end
section
variable{X:Cx}
end
section
variable{P:dF}{w:dH}{A:dG}{E:dB->dD->Prop}{s:dD}
set_option maxHeartbeats 3200000 in
theorem yI {l:dE}{its:Array dB}{Q:dB->dD->Prop}(C:s.heap.IsTuple l its)
  (h:∀t:dG,t.handled=A.handled -> ∀R:Result->dD->Prop,(∀s',Q (.ref s.heap.objs.size) s'->R (.ok (.ret .none)) s') ->
   dN (model P w) t (.builtin "set.update.loop" ⟨[.ref s.heap.objs.size,.ref (s.heap.objs.size+1)],[]⟩) R {s with heap:=(s.heap.push (stO #[] 0 (.fresh 0 0 (!byT w)))).push {cls:=.type "tuple_iterator",data:=.fields #[.ref l,.int 0 0]}}):
  dM (model P w) A (call (.type "set") [.ref l]) Q E s:=by
 obtain⟨U,X,o⟩:=PySem.F.called_set.mro;have f:=PySem.F.called_set.made;have m:=PySem.F.called_set.sub
 refine wpAny_call (codeAny_of_tree (?_:dM _ _ (callAny (.type "set") _) _ _ _));refine wP1 ⟨Code.quiet_builtin _ (by decide+kernel),wD1 PySem.F.entry_type_call (?_:_)⟩;rw[Around.under_plain (weight_type_call_type "set" [.ref l] []) O];have N:=PySem.F.called_set.notType;have K:=PySem.F.called_set.canCreate;have V:=PySem.F.typeCall_set_1 (.ref l)
 repeat(any_goals (first|wp_step|assumption))
 refine codeAny_mono (CP (.ref l) (E:=E) (G:=λx n=>x = .ref s.heap.objs.size/\n={s with heap:=s.heap.push (stO #[] 0 (.fresh 0 0 (!byT w)))}) ⟨O,O⟩) λr n g=>?_;cases r with
 |error e=>exact g
 |ok v=>
  cases v with
  |ret x=>
   obtain⟨rfl,rfl⟩:=g;have k:(s.heap.push (stO #[] 0 (.fresh 0 0 (!byT w)))).get? s.heap.objs.size=Z (stO #[] 0 (.fresh 0 0 (!byT w))):=hS1 _ O;have B:Shared.TypeIs {s with heap:=s.heap.push (stO #[] 0 (.fresh 0 0 (!byT w)))} (.ref s.heap.objs.size) "set":=⟨_,k,O⟩;have au:=PySem.F.called_set.init.lookup;have ao:=PySem.F.called_set.init.bind (.ref s.heap.objs.size)
   repeat(any_goals (first|wp_step|assumption))
   refine codeAny_mono (codeAny_call_builtin (R:=wants (λr p=>r = .none/\Q (.ref s.heap.objs.size) p) E) PySem.F.called_set.init.plain PySem.F.entry_set_init (check_set_init_1 B (?_:_))) λr2 p a=>?_
   ·obtain⟨y,i,c,j,b⟩:=C;obtain⟨T,H,L,u⟩:=y;simp only at c b;subst c;subst b;have F:(s.heap.push (stO #[] 0 (.fresh 0 0 (!byT w)))).get? l=Z {cls:=.type "tuple",dict:=H,data:=.seq its j,slots:=u}:=hP1 _ i;have am:=PySem.F.sub_tuple_set;have W:=PySem.F.sub_tuple_frozenset;have S:(Value.type "tuple" == Value.type "dict")=J:=by decide
    have z:(s.heap.push (stO #[] 0 (.fresh 0 0 (!byT w)))).IsTuple l its:=⟨_,F,O,j,O⟩;have D:(s.heap.push (stO #[] 0 (.fresh 0 0 (!byT w)))).get? s.heap.objs.size=Z {cls:=.type "set",dict:=Y,data:=.set #[] 0 (.fresh 0 0 (!byT w)),slots:= #[]}:=k;unfold Builtin.«set.__init__» noKeywords Builtin.Frozenset.updateFrom;generalize d:pyIter=PI
    wp_walk
    subst d;refine wpAny_pyIter_tuple z (wB1 (wpAny_runValue (?_:_)));dsimp only;rw[show(s.heap.push (stO #[] 0 (.fresh 0 0 (!byT w)))).objs.size=s.heap.objs.size+1 from by rw[hZ1]];refine h A.in1.in1 (by simp) _ λs' q=>?_;exact wP1 (wP1 ⟨O,q⟩)
   ·cases r2 with
    |error e=>exact a
    |ok I=>
     cases I with
     |ret r=>
      obtain⟨rfl,q⟩:=a
      repeat(any_goals (first|wp_step|assumption))
     |_=>exact a.elim
  |_=>exact g.elim
end
section
variable{X:Cx}
end
section
variable{X:Cx}{a b:Expr}{rest:List Expr}{pos:Pos}{ta tb:TE}{f g:FE}
theorem Fx(ha:PE X a ta)(hb:PE X (.BoolOp .Or (b::rest) pos) tb):PE X (.BoolOp .Or (a::b::rest) pos) (fun σ H Q=>ta σ H λx H'=>∃k,BG X.K x H' k/\if k=M then Q x H' else tb σ H' Q):=by
 intro ag s σ H Q I h;refine BoolOp_or (fh (ha ag s σ H _ I h) λv i ⟨x,H1,m,f,e⟩=>?_);obtain⟨k,tk,e⟩:=e;refine fh (zb ag i σ H1 x v (λl H'=>if l=M then Q x H' else tb σ H' Q) m f ⟨k,tk,e⟩) λc j ⟨H2,g,d⟩=>?_;cases c with
 |false=>rw[aj (by decide)]at d ⊢;exact hb ag j σ H2 Q g d
 |true=>rw[ak O]at d ⊢;exact⟨x,H2,g,f,d⟩
noncomputable def Dc(a b:FE):FE:=λr S=>(a r S).bind λp=>(qB p.2 p.1).bind λk=>if k=M then Z p else b r p.2
theorem BY(ha:XE X a f)(hb:XE X (.BoolOp .Or (b::rest) pos) g):XE X (.BoolOp .Or (a::b::rest) pos) (Dc f g):=
 ⟨eR (Fx ha.h hb.h) <| by
  rintro σ H Q ⟨r,mu,S,d,q,j,s,c,hc⟩;obtain⟨⟨n,m⟩,w,c⟩:=oB1.mp c;obtain⟨k,u,c⟩:=oB1.mp c;refine⟨r,mu,S,n,m,j,s,w,λv H1 mu1 i l h=>⟨k,zd l h u,?_⟩⟩;cases k with
  |true=>rw[ak O]at c ⊢;cases c;exact hc _ H1 mu1 i l h
  |false=>rw[aj (by decide)]at c ⊢;exact⟨r,mu1,m,d,q,j.ext i,h,c,λt H2 e o r2 p=>hc t H2 e (i.trans o) r2 p⟩⟩
end
section
variable{X:Cx}
noncomputable def Ej:G1:=λd S=>match d with
 | .ref n=>match S[n]? with
  |some (.dct kvs)=>Z (.int kvs.length,S)
  |_=>fx d S
 |_=>fx d S
end
section
variable{P:dF}{w:dH}{A:dG}{E:dB->dD->Prop}{b:Bool}
theorem xJ{p l it:dE}{its:Array dB}{ns:List Int}{R:Result->dD->Prop}(I:A.handled=none)(D:IntsAre its.toList ns)(hb:ns.length+1<scanBound)(F:p≠l)(j:p≠it)(K:it≠l):
  ∀(k i:Nat) (s:dD),its.size-i=k->i<=its.size->s.heap.IsTupleIter it l i->s.heap.IsTuple l its->ju b p ((ns.take i).foldl step_dedup []) s.heap ->
  (∀h' tk,(∀c o,c≠p->c≠it->s.heap.get? c=Z o->h'.get? c=Z o)->ju b p (ddI ns) h'->R (.ok (.ret .none)) {s with heap:=h',toks:=tk})->dN (model P w) A (.builtin "set.update.loop" ⟨[.ref p,.ref it],[]⟩) R s:=by
 have f:its.size=ns.length:=by rw[<- aJ];exact D.length
 intro k
 induction k with
 |zero=>
  intro i s G hi st h n q;have e:i=its.size:=by lia
  subst e;refine wD1 PyProof.Rows.F.entry_set_update_loop (?_:_);rw[Around.under_plainId PyProof.Rows.F.plain_set_update_loop _];show dM _ A.in1 (pyNext (.ref it) >>= _) _ _ s;refine wB1 (wpAny_pyNext_tuple_end (by simpa using I) st h (by simp) λh' y=>wP1 ?_);refine q h' s.toks (λc o _ hc e=>y c o hc e) ?_;have:=n.old (h':=h') λo e=>y p o j e;rw[f,bY]at this;exact this
 |succ k ih=>
  intro i s G hi st h n q;have g:i<its.size:=by lia
  have z:=aG1 g;obtain⟨t,L⟩:=PyProof.Rows.IntsAre.int_at D i its[i] (by rw[aT1];exact z);refine wD1 PyProof.Rows.F.entry_set_update_loop (?_:_);rw[Around.under_plainId PyProof.Rows.F.plain_set_update_loop _];show dM _ A.in1 (pyNext (.ref it) >>= _) _ _ s;refine wB1 (wpAny_pyNext_tuple_item st h z λh' st' B=>?_);rw[L];show dM _ A.in1 (holding [Value.int (ns.getD i 0) t] (setAdd p (.int (ns.getD i 0) t)) >>= _) _ _ _;refine wB1 (wpAny_holding ?_);unfold setAdd;refine wpAny_holding (wB1 (wpAny_pyHash_int ?_));have v:ju b p ((ns.take i).foldl step_dedup []) h':=n.old λo e=>by rw[B.2 p j];exact e
  have u:=ou (ns.take i) [];refine KD (s:={s with heap:=h',toks:=s.toks+1}) (k:=ns.getD i 0) v (by rw[aR,bf]at u;lia) λc h2 a d=>?_;have H:ns[i]?=Z (ns.getD i 0):=by rw[gG1 (by lia)];simp[List.getD,show i<ns.length by lia]
  have am:step_dedup ((ns.take i).foldl step_dedup []) (ns.getD i 0)=(ns.take (i+1)).foldl step_dedup []:=by
   rw[cr,H,List.foldl_append];rfl
  rw[am]at d;have C:∀c o,c≠p->c≠it->s.heap.get? c=Z o->h2.get? c=Z o:=λc o h1 m e=>by rw[a.2 c h1];show h'.get? c=_;rw[B.2 c m];exact e
  have keepIt:∀o,h'.get? it=Z o->h2.get? it=Z o:=λo e=>by rw[a.2 it (Ne.symm j)];exact e
  refine wP1 ⟨plainId_quiet PyProof.Rows.F.plain_set_update_loop _,ih (i+1) {s with heap:=h2,toks:=s.toks+1} (by lia) g (st'.at keepIt) ?_ d λm tk ao E=>?_⟩
  ·obtain⟨o,e,r⟩:=h;exact⟨o,C l o (Ne.symm F) (Ne.symm K) e,r⟩
  ·exact q m tk (λc o h1 x e=>ao c o h1 x (C c o h1 x e)) E
theorem vA{s:dD}{l:dE}{its:Array dB}{ns:List Int}{Q:dB->dD->Prop}(i:A.handled=Y)(d:s.heap.IsTuple l its)(p:IntsAre its.toList ns)(hb:ns.length+1<scanBound)(q:∀h' tk,(∀c o,s.heap.get? c=Z o->h'.get? c=Z o)->ju (byT w) s.heap.objs.size (ddI ns) h'->Q (.ref s.heap.objs.size) {s with heap:=h',toks:=tk}):dM (model P w) A (call (.type "set") [.ref l]) Q E s:=by
 have a:l<s.heap.objs.size:=by obtain⟨o,e,_⟩:=d;exact hL1 e
 refine yI d λt m R g=>?_;have j:(s.heap.push (stO #[] 0 (.fresh 0 0 (!byT w)))).objs.size=s.heap.objs.size+1:=by rw[hZ1]
 have n:(s.heap.push (stO #[] 0 (.fresh 0 0 (!byT w)))).get? s.heap.objs.size=Z (stO #[] 0 (.fresh 0 0 (!byT w))):=hS1 _ O;refine xJ (its:=its) (ns:=ns) (b:=byT w) (m.trans i) p hb (nG1 a) (nN1 (bD _)) (nG1 (cv a)) _ 0 _ O (bi _) ?_ ?_ ?_ λh' tk k x=>g _ (q h' tk (λc o e=>k c o (nN1 (hL1 e)) (nN1 (cv (hL1 e))) (hP1 _ (hP1 _ e))) x)
 ·refine⟨{cls:=.type "tuple_iterator",data:=.fields #[.ref l,.int 0 0]},?_,O,O⟩;have this:((s.heap.push (stO #[] 0 (.fresh 0 0 (!byT w)))).push {cls:=.type "tuple_iterator",data:=.fields #[.ref l,.int 0 0]}).get? (s.heap.push (stO #[] 0 (.fresh 0 0 (!byT w)))).objs.size=Z {cls:=.type "tuple_iterator",data:=.fields #[.ref l,.int 0 0]}:=hS1 _ O;rw[j]at this;exact this
 ·obtain⟨o,e,r⟩:=d;exact⟨o,hP1 _ (hP1 _ e),r⟩
 ·refine⟨#[],0,_,!byT w,hP1 _ n,⟨λe f=>by simp at f,.refl _⟩,by decide,O,za _,λh=>by rw[h];rfl⟩
end
noncomputable def iB:G1:=λd S=>match d4 S d with
 |some (J,xs)=>(oh xs).bind λns=>if ns.length<64 then Z (.ref S.length,S++[.lst ((kC (ddI ns)).map D.int)])else Y
 |_=>Y
section
variable{X:Cx}
def Fb(X:Cx)(vs:List V)(H:Hp)(Q:VK):Prop:=∃a xs ns,vs=[.ref a]/\j5 X.K H a xs/\(∀us,ee xs us->IntsAre us ns)/\ns.length+1<scanBound /\ ∀p,H p=Y->Q (.ref p) (upd H p (.ext (ju (byT X.w) p (ddI ns))))
theorem DT(hc:X.calm=M):eZ X (.type "set") (Fb X):=by
 intro ag s σ H xs m Q I r h;obtain⟨a,vs,ns,rfl,f,hi,g,q⟩:=h;obtain⟨u,rfl,r2⟩:=g0 r;cases r2;obtain⟨b,i,p,n⟩:=I.tuple f;have j:=hi b i;refine vA (I.ok.hd hc) p (by simpa using j) g λh' tk keep d=>?_;have c:=I.hok.fresh (nR1 s.heap.objs.size);refine⟨.ref s.heap.objs.size,_,I.laid (t':=tk) (o:=.ext (ju (byT X.w) s.heap.objs.size (ddI ns))) keep (nR1 _) ⟨d,?_,λh1 h2 x k=>x.old k⟩,O,q _ c⟩;obtain⟨es,ep,t,l,e,_⟩:=d;exact⟨_,e⟩
theorem uA (hc:X.calm=true){o:Expr}{m:FE}{p p2 pos b:Pos}(hg:Gl X "sorted")(hm:X.mg "sorted"=none)(hg2:Gl X "set")(hm2:X.mg "set"=none)(ho:XE X o m)
  (he:dJ [.Call (.Name "set" p2) [o] [] b] X.env=[(J,eval (.Call (.Name "set" p2) [o] [] b) X.env)]:=by rfl) (c:dJ [o] X.env=[(J,eval o X.env)]:=by rfl):XE X (.Call (.Name "sorted" p) [.Call (.Name "set" p2) [o] [] b] [] pos) (mN (b1 iB) (dU m dV)):=
 ⟨eR (nT (DR hc) hg hm (by decide+kernel) (jC (lP (DT hc) hg2 hm2 (by decide+kernel) (jC ho.h nV c) (he:=c)) nV he) (he:=he)) <| by
  rintro σ H Q ⟨r,mu,S,d,E,he,y,hm,g⟩;obtain⟨⟨ds,D⟩,f,hm⟩:=oB1.mp hm;obtain⟨⟨s,C⟩,l,f⟩:=oB1.mp f;cases f;dsimp only[b1,iB]at hm;split at hm
  ·rename_i xs A;obtain⟨ns,B,hm⟩:=oB1.mp hm;split at hm
   ·rename_i j;cases hm;refine⟨r,mu,S,s,_,he,y,l,λv H1 mu1 n z h=>?_⟩;obtain⟨a,vs,rfl,q,t⟩:=d6 z h A;refine⟨a,vs,ns,O,q,λF w=>(yh t w B).1,bh (Nat.succ_lt_succ j) (by decide),λp i=>?_⟩;refine⟨p,ddI ns,O,d8,bI (I9 ns) j,λp2 e=>?_⟩;have x:Ext mu1 mu1 H1 (upd H1 p (.ext (ju (byT X.w) p (ddI ns)))):=Ext.fresh i;have k:=h.fresh (u:=.ext (ju (byT X.w) p (ddI ns))) i;exact g _ _ (mu1++[p2]) (n.trans (x.trans (Ext.new_ e))) (.ref (fQ k.len _)) (k.newL (lO _) e)
   ·cases hm
  ·cases hm⟩
end
section
variable{prog:dF}{w:dH}{A:dG}{E:dB->dD->Prop}{s:dD}
theorem GE{a b:dE}{k l:Int}{t u:Tok}{g zs:List dB}{Q:Bool->dD->Prop}(ha:IsTup s.heap a (Value.int k t::g).toArray)(hb:IsTup s.heap b (Value.int l u::zs).toArray)(c:k≠l)(h:Q (decide (k<l)) s):
  dM (model prog w) A (keyLt' (tuples' M) (.ref a) (.ref b)) Q E s:=by
 rw[iS];obtain⟨o,i,j,_,d⟩:=ha;obtain⟨m,f,n,_,e⟩:=hb;refine wB1 (listItems_at i d (wB1 (listItems_at f e ?_)));rw[bT,bL,bF];refine wB1 (wB1 ?_);dsimp only;refine wB1 (wpAny_eqBool_int ?_);rw[beq_false_of_ne c];simp only[ci,if_true];exact wB1 (oneLt_int (wP1 (wP1 (wP1 h))))
theorem GG{vs:List dB}{Q:SortKind->dD->Prop}(j:vs≠[])(h:∀ v∈vs,∃ a k t ps,v = .ref a/\IsTup s.heap a (Value.int k t::ps).toArray)(q:Q (tuples' true) s):
  dM (model prog w) A (keyKind' vs.toArray) Q E s:=by
 rw[keyKind'_eq,cj,<- bind_pure_comp];refine wB1 (wB1 (kZ (P:=λ_ r=>∃k t,r=Z (Value.int k t)) (λv i=>?_) λrs B g=>wP1 ?_))
 ·obtain⟨a,k,t,ps,rfl,⟨o,l,n,_,m⟩⟩:=h v i;refine⟨Z (.int k t),⟨k,t,O⟩,λQ q=>?_⟩;rw[tO];refine wB1 (wpAny_typeOf (T:="tuple") ⟨o,l,n⟩ ?_);rw[aj (by decide)];refine wB1 (listItems_at l m (wP1 ?_));simpa using q
 ·have y:rs.toArray.all (·.isSome)=true:=by
   rw[ck,bC];intro r f;obtain⟨v,_,k,t,e⟩:=g r f;rw[e];rfl
  rw[ak y];refine wB1 (wpAny_rule ?_);rw[oneTypeOnly'_eq];have p:rs.toArray.filterMap id=(rs.filterMap id).toArray:=by simp
  rw[p,cj,<- bind_pure_comp];refine wB1 (wB1 (wB1 (kZ (P:=λ_ t=>t=Value.type "int") (λv i=>?_) λc b F=>wP1 ?_)))
  ·obtain⟨r,f,e⟩:=aL.mp i;obtain⟨G,_,k,t,C⟩:=g r f;rw[C]at e;cases e;exact⟨_,O,λQ q=>wpAny_typeOf (T:="int") (typeIs_int s k t) q⟩
  ·cases c with
   |nil=>
    exfalso;cases rs with
    |nil=>exact j (cm.mp B.symm)
    |cons r rs=>
     obtain⟨_,_,k,t,e⟩:=g r mS1;rw[e]at b;simp at b
   |cons t c=>
    have all:∀x∈t::c,x=Value.type "int":=λx d=>by obtain⟨_,_,z⟩:=F x d;exact z
    have u:=all t mS1;subst u;have D:((Value.type "int"::c).toArray.all λx=>x == Value.type "int")=M:=by
     rw[ck,bC];intro x d;rw[all x d];rfl
    show dM _ _ (pure (if((Value.type "int"::c).toArray.all λx=>x == Value.type "int")=M then Z (Value.type "int")else Y)) _ _ _;rw[ak D];exact wP1 (wP1 q)
end
section
variable{X:Cx}{ag:List (dE×Obj)}{σ:L2.St}{H:Hp}{s:dD}{mu:List dE}
end
section
variable{X:Cx}
end
section
variable{X:Cx}{f:dE}{fd:dQ}{ps:List Str}{k n:Nat}{sp:Sp}{dvs:List V}{ds:List dB}{CX:yR}{E:XK}{t:TA}{e:Expr}{es:List Expr}{p pos:Pos}{i:Nat}{v x:Str}
end
section
variable{prog:dF}{w:dH}{K:Type} [DecidableEq K] {knd:HeapKind prog w K}{A:dG}{E:dB->dD->Prop}{s:dD}
end
section
variable{X:Cx}
noncomputable def K1:G1:=λd S=>match d with
 | .ref n=>match S[n]? with
  |some (.dcT kvs)=>Z (.int kvs.length,S)
  |_=>Ej d S
 |_=>Ej d S
noncomputable def jI:G2:=λd e S=>match e with
 | .ref n=>match S[n]? with
  |some (.dct [])=>match keyT d with
   |some _=>Z (.bl M,S)
   |none=>gp d e S
  |_=>gp d e S
 |_=>gp d e S
theorem z4(j:X.A.units+64<cLine):fV X (compareOp .NotIn) (r2 X.K (b2 jI)):=by
 intro ag s σ H x y u w Q I p o h;obtain⟨mu,S,d,e,r,l,m,c,g,a,hc⟩:=pE h;have back:gp d e S=Z (r,l)->dM (model X.prog X.w) X.A (compareOp .NotIn u w) (EP X ag σ Q) X.xe s:=λa=>sV j ag s σ H x y u w Q I p o ⟨mu,S,[d,e],r,l,.cons m (.cons c .nil),g,a,hc⟩;unfold jI at a;split at a
 ·rename_i n;split at a
  ·rename_i v;split at a
   ·rename_i k t;cases a;cases c with
    |ref q=>
     cases o;obtain⟨ws,B,C⟩:=g.dct v q;cases C;obtain⟨z,D,vs,f,A⟩:=wZ I.hok B;cases f;obtain⟨b,rfl,rfl,rk,E,hi⟩:=jh I m p t;have i:s.heap.DictOfH (fP X.prog X.w) _ []:=oz A;refine wpAny_notIn_heap (iM j) hi D i ?_;exact⟨.bl M,H,I.tok _,O,hc.now (.bl _) g⟩
   ·exact back a
  ·exact back a
 ·exact back a
end
theorem Kc.fits{es:Array (Int×dB)}{t:SetTable}(h:Kc es t):t.fits es.size=M:=by
 unfold SetTable.fits SetTable.fill;rw[h.du,h.sz];have:=h.fl;simp;exact this
theorem mem_ins{α:Type}(a:Array α)(p:Nat)(x y:α):y∈(SetTable.insertAt a p x).toList↔y=x\/y∈a.toList:=by
 rw[tH,aG,aF];have:=cG p a.toList;constructor
 ·rintro(h|h|h)
  ·exact .inr (cJ h)
  ·exact .inl h
  ·exact .inr (cK h)
 ·rintro(h|h)
  ·exact .inr (.inl h)
  ·rw[<- this,aG]at h;rcases h with h|h
   ·exact .inl h
   ·exact .inr (.inr h)
theorem ow{α β:Type}{f g:α->Option β}:∀l:List α,(∀a∈l,f a=g a)->l.filterMap f=l.filterMap g
 |[],_=>rfl
 |a::l,h=>by rw[aE,aE,h a mS1,ow l λb c=>h b (mC1 _ c)]
theorem live_len:∀(l:List (Option Nat)) (s:Nat),((List.range' s l.length).filterMap λj=>(l.getD (j-s) Y).map (j,·)).length=l.countP (·.isSome)
 |[],s=>rfl
 |x::l,s=>by
  rw[lC1,List.range'_succ,aE,List.countP_cons];have ih:=live_len l (s+1);have e:(List.filterMap (λj=>Option.map (λx=>(j,x)) ((x::l).getD (j-s) Y)) (List.range' (s+1) l.length))=List.filterMap (λj=>(l.getD (j-(s+1)) Y).map (j,·)) (List.range' (s+1) l.length):=by
   refine ow _ λj a=>?_;rw[List.mem_range'_1]at a;rw[show j-s=(j-(s+1))+1 by lia];rfl
  rw[e,cM];cases x with
  |none=>simpa using ih
  |some q=>simpa using ih
section
variable{prog:dF}{w:dH}{A:dG}{E:dB->dD->Prop}{s:dD}
end
theorem gG.grows{h h':dP}(hs:∀ a o,h.get? a=some o->h'.get? a=some o):∀ {k:TK} {v:dB},gG h k v->gG h' k v:=fun e=>e.rec (motive_1:=fun k v _=>gG h' k v) (motive_2:=fun k v _=>gU h' k v) .non .int
  (λ{a} _ _ _ _ f d c _ ih=>.tup (hs a _ f) d c ih) .nil (λ_ _ a b=>.cons a b)
section
variable{P:dF}{w:dH}{A:dG}{E:dB->dD->Prop}{s:dD}{p:dE}{xs:List (TK×dE×dB)}
end
section
variable{P:dF}{w:dH}{A:dG}{E:dB->dD->Prop}
end
section
variable{X:Cx}
end
section
variable{X:Cx}{pos:Pos}
theorem ce{op:CmpOp}{x y:Expr}{f:FN}{a b:FE}(ho:fV X (compareOp op) (r2 X.K f))(hx:XE X x a)(hy:XE X y b)(hm:behindInMarks op y=J:=by exact Ac _):XE X (.Compare x [op] [y] pos) (m2 f a b):=B0 ho hx hy hm
theorem ct{op:CmpOp}{x y:Expr}{f:FN}{a b:FE}(ho:fV X (compareOp op) (r2 X.K f))(hx:XE X x a)(hy:XE X y b)(hm:behindInMarks op y=J:=by exact Ac _):XT X (.Compare x [op] [y] pos) (mB (m2 f a b)):=qX ho hx hy hm
theorem kc{a:dS}{i:Nat}{l:List Nat}(x:Str)(r:∀i∈l,∃x,X.N[i]?=Z x/\a.names.lookup x=Z .free/\(X.env.kindOf x=Z .cell\/X.env.kindOf x=Z .free)/\(x,NameKind.cell)∉a.names)(h1:X.N[i]?=Z x:=by rfl)(h2:a.names.lookup x=Z .free:=by rfl)(c:X.env.kindOf x=Z .cell\/X.env.kindOf x=Z .free:=by first|exact Or.inl rfl|exact Or.inr rfl)(b:(x,NameKind.cell)∉a.names:=by decide+kernel):∀j∈i::l,∃x,X.N[j]?=Z x/\a.names.lookup x=Z .free/\(X.env.kindOf x=Z .cell\/X.env.kindOf x=Z .free)/\(x,NameKind.cell)∉a.names:=List.forall_mem_cons.mpr ⟨⟨x,h1,h2,c,b⟩,r⟩
end
structure eB (K:Fg1)(x:Str)(st:dR)(f:dE):Prop where
 ns:wN1 K dI x=some (some (.ref f))
 fn:∃fd,yU K x x st f fd
theorem IX{K:Fg1}{x:Str}{st:dR}{f:dE}{h:dB}{i j:Option dE}{d:Array (Option dB)}{kV e g b ct:dB}(a:wN1 K dI x=Z (Z (.ref f)))(l:K.lookup f=Z ⟨h,i,.func (wF1 x x (hC st) (fu st) (d9 st) .none kV e g j b ct),d⟩)(c:wC1 K b x=M)(k:wK1 K (.ref f)=M):eB K x st f:=⟨a,_,A0 l c k⟩
theorem xo{P:dF}{w:dH}{K:Fg1}{mg:Str->Option dB}{base h:dP}{x:Str}{st:dR}{f:dE}{N ps:List Str}{k n:Nat}{b:FS}(X:K.In h)(G:h.Ns dI mg)(F:eB K x st f)(S:gu N ps (d9 st))(hb:∀(kV g j:dB) (l:Option dE) (a ct:dB) (e:List dB),e.length=ps.length->bindArgs (wF1 x x (hC st) (fu st) (d9 st) .none kV g j l a ct) ⟨e,[]⟩=pure (ps.zip e))(d:∀(f:dE) (a:dB) (A:dG) (c:List Env) (s:dD) (H:Hp) (E:XK),fN k (A.deeper (envOfC x (d9 st) s.heap.objs.size f a)) ->
   vH (mT uo P w K mg base N x (d9 st) f a A c s H E).nox (fu st) b)(hn:ps.length=n:=by rfl):fg P w K mg base (k+1) x n (gW N.length b):=by
 obtain⟨fd,i⟩:=F.fn;exact BW i (i.binds hb) (wM1 X G F.ns) S hn (d f)
section
variable{X:Cx}{ag:List (dE×Obj)}{σ:L2.St}{H:Hp}{s:dD}{mu:List dE}
end
section
variable{P:dF}{w:dH}{A:dG}{E:dB->dD->Prop}{s:dD}{a x:dE}{xs:List (TK×dE×dB)}{k:TK}
end
section
variable{X:Cx}
end
section
variable{X:Cx}{o e:Expr}{es:List Expr}{to:TE}{t:TA}{name:Str}{apos cpos:Pos}{id:String}{r:V->List V->Hp->VK->Prop}
end
section
variable{X:Cx}
end
section
variable{X:Cx}{x y z u:Expr}{pos:Pos}{f g k:FN}{a b c d:FE}{op op' op'':CmpOp}{ta tb tc td:TE}
end
structure Blt (L:List Str)(mg:Str->Option dB):Prop where
 h:∀x∈L,mg x=none
theorem bz{L:List Str}{mg:Str->Option dB}{x:Str}(B:Blt L mg)(h:x∈L:=by decide):mg x=Y:=B.h x h
theorem sk{N P:List Str}{sc:dS}(h1:sc.kind = .function:=by rfl)(h2:sc.isCoroutine=J:=by rfl)(a:sc.isGenerator=J:=by rfl)(d:N.Nodup:=by decide+kernel)(e:N.take P.length=P:=by rfl)(b:∀x∈P,sc.names.lookup x=Z .local\/sc.names.lookup x=Z .cell:=by decide+kernel)(c:∀y∈sc.names,y.2 ≠ .free:=by decide+kernel):gu N P sc:=⟨h1,h2,a,d,e,b,c⟩
def Jp(K:Fg1):List Str->Prop
 |[]=>True
 |x::l=>wN1 K dI x=Z Y/\Jp K l
theorem Jp.blt{K:Fg1}{mg:Str->Option dB}{h:dP}(X:K.In h)(G:h.Ns dI mg):∀{L:List Str},Jp K L->Blt L mg
 |[],_=>⟨λ_ m=>nomatch m⟩
 |_::_,z=>⟨λ_ m=>match m with
  | .head _=>PySem.W.mg_none_of X G z.1
  | .tail _ m=>(Jp.blt X G z.2).h _ m⟩
noncomputable def JC:List Str->Bool
 |[]=>M
 |x::l=> !l.contains x&&JC l
theorem ja:∀{l:List Str},JC l=M->l.Nodup
 |[],_=>bo
 |x::l,h=>by
  obtain⟨a,b⟩:=(bA1 _ _).mp h;exact aO.mpr ⟨λm=>(by rw[cN.mpr m]at a;cases a),ja b⟩
section
variable{X:Cx}{pos:Pos}{k:Nat}{x:Str}{i:Nat}{e y:Expr}{es:List Expr}{m b:FE}{a:FA}{p:Pos}
theorem xv (hN:X.N[i]?=Z x:=by rfl)(hv:Hf X.env.scope x:=by first|exact Or.inl rfl|exact Or.inr (Or.inl rfl)|exact Or.inr (Or.inr rfl))(hd:(x == ("__debug__":Str))=J:=by decide)(hcd:(x == ("__classdict__":Str))=J:=by decide):XE X (.Name x pos) (mV i):=Lb i hN hv hd hcd
theorem gq(hN:JC X.N=M:=by rfl)(hi:X.N[i]?=Z x:=by rfl)(hx:yO X.env.scope x:=by first|exact Or.inl rfl|exact Or.inr rfl)(hf:X.fn x=M\/X.env.scope.names.lookup x=Z .local:=by first|exact .inl rfl|exact .inr rfl|assumption):XG X (.Name x pos) (gN i):=qO i (ja hN) hi hx hf
theorem sq(he:XE X e m)(hN:JC X.N=M:=by rfl)(hi:X.N[i]?=Z x:=by rfl)(hx:yO X.env.scope x:=by first|exact Or.inl rfl|exact Or.inr rfl)(hs:swapsWith e (Z (.Name x p)) pos.line X.env=pure J:=by rfl)(hf:X.fn x=M\/X.env.scope.names.lookup x=Z .local:=by first|exact .inl rfl|exact .inr rfl|assumption):XS X (.Assign [.Name x p] e pos) (eA m (gN i)):=qY i (ja hN) hi hx he hs hf
theorem jq(hx:XE X e m)(hy:XE X y b)(hr:fN k X.A:=by assumption)(hs:nk y:=by intro _ _;rfl):XE X (.Subscript e y pos) (m2 (b2 dZ) m b):=qJ (qP hr.units) hx hy hs
theorem oq{au:Prop}(o:X.A.units+64<cLine->au)(hr:fN k X.A:=by assumption):au:=o hr.units
theorem wn {k' n:Nat}{f:FN}(h:fg X.prog X.w X.K X.mg X.base k x n f)(ha:XA X (e::es) a)(hr:fN k' X.A:=by assumption)(hk:k<=k':=by first|decide|omega)(hg:Gl X x:=by rfl)(hdb:(x == ("__debug__":Str))=J:=by decide)(he:dJ (e::es) X.env=(J,eval e X.env)::dJ es X.env:=by rfl)(hpl:(backTo pos (dJ es X.env)).any (·.1)=J:=by rfl):XE X (.Call (.Name x p) (e::es) [] pos) (mN (dW n f) a):=qH h hr hk hg ha hdb he hpl
theorem cn {id:String}{f:FN}(hc:eZ X (.builtin id) (rN X.K f))(ha:XA X (e::es) a)(hm:X.mg x=Y:=by exact bz (by assumption))(hg:Gl X x:=by rfl)(hv:bootBuiltins x=Z (.builtin id):=by decide+kernel)(hn:x≠"__name__":=by decide)(hdb:(x == ("__debug__":Str))=J:=by decide)(he:dJ (e::es) X.env=(J,eval e X.env)::dJ es X.env:=by rfl)(hpl:(backTo pos (dJ es X.env)).any (·.1)=J:=by rfl):XE X (.Call (.Name x p) (e::es) [] pos) (mN f a):=qD hc hg hm hv ha hn hdb he hpl
theorem cz {T:String}{f:FN}(hc:eZ X (.type T) (rN X.K f))(ha:XA X (e::es) a)(hm:X.mg x=Y:=by exact bz (by assumption))(hg:Gl X x:=by rfl)(hv:bootBuiltins x=Z (.type T):=by decide+kernel)(hn:x≠"__name__":=by decide)(hdb:(x == ("__debug__":Str))=J:=by decide)(he:dJ (e::es) X.env=(J,eval e X.env)::dJ es X.env:=by rfl)(hpl:(backTo pos (dJ es X.env)).any (·.1)=J:=by rfl):XE X (.Call (.Name x p) (e::es) [] pos) (mN f a):=qE hc hg hm hv ha hn hdb he hpl
theorem a1(h:XE X e m)(hs:dJ [e] X.env=(J,eval e X.env)::dJ [] X.env:=by rfl):XA X [e] (dU m dV):=qA h qN hs
theorem a2(h:XE X e m)(g:XE X y b)(hs:dJ [e,y] X.env=(J,eval e X.env)::dJ [y] X.env:=by rfl)(hs2:dJ [y] X.env=(J,eval y X.env)::dJ [] X.env:=by rfl):XA X [e,y] (dU m (dU b dV)):=qA h (a1 g hs2) hs
theorem a3{z:Expr}{c:FE}(h:XE X e m)(g:XE X y b)(l:XE X z c)(hs:dJ [e,y,z] X.env=(J,eval e X.env)::dJ [y,z] X.env:=by rfl)(hs2:dJ [y,z] X.env=(J,eval y X.env)::dJ [z] X.env:=by rfl)(a:dJ [z] X.env=(J,eval z X.env)::dJ [] X.env:=by rfl):XA X [e,y,z] (dU m (dU b (dU c dV))):=qA h (a2 g l hs2 a) hs
theorem ir (ha:XA X [e] a)(hm:X.mg "range"=Y:=by exact bz (by assumption))(hg:Gl X "range":=by rfl)(hs:dJ [e] X.env=[(J,eval e X.env)]:=by rfl):XI X y (.Call (.Name "range" p) [e] [] pos) (vh a):=uz hg hm ha hs
theorem ii {T:Ty}{p2:Pos}(h:XE X e m)(hm:X.mg "isinstance"=Y:=by exact bz (by assumption))(hm2:X.mg x=Y:=by exact bz (by assumption))(hg:Gl X "isinstance":=by rfl)(hg2:Gl X x:=by rfl)(hv2:bootBuiltins x=Z (.type T.nm):=by decide+kernel)(hn:x≠"__name__":=by decide)(hd:(x == ("__debug__":Str))=J:=by decide)(hs1:dJ [e,.Name x p2] X.env=(J,eval e X.env)::dJ [.Name x p2] X.env:=by rfl)(hs2:dJ [.Name x p2] X.env=(J,eval (.Name x p2) X.env)::dJ [] X.env:=by rfl)(hpl:(backTo pos (dJ [.Name x p2] X.env)).any (·.1)=J:=by rfl):XE X (.Call (.Name "isinstance" p) [e,.Name x p2] [] pos) (j9 T m):=uB T hg hm hg2 hm2 hv2 h hn hd hs1 hs2 hpl
structure Lm (X:Cx)(name:Str)(id:String)(f:FN):Prop where
 s:Slot "list" name id
 t:typeOf (.builtin id)=pure (.type "method_descriptor")
 m:Ew X id (λx xs H Q=>rN X.K f (x::xs) H Q)
theorem ap:Lm X "append" "list.append" (b2 lY):=⟨PySem.F.slot_list_append,PySem.F.type_list_append,HD⟩
theorem lq{f:FN}{name:Str}{apos:Pos}{id:String}(s:Lm X name id f)(ho:XE X y m)(ha:XA X (e::es) a)(hbase:attributeBase y name X.env (eval y X.env)=eval y X.env:=by rfl)(hfew:((backTo pos (dJ (e::es) X.env)).all (λx=> !x.1)&&(backToKw pos (keywordEach [] X.env)).all (λx=>x.1.isSome)&&decide ((e::es).length+([]:List Keyword).length+(if([]:List Keyword).isEmpty then 0 else 1)<30))=M:=by rfl)(hline:(apos.endLine == pos.line)=M:=by rfl)(hs:dJ (e::es) X.env=(J,eval e X.env)::dJ es X.env:=by rfl)(hplain:(backTo pos (dJ es X.env)).any (·.1)=J:=by rfl):XS X (.Expr (.Call (.Attribute y name apos) (e::es) [] pos) p) (fT (tm f m a)):=kn (qe s.s s.t s.m ho ha hbase hfew hline hs hplain)
theorem fo{tg iter:Expr}{a:List dR}{m:FI}{g:FG}{b:FS}(hi:XI X tg iter m)(hg:XG X tg g)(hb:vH X a b)(hp:PassesOwn (model X.prog X.w) X.A X.env X.xe:=by exact PassesOwn.never)(hc:X.calm=M:=by rfl)(hs:∀x,foldedSetIterable iter X.env x=pure x:=by intro _;rfl):XS X (.For tg iter a [] pos) (je m g b):=qW hp hc hi hg hb hs
theorem tg2{d:Expr}{g h:FG}{a:Nat}(h1:XG X e g)(h2:XG X d h)(hc:X.calm=M:=by rfl)(hs:(assignEach [e,d] X.env).map (·.2)=assign e X.env::(assignEach [d] X.env).map (·.2):=by rfl)(hs2:(assignEach [d] X.env).map (·.2)=assign d X.env::(assignEach [] X.env).map (·.2):=by rfl)(hn:(assignEach [e,d] X.env).length=2:=by rfl)(hst:(assignEach [e,d] X.env).findIdx? (·.1)=Y:=by rfl):XG X (.Tuple [e,d] a pos) (gT 2 (gh g (gh h lF))):=jv hc (eE h1 (eE h2 ik hs2) hs) hn hst
noncomputable def JD(x:Str):List (Str×NameKind)->Bool
 |[]=>M
 |(y,.cell)::l=> !(y == x)&&JD x l
 |_::l=>JD x l
omit k i in
theorem Ag:∀{l:List (Str×NameKind)},JD x l=M->(x,NameKind.cell)∉l
 |[],_,m=>nomatch m
 |(y,c)::l,h,m=>by
  rcases aF.mp m with e|a
  ·cases e;have h:=((bA1 _ _).mp h).1;rw[beq_self_eq_true]at h;cases h
  ·cases c with
   |cell=>exact Ag ((bA1 _ _).mp h).2 a
   |_=>exact Ag (l:=l) h a
theorem kz{a:dS}{l:List Nat}(r:∀i∈l,∃x,X.N[i]?=Z x/\a.names.lookup x=Z .free/\(X.env.kindOf x=Z .cell\/X.env.kindOf x=Z .free)/\(x,NameKind.cell)∉a.names)(h1:X.N[i]?=Z x:=by rfl)(h2:a.names.lookup x=Z .free:=by rfl)(c:X.env.kindOf x=Z .cell\/X.env.kindOf x=Z .free:=by first|exact Or.inl rfl|exact Or.inr rfl)(b:JD x a.names=M:=by rfl):∀j∈i::l,∃x,X.N[j]?=Z x/\a.names.lookup x=Z .free/\(X.env.kindOf x=Z .cell\/X.env.kindOf x=Z .free)/\(x,NameKind.cell)∉a.names:=kc x r h1 h2 c (Ag b)
noncomputable def K5(X:Cx)(sc:dS):List (Str×dE):=(iY X.env.cells sc.names []).getD []
theorem fk{elt tg iter:Expr}{ifs:List Expr}{scope:dS}(T:List Str){keep:List Nat}{m:FI}{g:FG}{t:FT}{e:FE}(hi:XI X tg iter m)(hb:∀ {s H f},JQ (cxC X scope (K5 X scope) T keep s H f) X.K tg ifs elt g t e)(b:∀i∈keep,∃x,X.N[i]?=Z x/\scope.names.lookup x=Z .free/\(X.env.kindOf x=Z .cell\/X.env.kindOf x=Z .free)/\(x,NameKind.cell)∉scope.names:=by first|exact cO _|exact kz (cO _)|exact kz (kz (cO _))|exact kz (kz (kz (cO _)))|exact kz (kz (kz (kz (cO _)))))(hc:X.calm=M:=by rfl)(c:scope.kind = .function:=by rfl)(a:∀x∈scope.names,x.2 = .local->scope.names.lookup x.1=Z .local:=by decide+kernel)(d:iY X.env.cells scope.names []=Z (K5 X scope):=by rfl)(hs:∀x,foldedSetIterable iter X.env x=pure x:=by intro _;rfl):XE X (.ListComp elt [⟨tg,iter,ifs,0⟩] scope pos) (eS T.length keep m g t (eD e)):=qZ hc ⟨c,a,b⟩ d hi (λ_ _ _=>hb) hs
end
theorem xq{P:dF}{w:dH}{K:Fg1}{mg:Str->Option dB}{base h:dP}{x:Str}{st:dR}{f:dE}{k n:Nat}{b:FS}(N:List Str)(X:K.In h)(G:h.Ns dI mg)(F:eB K x st f)(d:∀{f:dE} {a:dB} {A:dG} {c:List Env} {s:dD} {H:Hp} {E:XK},fN k (A.deeper (envOfC x (d9 st) s.heap.objs.size f a)) ->
   vH (mT uo P w K mg base N x (d9 st) f a A c s H E).nox (fu st) b)(S:gu N (N.take n) (d9 st):=by exact sk)(hb:∀(kV i j:dB) (l:Option dE) (a ct:dB) (e:List dB),e.length=(N.take n).length->bindArgs (wF1 x x (hC st) (fu st) (d9 st) .none kV i j l a ct) ⟨e,[]⟩=pure ((N.take n).zip e):=by
   intro _ _ _ _ _ _ e g;first|exact KZ g λ_=>rfl|exact KY g λ_ _=>rfl|exact KX g λ_ _ _=>rfl|exact KW g λ_ _ _ _=>rfl)(hn:(N.take n).length=n:=by rfl):fg P w K mg base (k+1) x n (gW N.length b):=xo X G F S hb (λ_ _ _ _ _ _ _ m=>d m) hn
open AutoSeq1 (wpAny_loadPart')
section
variable{X:Cx}
end
mutual
noncomputable def pl:D->Bool
 | .non=>M
 | .bl _=>M
 | .int _=>M
 | .str _=>M
 | .tup xs=>m6 xs
 |_=>J
noncomputable def m6:List D->Bool
 |[]=>M
 |x::xs=>pl x&&m6 xs
end
section
variable{X:Cx}{ag:List (dE×Obj)}{σ:L2.St}{H:Hp}{s:dD}{mu:List dE}{S:Sto}
mutual
theorem v7(I:Inv X ag σ H s):∀{d d':D} {v:V},pl d=M->pl d'=M->eH X.K H mu d v->eH X.K H mu d' v->d=d'
 | .non,d',_,_,h,.non,r=>by cases r;rfl
 | .bl b,d',_,_,h,.bl _,r=>by cases r;rfl
 | .int i,d',_,_,h,.int _,r=>by cases r;rfl
 | .str x,d',_,_,h,.str _,r=>by cases r;rfl
 | .tup xs,d',_,g,h,.tup q t,r=>by
  cases r with
  |tup c a=>
   have e:=I.tuple_inj q c;subst e;rw[pl]at g h;rw[sI I g h t a]
  |rol _ _=>cases h
  |ref _=>cases h
  |fn _=>cases h
 | .rol _,_,_,g,_,_,_=>by cases g
 | .ref _,_,_,g,_,_,_=>by cases g
 | .fn _,_,_,g,_,_,_=>by cases g
theorem sI(I:Inv X ag σ H s):∀{ds a:List D} {vs:List V},m6 ds=M->m6 a=M->d2 X.K H mu ds vs->d2 X.K H mu a vs->ds=a
 |[],_,_,_,_,.nil,r=>by cases r;rfl
 |d::ds,_,_,g,h,.cons r t,z=>by
  cases z with
  |cons c b=>
   rw[m6,bA1]at g h;rw[v7 I g.1 h.1 r c,sI I g.2 h.2 t b]
end
end
noncomputable def ji:D->Option Bool
 | .tup (.int _::_)=>Z M
 | .tup (.tup _::_)=>Z J
 |_=>Y
noncomputable def Kr(a b:D):Bool:=ka [] 51 a b == Z M
noncomputable def yn(a:D):List D->List D
 |[]=>[a]
 |b::l=>if Kr a b=M then a::b::l else b::yn a l
noncomputable def kE:List D->List D
 |[]=>[]
 |a::l=>yn a (kE l)
noncomputable def pW(a b:D):Bool:=ka [] 51 a b == Z M&&ka [] 51 b a == Z J
noncomputable def mm:List D->Bool
 |[]=>M
 |a::l=>l.all (pW a)&&mm l
theorem kN:∀{l:List D} {i j:Nat} {a b:D},mm l=M->l[i]?=Z a->l[j]?=Z b->i<j->pW a b=M
 |[],i,j,a,b,_,h,_,_=>by simp at h
 |x::l,0,j+1,a,b,h,h1,h2,_=>by
  rw[mm,bA1,bC]at h;simp at h1 h2;subst h1;exact h.1 b (gM1 h2)
 |x::l,i+1,j+1,a,b,h,h1,h2,hij=>by
  rw[mm,bA1]at h;exact kN h.2 (by simpa using h1) (by simpa using h2) (by lia)
 |x::l,i,0,a,b,_,_,_,hij=>by lia
abbrev Tr:=D×V×dB
noncomputable def yk(a:Tr):List Tr->List Tr
 |[]=>[a]
 |b::l=>if Kr a.1 b.1=M then a::b::l else b::yk a l
noncomputable def ss:List Tr->List Tr
 |[]=>[]
 |a::l=>yk a (ss l)
theorem p9(a:Tr):∀l:List Tr,(yk a l).Perm (a::l)
 |[]=>.refl _
 |b::l=>by
  rw[yk];split
  ·exact .refl _
  ·exact((p9 a l).cons b).trans (.swap _ _ _)
theorem nB:∀l:List Tr,(ss l).Perm l
 |[]=>.refl _
 |a::l=>(p9 a _).trans ((nB l).cons a)
theorem tI(a:Tr):∀l:List Tr,(yk a l).map (·.1)=yn a.1 (l.map (·.1))
 |[]=>rfl
 |b::l=>by
  rw[yk,mP1,yn];split
  ·rfl
  ·rw[mP1,tI a l]
theorem py:∀l:List Tr,(ss l).map (·.1)=kE (l.map (·.1))
 |[]=>rfl
 |a::l=>by rw[ss,mP1,kE,tI,py l]
section
variable{prog:dF}{w:dH}{A:dG}{E:dB->dD->Prop}{s:dD}
theorem Dg{a b:dE}{k l:Int}{t u:Tok}{g zs:List dB}{c:Bool}{Q:Bool->dD->Prop}(ha:IsTup s.heap a (Value.int k t::g).toArray)(hb:IsTup s.heap b (Value.int l u::zs).toArray)(f:k≠l/\c=decide (k<l)\/k=l/\uk A s g zs c)(h:Q c s):
  dM (model prog w) A (keyLt' (tuples' M) (.ref a) (.ref b)) Q E s:=by
 rcases f with⟨f,rfl⟩|⟨rfl,L⟩
 ·exact GE ha hb f h
 rw[iS];obtain⟨o,B,C,_,r⟩:=ha;obtain⟨D,y,F,_,v⟩:=hb;refine wB1 (listItems_at B r (wB1 (listItems_at y v ?_)));rw[bT,bL,bF];refine wB1 (wB1 ?_);dsimp only;refine wB1 (wpAny_eqBool_int ?_);simp only[beq_self_eq_true,b5,bF1,if_false];refine wP1 ?_;refine wpAny_mono (wpAny_forIn_list _ (λrest b s'=>s'=s/\b=(Y,()) /\ ∃(i:Nat) (vs ws:List dB),rest=(vs.zip ws).zipIdx (i+1)/\uk A s vs ws c/\vs.length+zs.length=ws.length+g.length)
  (λb s'=>s'=s/\(b=(Z c,())\/(b=(Y,())/\c=decide (g.length<zs.length)))) ?_ ?_ _ _ ⟨O,O,0,g,zs,O,L,by lia⟩) ?_ λ_ _ e=>e
 ·rintro x rest b s' ⟨rfl,rfl,i,vs,ws,d,m,j⟩;cases m with
  |nn=>simp at d
  |nc _ _=>simp at d
  |cn _ _=>simp at d
  | @eq p q ps n _ e t=>
   rw[bT,bL]at d;cases d;refine wB1 (e.of_in1 prog w E _ ?_);simp only[b5,bF1,if_false];exact wP1 ⟨O,O,i+1,ps,n,O,t,by simp at j;lia⟩
  | @lt p q ps n _ e t=>
   rw[bT,bL]at d;cases d;refine wB1 (e.of_in1 prog w E _ ?_);simp only[ci,if_true];rw[show(M&&(i+1 == 0))=J from rfl];exact wB1 (zY t (wP1 ⟨O,.inl O⟩))
 ·rintro b s' ⟨rfl,rfl,i,vs,ws,d,m,j⟩;refine⟨O,.inr ⟨O,?_⟩⟩;cases m with
  |nn=>simp at j;rw[ai (by lia)]
  |nc _ _=>simp at j;rw[ah (by lia)]
  |cn _ _=>simp at j;rw[ai (by lia)]
  |eq _ _=>simp at d
  |lt _ _=>simp at d
 ·rintro b s' ⟨rfl,z⟩;rcases z with rfl|⟨rfl,z⟩
  ·exact wP1 h
  ·refine wP1 ?_;rw[sT1,sT1,lC1,lC1,show decide (g.length+1<zs.length+1)=c by rw[z];congr 1;simp];exact h
end
section
variable{X:Cx}{ag:List (dE×Obj)}{σ:L2.St}{H:Hp}{s:dD}{mu:List dE}{S:Sto}
theorem GK(I:Inv X ag σ H s)(hs:Sim X.K H mu S){A:dG}(P:A.units+60<cLine){f:Bool}{d e:D}{v w:V}{u z:dB}{b:Bool}(y:eH X.K H mu d v)(F:eH X.K H mu e w)(B:d5 v u)(G:d5 w z)(hd:ji d=Z f)(he:ji e=Z f)(h:ka S 51 d e=Z b){E:dB->dD->Prop}{Q:Bool->dD->Prop}(q:Q b s):dM (model X.prog X.w) A (keyLt' (tuples' f) u z) Q E s:=by
 have C:∀{xs ys:List D} {vs ws:List V} {us zs:List dB} {b:Bool},d2 X.K H mu xs vs->d2 X.K H mu ys ws->ee vs us->ee ws zs->oX (fU S 50) (ka S 50) xs ys=Z b->uk A s us zs b:=
  λa i j g h=>AC I hs (A:=A) (n:=50) (by lia) (λN r2 L au h=>vb I hs 50 (A:=A.in1) (by show A.units+1+50<cLine;lia) N r2 L au h) a i j g h
 unfold ji at hd he;split at hd
 ·rename_i k _;cases hd;split at he
  ·rename_i l _;cases y with
   |tup o a=>
   cases F with
   |tup p i=>
   obtain⟨x,j,t,_⟩:=I.tuple o;obtain⟨m,g,r,_⟩:=I.tuple p;cases B;cases G;cases a with
   |cons a1 a=>
   cases i with
   |cons a2 i=>
   cases a1;cases a2;cases j with
   |cons K j=>
   cases g with
   |cons am g=>
   obtain⟨tk,rfl⟩:=K;obtain⟨ao,rfl⟩:=am;refine Dg t r ?_ q;have h:oX (fU S 50) (ka S 50) (.int k::_) (.int l::_)=Z b:=h;rw[oX]at h;by_cases c:k=l
   ·subst c;exact .inr ⟨rfl,C a i j g (by
     have e:fU S 50 (.int k) (.int k)=Z M:=by show Z (decide (k=k))=_;simp
     rw[e]at h;exact h)⟩
   ·refine .inl ⟨c,?_⟩;have e:fU S 50 (.int k) (.int l)=Z J:=by show Z (decide (k=l))=_;simp[c]
    rw[e]at h;have h:Z (decide (k<l))=Z b:=h;exact(Option.some.inj h).symm
  ·cases he
  ·cases he
 ·cases hd;split at he
  ·cases he
  ·cases y with
   |tup o a=>
   cases F with
   |tup p i=>
   obtain⟨x,j,t,_⟩:=I.tuple o;obtain⟨m,g,r,_⟩:=I.tuple p;cases B;cases G;exact GD t r (C a i j g h) q
  ·cases he
 ·cases hd
theorem EV(I:Inv X ag σ H s)(hs:Sim X.K H mu S){A:dG}(hu:A.units+60<cLine){f:Bool}{ds:List D}{vs:List V}{its:List dB}(r:d2 X.K H mu ds vs)(rv:ee vs its)(hp:m6 ds=true)(hk:∀d∈ds,ji d=some f)(hr:mm (kE ds)=true):
  ∃(K:List V) (ws:List dB),d2 X.K H mu (kE ds) K/\ee K ws/\its.Perm ws/\K.length=vs.length /\
   ∀c:dP,(∀b o,s.heap.get? b=Z o->c.get? b=Z o)->l9 X.prog X.w A {s with heap:=c} (tuples' f) ws (pairsOf its) /\
    (its≠[] -> ∀(E:dB->dD->Prop) (Q:SortKind->dD->Prop),Q (tuples' f) {s with heap:=c}->dM (model X.prog X.w) A (keyKind' its.toArray) Q E {s with heap:=c}):=by
 have p:∀{l:List D},m6 l=M -> ∀d∈l,pl d=M:=by
  intro l
  induction l with
  |nil=>intro _ d h;cases h
  |cons x l ih=>
   intro h d ao;rw[m6,bA1]at h;rcases aF.mp ao with rfl|z
   ·exact h.1
   ·exact ih h.2 d z
 have und:∀n,(∀d:D,pl d=M->d.und n=M) /\ ∀l:List D,m6 l=M->D.unds n l=M:=λn=>by
  refine⟨λd=>?_,λl=>?_⟩
  ·exact D.rec (motive_1:=λd=>pl d=M->d.und n=M) (motive_2:=λl=>m6 l=M->D.unds n l=M) (λ_=>rfl) (λ_ _=>rfl) (λ_ _=>rfl) (λ_ _=>rfl) (λxs ih h=>by rw[pl]at h;rw[D.und];exact ih h) (λ_ _ h=>by cases h) (λ_ h=>by cases h) (λ_ h=>by cases h) (λ_=>rfl) (λx xs h1 h2 h=>by rw[m6,bA1]at h;rw[D.unds,h1 h.1,h2 h.2];rfl) d
  ·exact D.rec_1 (motive_1:=λd=>pl d=M->d.und n=M) (motive_2:=λl=>m6 l=M->D.unds n l=M) (λ_=>rfl) (λ_ _=>rfl) (λ_ _=>rfl) (λ_ _=>rfl) (λxs ih h=>by rw[pl]at h;rw[D.und];exact ih h) (λ_ _ h=>by cases h) (λ_ h=>by cases h) (λ_ h=>by cases h) (λ_=>rfl) (λx xs h1 h2 h=>by rw[m6,bA1]at h;rw[D.unds,h1 h.1,h2 h.2];rfl) l
 have tri:∃aq:List Tr,aq.map (·.1)=ds/\aq.map (·.2.1)=vs/\aq.map (·.2.2)=its /\ ∀y∈aq,eH X.K H mu y.1 y.2.1/\d5 y.2.1 y.2.2:=by
  clear hk hr hp
  induction ds generalizing vs its with
  |nil=>cases r;cases rv;exact⟨[],O,O,O,λy h=>by cases h⟩
  |cons d ds ih=>
   cases r with
   |cons B t=>
   cases rv with
   |cons L tt=>
   obtain⟨aq,am,G,w,ok⟩:=ih t tt;refine⟨(d,_,_)::aq,by rw[mP1,am],by rw[mP1,G],by rw[mP1,w],λy m=>?_⟩;rcases aF.mp m with rfl|z
   ·exact⟨B,L⟩
   ·exact ok y z
 obtain⟨aq,rfl,rfl,rfl,ok⟩:=tri;have N:=nB aq;have em:=py aq;rw[<- em]at hr ⊢;generalize hZ:ss aq=wq at *
 have g:∀y∈wq,y∈aq:=λy m=>N.mem_iff.mp m;refine⟨wq.map (·.2.1),wq.map (·.2.2),?_,?_,(N.map _).symm,by rw[lM1,lM1,N.length_eq],λc keep=>⟨⟨?_,?_,?_⟩,λU E Q q=>?_⟩⟩
 ·clear hr hZ em N
  induction wq with
  |nil=>exact .nil
  |cons y wq ih=>exact .cons (ok y (g y mS1)).1 (ih λz hz=>g z (mC1 _ hz))
 ·clear hr hZ em N
  induction wq with
  |nil=>exact .nil
  |cons y wq ih=>exact .cons (ok y (g y mS1)).2 (ih λz hz=>g z (mC1 _ hz))
 ·refine cw.mpr fun i j hi hj au e=>?_;rw [lM1] at hi hj;rw [List.getElem_map,List.getElem_map] at e;have F:=g _ (bS hi);have C:=g _ (bS hj);have T:=kN hr (i:=i) (j:=j) (a:=wq[i].1) (b:=wq[j].1) (by rw [gP1,gG1 hi];rfl) (by rw [gP1,gG1 hj];rfl) au;obtain ⟨B,L⟩:=ok _ F;obtain ⟨r2,q2⟩:=ok _ C;have h1:=hk wq[i].1 (cc.mpr ⟨_,F,rfl⟩);have h2:=hk wq[j].1 (cc.mpr ⟨_,C,rfl⟩);have isT:∀ {d:D} {v:V} {u:dB},ji d=some f->eH X.K H mu d v->d5 v u -> ∃ a,v = .ref a/\u = .ref a:=fun {d v u} ao rd ru=>by
   cases rd with
   |tup _ _=>cases ru;exact⟨_,O,O⟩
   |_=>cases ao
  obtain⟨a1,am,G⟩:=isT h1 B L;obtain⟨a2,w,e4⟩:=isT h2 r2 q2;rw[G,e4]at e;cases e;rw[am]at B;rw[w]at r2;have e:=v7 I (p hp _ (cc.mpr ⟨_,F,O⟩)) (p hp _ (cc.mpr ⟨_,C,O⟩)) B r2;unfold pW at T;rw[e,bA1,beq_iff_eq,beq_iff_eq]at T;rw[T.1]at T;cases T.2
 ·rw[pairsOf_toList];have:(aq.map (·.2.2) |>.zip (aq.map (·.2.2))).map (·.1)=aq.map (·.2.2):=List.map_fst_zip (nR1 _);rw[this];exact(N.map _).symm
 ·intro x y i j hx m au E Q q;rw[gP1]at hx m;obtain⟨yi,R,rfl⟩:=oM1.mp hx;obtain⟨yj,W,rfl⟩:=oM1.mp m;have F:=g _ (gM1 R);have C:=g _ (gM1 W);have P:Inv X ag σ H {s with heap:=c}:=I.kept (t':=s.toks) keep;have ki:(wq.map (·.1))[i]?=Z yi.1:=by rw[gP1,R];rfl
  have kj:(wq.map (·.1))[j]?=Z yj.1:=by rw[gP1,W];rfl
  have pi:=(und 0).1 _ (p hp _ (cc.mpr ⟨_,F,O⟩));have pj:=(und 0).1 _ (p hp _ (cc.mpr ⟨_,C,O⟩));refine GK P hs hu (ok _ F).1 (ok _ C).1 (ok _ F).2 (ok _ C).2 (hk _ (cc.mpr ⟨_,F,O⟩)) (hk _ (cc.mpr ⟨_,C,O⟩)) ?_ q;rw[wz pi pj];by_cases z:i<j
  ·have:=kN hr ki kj z;unfold pW at this;simp only[bA1,beq_iff_eq]at this;rw[ah z];exact this.1
  ·have:=kN hr kj ki (by lia);unfold pW at this;simp only[bA1,beq_iff_eq]at this;rw[ai z];exact this.2
 ·have P:Inv X ag σ H {s with heap:=c}:=I.kept (t':=s.toks) keep;have ao:∀ y∈aq,∃ a xs,y.2.2 = .ref a/\IsTup c a xs/\(if f=true then ∃ k t ps,xs=(Value.int k t::ps).toArray else ∃ b ps qs,xs=(Value.ref b::ps).toArray/\IsTup c b qs):=fun y m=>by
   have h1:=hk y.1 (cc.mpr ⟨_,m,O⟩);obtain⟨B,L⟩:=ok y m;obtain⟨d,v,u⟩:=y;dsimp only at *
   unfold ji at h1;split at h1
   ·cases h1;cases B with
    |tup q t=>
    obtain⟨is,v1,i1,_⟩:=P.tuple q;cases t with
    |cons a1 t=>
    cases a1;cases v1 with
    |cons w1 v1=>
    obtain⟨tk,rfl⟩:=w1;cases L;exact⟨_,_,O,i1,by rw[ak O];exact⟨_,_,_,O⟩⟩
   ·cases h1;cases B with
    |tup q t=>
    obtain⟨is,v1,i1,_⟩:=P.tuple q;cases t with
    |cons a1 t=>
    cases a1 with
    |tup q2 t2=>
    obtain⟨is2,v2,i2,_⟩:=P.tuple q2;cases v1 with
    |cons w1 v1=>
    cases w1;cases L;exact⟨_,_,O,i1,by rw[aj aK];exact⟨_,_,_,O,i2⟩⟩
   ·cases h1
  cases f with
  |true=>
   refine GG U (λv hv=>?_) q;obtain⟨y,m,rfl⟩:=cc.mp hv;obtain⟨a,xs,am,G,w⟩:=ao y m;rw[ak O]at w;obtain⟨k,t,ps,rfl⟩:=w;exact⟨a,k,t,ps,am,G⟩
  |false=>
   refine GF U (λv hv=>?_) q;obtain⟨y,m,rfl⟩:=cc.mp hv;obtain⟨a,xs,am,G,w⟩:=ao y m;rw[aj aK]at w;obtain⟨b,ps,qs,rfl,e4⟩:=w;exact⟨a,_,ps,b,qs,am,G,O,e4⟩
end
section
variable{prog:dF}{w:dH}{A:dG}{E:dB->dD->Prop}{s:dD}
end
noncomputable def oi(l:List D):Option Bool:=match l with
 |[]=>Z M
 |d::l=>match ji d with
  |some f=>if(l.all λe=>ji e == Z f)=M then Z f else Y
  |none=>Y
theorem vj:∀{l:List D} {f:Bool},oi l=Z f -> ∀d∈l,ji d=Z f
 |[],_,_,d,h=>by cases h
 |x :: l,f,h,d,hd=>by
  rw[oi]at h;cases hx:ji x with
  |none=>rw[hx]at h;cases h
  |some g=>
   rw[hx]at h;dsimp only at h;split at h
   ·rename_i a;cases h;rcases aF.mp hd with rfl|z
    ·exact hx
    ·have:=bC.mp a d z
     rwa [beq_iff_eq]at this
   ·cases h
mutual
theorem pl_tk:∀k:TK,pl (tkD k)=M
 | .non=>rfl
 | .int _=>rfl
 | .tup xs=>by rw[tkD,pl];exact zL xs
theorem zL:∀ks:List TK,m6 (hW ks)=M
 |[]=>rfl
 |k::ks=>by rw[hW,m6,pl_tk k,zL ks];rfl
end
section
variable{X:Cx}
end
noncomputable def Hr:Bool->Keyed->Array Keyed->Nat->Nat->Nat->StateT SortSt Sem (Option Nat):=sortPriv%PySem.Builtin.gallop
abbrev rk(ws:List dB)(p:Keyed):Nat:=rkV ws p.1
section
variable{prog:dF}{w:dH}{A:dG}{E:dB->dD->Prop}{s:dD}{κ:SortKind}{ws:List dB}{a₀:Array Keyed}
theorem l9.lt2(C:l9 prog w A s κ ws a₀){st:SortSt}{p q:Keyed}{Q:Option Bool->SortSt->Prop}(hk:kindOf st=κ)(hp:p∈a₀)(b:q∈a₀)(a:rk ws p≠rk ws q)(h:Q (Z (decide (rk ws p<rk ws q))) st):wpS (model prog w) A E s (lt' p q) Q st:=by
 have at_:∀{p:Keyed},p∈a₀->ws[rk ws p]?=Z p.1:=λ{p} hp=>zz (C.keys.mem_iff.mp (cc.mpr ⟨_,aM.mpr hp,O⟩));rw[lt'_eq];refine wpS_bind (wpS_get ?_);rw[hk];exact wpS_bind (wpS_lift (wpAny_attempt (C.lt p.1 q.1 _ _ (at_ hp) (at_ b) a _ _ ⟨O,wpS_pure h⟩)))
noncomputable def bey(l:Bool)(key:Keyed)(arr:Array Keyed)(b i:Nat):StateT SortSt Sem (Option Bool):=elem' arr (b+i) >>= λx=>if l=M then lt' x key else lt' key x >>= λr=>pure (r.map λz=> !z)
theorem Je(C:l9 prog w A s κ ws a₀){st:SortSt}{l:Bool}{key p:Keyed}{arr:Array Keyed}{b i:Nat}{Q:Option Bool->SortSt->Prop}(hk:kindOf st=κ)(a:key∈a₀)(hp:arr[b+i]?=Z p)(hm:p∈a₀)(c:rk ws p≠rk ws key)(q:Q (Z (decide (rk ws p<rk ws key))) st):wpS (model prog w) A E s (bey l key arr b i) Q st:=by
 unfold bey;rw[elem'_eq,hp];refine wpS_bind (wpS_pure ?_);cases l with
 |true=>exact C.lt2 hk hm a c q
 |false=>
  refine wpS_bind (C.lt2 hk a hm (Ne.symm c) (wpS_pure ?_));have e:(!decide (rk ws key<rk ws p))=decide (rk ws p<rk ws key):=by rw[bQ];simp;lia
  show Q (Z (!decide (rk ws key<rk ws p))) st;rw[e];exact q
theorem wQ(C:l9 prog w A s κ ws a₀){st:SortSt}{l:Bool}{key:Keyed}{arr:Array Keyed}{b n h:Nat}{R:Nat->Nat}{Q:Option Nat->SortSt->Prop}(hk:kindOf st=κ)(ao:key∈a₀)(au:h<n)(D:∀i,i<n -> ∃p,arr[b+i]?=Z p/\p∈a₀/\rk ws p=R i/\R i≠rk ws key)(d:∀i j,i<j->j<n->R i<R j)(q:∀k,k<=n->(∀i,i<k->R i<rk ws key)->(∀i,k<=i->i<n->rk ws key<R i)->Q (Z k) st):wpS (model prog w) A E s (Hr l key arr b n h) Q st:=by
 have N:∀i,i<n -> ∀{Q:Option Bool->SortSt->Prop},Q (Z (decide (R i<rk ws key))) st->wpS (model prog w) A E s (bey l key arr b i) Q st:=λi hi Q I=>by
  obtain⟨p,h1,h2,G,y⟩:=D i hi;rw[<- G]at I y;exact Je C hk ao h1 h2 y I
 have ne:∀i,i<n->R i≠rk ws key:=λi hi=>by obtain⟨p,_,_,_,h⟩:=D i hi;exact h
 have K:∀ lo hi,lo<=hi->hi<=n->(∀ i,i<lo->R i<rk ws key)->(∀ i,hi<=i->i<n->rk ws key<R i) -> ∀ {f:Nat->Option (Option Nat)×Nat×Nat->StateT SortSt Sem (ForInStep (Option (Option Nat)×Nat×Nat))} {P:Option (Option Nat)×Nat×Nat->SortSt->Prop},
   (∀x c,f x c=(if c.2.1>=c.2.2 then pure (ForInStep.done (Y,c.2.1,c.2.2))else bey l key arr b (c.2.1+(c.2.2-c.2.1)/2) >>= λr=>match r with
    |some m=>if m=M then pure (ForInStep.yield (Y,c.2.1+(c.2.2-c.2.1)/2+1,c.2.2))else pure (ForInStep.yield (Y,c.2.1,c.2.1+(c.2.2-c.2.1)/2))
    |_=>pure (ForInStep.done (Z Y,c.2.1,c.2.2))))->(∀k c,k<=n->(∀i,i<k->R i<rk ws key)->(∀i,k<=i->i<n->rk ws key<R i)->c.1=Y->c.2.2=k->P c st)->wpS (model prog w) A E s (forIn [0:n] (Y,lo,hi) f) P st:=λlo hi h1 h2 G y f P V I=>by
  refine wpS_forRange (λx c st'=>st'=st /\ ∃lo hi,c=(Y,lo,hi)/\lo<=hi/\hi<=n/\hi-lo<=n-x/\(∀i,i<lo->R i<rk ws key) /\ ∀i,hi<=i->i<n->rk ws key<R i) ?_ ?_ ⟨O,lo,hi,O,h1,h2,by lia,G,y⟩
  ·rintro x c st' _ T ⟨rfl,lo,hi,rfl,am,g,o,a,B⟩;rw[V];dsimp only;by_cases z:lo>=hi
   ·rw[ak z];have e:lo=hi:=by lia
    subst e;exact wpS_pure (I lo _ g a B O O)
   ·rw[aj z];have hm:lo+(hi-lo)/2<hi:=by lia
    generalize aq:lo+(hi-lo)/2=m at *
    refine wpS_bind (N m (by lia) ?_);by_cases t:R m<rk ws key
    ·simp only[t,decide_true,if_true];refine wpS_pure ⟨O,m+1,hi,O,by lia,g,by lia,λi W=>?_,B⟩;by_cases v:i=m
     ·rw[v];exact t
     ·exact bh (d i m (by lia) (by lia)) t
    ·simp only[t,decide_false,bF1,if_false];have F:rk ws key<R m:=by have:=ne m (by lia);lia
     refine wpS_pure ⟨O,lo,m,O,by lia,by lia,by lia,a,λi u H=>?_⟩;by_cases v:i=m
     ·rw[v];exact F
     ·exact bh F (d m i (by lia) H)
  ·rintro c st' ⟨rfl,lo,hi,rfl,am,g,o,a,B⟩;have e:lo=hi:=by lia
   subst e;exact I lo _ g a B O O
 unfold Hr;refine wpS_bind (N h au ?_);by_cases z:R h<rk ws key
 ·simp only[z,decide_true,if_true];refine wpS_bind (wpS_mono (wpS_forRange (λx c st'=>st'=st /\ ∃lo of,c=(Y,lo,of)/\x+1<=of/\lo<of/\h+lo<n/\R (h+lo)<rk ws key) (Q:=λc st'=>st'=st /\ ∃lo of,c=(Y,lo,of)/\lo<of/\h+lo<n/\R (h+lo)<rk ws key /\ ∀i,h+min of (n-h)<=i->i<n->rk ws key<R i) ?_ ?_ ⟨O,0,1,O,by lia,by lia,au,z⟩) ?_)
  ·rintro x c st' _ T ⟨rfl,lo,of,rfl,am,g,o,a⟩;dsimp only;by_cases L:of>=n-h
   ·rw[ak L];exact wpS_pure ⟨O,lo,of,O,g,o,a,λi u H=>by lia⟩
   ·rw[aj L];refine wpS_bind (N (h+of) (by lia) ?_);by_cases t:R (h+of)<rk ws key
    ·simp only[t,decide_true,b5,bF1,if_false];exact wpS_pure ⟨O,of,2*of+1,O,by lia,by lia,by lia,t⟩
    ·simp only[t,decide_false,ci,if_true];have F:rk ws key<R (h+of):=by have:=ne (h+of) (by lia);lia
     refine wpS_pure ⟨O,lo,of,O,g,o,a,λi u H=>?_⟩;by_cases v:i=h+of
     ·rw[v];exact F
     ·exact bh F (d (h+of) i (by lia) H)
  ·rintro c st' ⟨rfl,lo,of,rfl,am,g,o,a⟩;exact⟨O,lo,of,O,g,o,a,λi u H=>by lia⟩
  ·rintro c st' ⟨rfl,lo,of,rfl,g,o,a,B⟩;dsimp only;refine wpS_bind (K (h+lo+1) (h+min of (n-h)) (by lia) (by lia) (λi hi=>?_) B (λx c=>rfl) λk c h1 h2 G y u=>?_)
   ·by_cases v:i=h+lo
    ·rw[v];exact a
    ·exact bh (d i (h+lo) (by lia) o) a
   ·obtain⟨U,X,S⟩:=c;dsimp only at y u;subst y;subst u;exact wpS_pure (q S h1 h2 G)
 ·simp only[z,decide_false,bF1,if_false];have wq:rk ws key<R h:=by have:=ne h au;lia
  refine wpS_bind (wpS_mono (wpS_forRange (λx c st'=>st'=st /\ ∃lo of,c=(Y,lo,of)/\x+1<=of/\lo<of/\lo<=h/\rk ws key<R (h-lo)) (Q:=λc st'=>st'=st /\ ∃lo of,c=(Y,lo,of)/\lo<of/\lo<=h/\rk ws key<R (h-lo) /\ ∀i,i<h+1-min of (h+1)->R i<rk ws key) ?_ ?_ ⟨O,0,1,O,by lia,by lia,by lia,wq⟩) ?_)
  ·rintro x c st' _ T ⟨rfl,lo,of,rfl,am,g,o,a⟩;dsimp only;by_cases L:of>=h+1
   ·rw[ak L];exact wpS_pure ⟨O,lo,of,O,g,o,a,λi u=>by lia⟩
   ·rw[aj L];refine wpS_bind (N (h-of) (by lia) ?_);by_cases t:R (h-of)<rk ws key
    ·simp only[t,decide_true,if_true];refine wpS_pure ⟨O,lo,of,O,g,o,a,λi u=>?_⟩;by_cases v:i=h-of
     ·rw[v];exact t
     ·exact bh (d i (h-of) (by lia) (by lia)) t
    ·simp only[t,decide_false,bF1,if_false];have F:rk ws key<R (h-of):=by have:=ne (h-of) (by lia);lia
     exact wpS_pure ⟨O,of,2*of+1,O,by lia,by lia,by lia,F⟩
  ·rintro c st' ⟨rfl,lo,of,rfl,am,g,o,a⟩;exact⟨O,lo,of,O,g,o,a,λi u=>by lia⟩
  ·rintro c st' ⟨rfl,lo,of,rfl,g,o,a,B⟩;dsimp only;refine wpS_bind (K (h+1-min of (h+1)) (h-lo) (by lia) (by lia) B (λi u H=>?_) (λx c=>rfl) λk c h1 h2 G y u=>?_)
   ·by_cases v:i=h-lo
    ·rw[v];exact a
    ·exact bh a (d (h-lo) i (by lia) H)
   ·obtain⟨U,X,S⟩:=c;dsimp only at y u;subst y;subst u;exact wpS_pure (q S h1 h2 G)
end
noncomputable def Ka:Nat->StateT SortSt Sem Unit:=sortPriv%PySem.Builtin.setMinGallop
noncomputable def KS:Array Keyed->Array Keyed->StateT SortSt Sem (Array Keyed):=sortPriv%PySem.Builtin.mergeLo
noncomputable def KU:Array Keyed->Array Keyed->StateT SortSt Sem (Array Keyed):=sortPriv%PySem.Builtin.mergeHi
structure Sm (st st':SortSt):Prop where
 k:kindOf st'=kindOf st
 a:arrOf st'=arrOf st
 p:pendingOf st'=pendingOf st
 f:failedOf st'=failedOf st
theorem Sm.rfl{st:SortSt}:Sm st st:=⟨_root_.rfl,_root_.rfl,_root_.rfl,_root_.rfl⟩
theorem Sm.g{st st':SortSt}(h:Sm st st')(g:Nat):Sm st (SortSt.mk' (kindOf st') (arrOf st') (pendingOf st') g (failedOf st')):=⟨h.k,h.a,h.p,h.f⟩
def Srt(ws:List dB)(xs:List Keyed):Prop:=xs.Pairwise λp q=>rk ws p<rk ws q
def mK(ws:List dB)(xs ys:List Keyed):Prop:=∀x∈xs,∀y∈ys,rk ws x<rk ws y
section
variable{ws:List dB}{a b out xs ys zs:List Keyed}{i j k:Nat}
theorem Srt.app(h1:Srt ws xs)(h2:Srt ws ys)(h:mK ws xs ys):Srt ws (xs++ys):=cB.mpr ⟨h1,h2,h⟩
theorem mK.app(h1:mK ws xs zs)(h2:mK ws ys zs):mK ws (xs++ys) zs:=λx b y a=>(aG.mp b).elim (λh=>h1 x h y a) λh=>h2 x h y a
theorem mK.of(h:mK ws xs ys){a ys':List Keyed}(h1:∀x∈a,x∈xs)(h2:∀y∈ys',y∈ys):mK ws a ys':=λx b y c=>h x (h1 x b) y (h2 y c)
theorem Srt.split(h:Srt ws a)(i:Nat):mK ws (a.take i) (a.drop i):=by
 have:=h;unfold Srt at this;rw[<- cG i a]at this;exact(cB.mp this).2.2
structure J0 (ws:List dB)(a b out:List Keyed)(i j:Nat):Prop where
 la:i<=a.length
 lb:j<=b.length
 len:out.length=i+j
 pm:(out++(a.drop i++b.drop j)).Perm (a++b)
 so:Srt ws out
 ba:mK ws out (a.drop i)
 bb:mK ws out (b.drop j)
theorem J0.mvA(h:J0 ws a b out i j)(f:Srt ws a)(hk:i+k<=a.length)(hb:mK ws ((a.drop i).take k) (b.drop j)):J0 ws a b (out++(a.drop i).take k) (i+k) j:=by
 have e:a.drop i=(a.drop i).take k++a.drop (i+k):=by rw[<- bE,cG]
 have c:Srt ws (a.drop i):=f.sublist (cD _ _);refine⟨hk,h.lb,?_,?_,h.so.app (c.sublist (aU _ _)) (h.ba.of (λ_ h=>h) λ_ h=>cJ h),?_,h.bb.app hb⟩
 ·rw[lA1,h.len,aR,aV];lia
 ·have:=h.pm;rw[e,bH]at this;rw[bH];exact this
 ·refine mK.app (h.ba.of (λ_ h=>h) λy d=>?_) ?_
  ·rw[e];exact mA1 _ d
  ·have:=c.split k
   rwa [bE]at this
theorem J0.swap(h:J0 ws a b out i j):J0 ws b a out j i:=⟨h.lb,h.la,by rw[h.len,Nat.add_comm],(List.Perm.append_left _ cP).trans (h.pm.trans cP),h.so,h.bb,h.ba⟩
theorem J0.mvB(h:J0 ws a b out i j)(c:Srt ws b)(hk:j+k<=b.length)(hb:mK ws ((b.drop j).take k) (a.drop i)):J0 ws a b (out++(b.drop j).take k) i (j+k):=(h.swap.mvA c hk hb).swap
theorem vV{x:Keyed}(h:a[i]?=Z x):(a.drop i).take 1=[x]:=by
 have b:=(gE1.mp h).1;rw[bU b,cQ,cR,(gE1.mp h).2]
def Mgd(ws:List dB)(a b r:List Keyed):Prop:=r.Perm (a++b)/\Srt ws r
theorem J0.dn(h:J0 ws a b out i j)(d:Srt ws a)(c:j=b.length):Mgd ws a b (out++a.drop i++b.drop j):=by
 have e:b.drop j=[]:=by rw[c,List.drop_length]
 refine⟨by rw[bH];exact h.pm,?_⟩;rw[e,aN];exact h.so.app (d.sublist (cD _ _)) h.ba
theorem J0.ls(h:J0 ws a b out i j)(d:Srt ws a)(c:Srt ws b)(hb:mK ws (b.drop j) (a.drop i)):Mgd ws a b (out++b.drop j++a.drop i):=by
 refine⟨by rw[bH];exact(List.Perm.append_left _ cP).trans h.pm,?_⟩;exact(h.so.app (c.sublist (cD _ _)) h.bb).app (d.sublist (cD _ _)) (h.ba.app hb)
theorem Srt.drop_gt(h:Srt ws a){x:Keyed}(hx:a[i]?=Z x):∀y∈a.drop i,rk ws x<=rk ws y:=λy b=>by
 have d:=(gE1.mp hx).1;rw[bU d,(gE1.mp hx).2]at b;have c:Srt ws (a.drop i):=h.sublist (cD _ _);rw[bU d,(gE1.mp hx).2]at c;rcases aF.mp b with rfl|b
 ·exact nR1 _
 ·exact aD ((ca.mp c).1 y b)
end
section
variable{prog:dF}{w:dH}{A:dG}{E:dB->dD->Prop}{s:dD}{κ:SortKind}{ws:List dB}{a₀:Array Keyed}
theorem q7{st:SortSt}{g:Nat}{Q:Unit->SortSt->Prop}(h:Q () (SortSt.mk' (kindOf st) (arrOf st) (pendingOf st) g (failedOf st))):wpS (model prog w) A E s (Ka g) Q st:=wpS_modify h
theorem fr{st:SortSt}{arr:Array Keyed}{i:Nat}{p:Keyed}{Q:Keyed->SortSt->Prop}(h:arr[i]?=Z p)(q:Q p st):wpS (model prog w) A E s (elem' arr i) Q st:=by
 rw[elem'_eq,h];exact wpS_pure q
structure MC (ws:List dB)(a₀ a b:Array Keyed):Prop where
 ma:∀p∈a,p∈a₀
 mb:∀p∈b,p∈a₀
 sa:Srt ws a.toList
 sb:Srt ws b.toList
 ne:∀p∈a,∀q∈b,rk ws p≠rk ws q
 pa:0<a.size
 pb:0<b.size
 last:∀x,a[a.size-1]?=some x -> ∀q∈b,rk ws q<rk ws x
 head:∀x,b[0]?=some x -> ∀q∈a,rk ws x<rk ws q
theorem MC.galA(C:l9 prog w A s κ ws a₀){a b:Array Keyed}(ao:MC ws a₀ a b){st:SortSt}{l:Bool}{ia ib:Nat}{y:Keyed}{Q:Option Nat->SortSt->Prop}(hk:kindOf st=κ)(hy:b[ib]? = Z y)(n:ia<a.size)(q:∀k,ia+k<=a.size->(∀x∈(a.toList.drop ia).take k,rk ws x<rk ws y)->(∀x∈a.toList.drop (ia+k),rk ws y<rk ws x)->Q (Z k) st):wpS (model prog w) A E s (Hr l y a ia (a.size-ia) 0) Q st:=by
 have e:y∈b:=cf hy;refine wQ (R:=λi=>(a[ia+i]?.map (rk ws)).getD 0) C hk (ao.mb y e) (by lia) (λi hi=>?_) (λi j m o=>?_) λk h1 h2 h=>q k (by lia) (λx g=>?_) λx g=>?_
 ·have c:ia+i<a.size:=by lia
  refine⟨a[ia+i],aG1 c,ao.ma _ (cS c),by rw[aG1 c];rfl,?_⟩;rw[aG1 c];exact ao.ne _ (cS c) _ e
 ·have c:ia+i<a.size:=by lia
  have d:ia+j<a.size:=by lia
  rw[aG1 c,aG1 d];have:=cw.mp ao.sa (ia+i) (ia+j) (by simpa using c) (by simpa using d) (by lia);simpa using this
 ·obtain⟨i,hi⟩:=bq g;have f:i<k:=by have:=(gE1.mp hi).1;rw[aR]at this;lia
  rw[aT f,cC,aT1]at hi;have:=h2 i f;rw[hi]at this;exact this
 ·obtain⟨i,hi⟩:=bq g;rw[cC,aT1]at hi;have c:=(Array.getElem?_eq_some_iff.mp hi).1;have:=h (k+i) (by lia) (by lia);rw[<- bm,hi]at this;exact this
theorem MC.galB(C:l9 prog w A s κ ws a₀){a b:Array Keyed}(ao:MC ws a₀ a b){st:SortSt}{l:Bool}{ia ib:Nat}{y:Keyed}{Q:Option Nat->SortSt->Prop}(hk:kindOf st=κ)(hy:a[ia]? = Z y)(n:ib<b.size)(q:∀k,ib+k<=b.size->(∀x∈(b.toList.drop ib).take k,rk ws x<rk ws y)->(∀x∈b.toList.drop (ib+k),rk ws y<rk ws x)->Q (Z k) st):wpS (model prog w) A E s (Hr l y b ib (b.size-ib) 0) Q st:=by
 have e:y∈a:=cf hy;refine wQ (R:=λi=>(b[ib+i]?.map (rk ws)).getD 0) C hk (ao.ma y e) (by lia) (λi hi=>?_) (λi j m o=>?_) λk h1 h2 h=>q k (by lia) (λx g=>?_) λx g=>?_
 ·have c:ib+i<b.size:=by lia
  refine⟨b[ib+i],aG1 c,ao.mb _ (cS c),by rw[aG1 c];rfl,?_⟩;rw[aG1 c];exact(ao.ne _ e _ (cS c)).symm
 ·have c:ib+i<b.size:=by lia
  have d:ib+j<b.size:=by lia
  rw[aG1 c,aG1 d];have:=cw.mp ao.sb (ib+i) (ib+j) (by simpa using c) (by simpa using d) (by lia);simpa using this
 ·obtain⟨i,hi⟩:=bq g;have f:i<k:=by have:=(gE1.mp hi).1;rw[aR]at this;lia
  rw[aT f,cC,aT1]at hi;have:=h2 i f;rw[hi]at this;exact this
 ·obtain⟨i,hi⟩:=bq g;rw[cC,aT1]at hi;have c:=(Array.getElem?_eq_some_iff.mp hi).1;have:=h (k+i) (by lia) (by lia);rw[<- bm,hi]at this;exact this
end
theorem lh(a:Array Keyed)(i:Nat):(a.extract i a.size).toList=a.toList.drop i:=by
 rw[cA,cT,b8 (by simp)]
theorem tP(a:Array Keyed)(i k:Nat):(a.extract i (i+k)).toList=(a.toList.drop i).take k:=by
 rw[cA,cT,bt]
section
variable{prog:dF}{w:dH}{A:dG}{E:dB->dD->Prop}{s:dD}{κ:SortKind}{ws:List dB}{a₀:Array Keyed}
theorem JM{i j l g τ:Type}{A G:Prop}{f:i->j->l->g->τ}{R:i->j->l->g->Prop}{x:τ}(h:A /\ ∃a b c d,x=f a b c d/\R a b c d)(k:A -> ∀a b c d,x=f a b c d->R a b c d->G):G:=by
 obtain⟨h,a,b,c,d,e,r⟩:=h;exact k h a b c d e r
theorem JL{l m i g j τ:Type}{A G:Prop}{f:l->m->i->g->j->τ}{R:l->m->i->g->j->Prop}{x:τ}(h:A /\ ∃a b c d e,x=f a b c d e/\R a b c d e)(k:A -> ∀a b c d e,x=f a b c d e->R a b c d e->G):G:=by
 obtain⟨h,a,b,c,d,e,n,r⟩:=h;exact k h a b c d e n r
theorem JK{n o l i m j τ:Type}{A G:Prop}{f:n->o->l->i->m->j->τ}{R:n->o->l->i->m->j->Prop}{x:τ}(h:A /\ ∃a b c d e g,x=f a b c d e g/\R a b c d e g)(k:A -> ∀a b c d e g,x=f a b c d e g->R a b c d e g->G):G:=by
 obtain⟨h,a,b,c,d,e,g,p,r⟩:=h;exact k h a b c d e g p r
theorem IB(C:l9 prog w A s κ ws a₀){a b:Array Keyed}(ao:MC ws a₀ a b){st:SortSt}{Q:Array Keyed->SortSt->Prop}(hk:kindOf st=κ)(q:∀r st',Sm st st'->Mgd ws a.toList b.toList r.toList->Q r st'):wpS (model prog w) A E s (KS a b) Q st:=by
 have dn:∀{out:Array Keyed} {ia ib:Nat},J0 ws a.toList b.toList out.toList ia ib->ib=b.size->Mgd ws a.toList b.toList (out++a.extract ia a.size++b.extract ib b.size).toList:=λ{out ia ib} h e=>by
  rw[cy,cy,lh,lh];exact h.dn ao.sa (by rw[e];simp)
 have lastX:∀{ia:Nat},ia+1=a.size -> ∀y∈a.toList.drop ia,∀q∈b,rk ws q<rk ws y:=λ{ia} e y K q hq=>by
  have hl:ia<a.toList.length:=by rw[aJ];lia
  rw[bU hl,List.drop_of_length_le (by rw[aJ];lia)]at K;have:y=a.toList[ia]:=by simpa using K
  exact ao.last y (by rw[this,show a.size-1=ia by lia];simp) q hq
 have ls:∀{out:Array Keyed} {ia ib:Nat},J0 ws a.toList b.toList out.toList ia ib->ia+1=a.size->Mgd ws a.toList b.toList (out++b.extract ib b.size++a.extract ia a.size).toList:=λ{out ia ib} h e=>by
  rw[cy,cy,lh,lh];exact h.ls ao.sa ao.sb λx D y K=>lastX e y K x (aM.mp (cK D))
 have S:∀{i:Nat},i<a.size -> ∃x,a[i]?=Z x/\x∈a/\a.toList[i]?=Z x:=λ{i} h=>⟨a[i],aG1 h,cS h,by rw[aT1,aG1 h]⟩;have W:∀{i:Nat},i<b.size -> ∃x,b[i]?=Z x/\x∈b/\b.toList[i]?=Z x:=λ{i} h=>⟨b[i],aG1 h,cS h,by rw[aT1,aG1 h]⟩;have G:∀{out:Array Keyed} {ia ib:Nat} {y:Keyed},J0 ws a.toList b.toList out.toList ia ib->b.toList[ib]?=Z y->(∀x∈a.toList.drop ia,rk ws y<rk ws x)->J0 ws a.toList b.toList (out.push y).toList ia (ib+1):=λ{out ia ib y} h K hb=>by
  have:=h.mvB (k:=1) ao.sb (by have:=(gE1.mp K).1;lia) (by rw[vV K];intro x D z hz;rw[cU.mp D];exact hb z hz)
  rwa [vV K,<- cq]at this
 have T:∀{out:Array Keyed} {ia ib:Nat} {y:Keyed},J0 ws a.toList b.toList out.toList ia ib->a.toList[ia]?=Z y->(∀x∈b.toList.drop ib,rk ws y<rk ws x)->J0 ws a.toList b.toList (out.push y).toList (ia+1) ib:=λ{out ia ib y} h K hb=>by
  have:=h.mvA (k:=1) ao.sa (by have:=(gE1.mp K).1;lia) (by rw[vV K];intro x D z hz;rw[cU.mp D];exact hb z hz)
  rwa [vV K,<- cq]at this
 refine Exists.elim (W ao.pb) λb0 d=>?_;have hb0:=d.1;have mb0:=d.2.1;have lb0:=d.2.2;clear d
 unfold KS;refine wpS_bind (wpS_lift (wpAny_rule ⟨O,?_⟩));refine wpS_bind (fr hb0 ?_);have j0:J0 ws a.toList b.toList (#[]:Array Keyed).toList 0 0:=⟨bi _,bi _,O,.refl _,.nil,λx D=>(by cases D),λx D=>(by cases D)⟩;have j1:J0 ws a.toList b.toList (#[b0]:Array Keyed).toList 0 (0+1):=G j0 lb0 λx D=>ao.head b0 hb0 x (aM.mp (cK D));clear j0;by_cases z:1=b.size
 ·rw[ak (by simpa using z)];exact wpS_pure (q _ _ .rfl (dn j1 z))
 rw[aj (by simpa using z)];by_cases z2:0+1=a.size
 ·rw[ak (by simpa using z2)];exact wpS_pure (q _ _ .rfl (ls j1 z2))
 rw[aj (by simpa using z2)];have hpa:=ao.pa;have hpb:=ao.pb;refine wpS_bind (wpS_get ?_);refine wpS_bind (wpS_mono (wpS_forRange (λx c st'=>Sm st st' /\ ∃out ia ib g,c=(Y,out,ia,ib,g)/\J0 ws a.toList b.toList out.toList ia ib/\ia+1<a.size/\ib<b.size/\x+1<=out.toList.length)
  (Q:=λc st'=>Sm st st' /\ ∃r,c.1=Z r/\Mgd ws a.toList b.toList r.toList) ?_ ?_ ⟨.rfl,_,_,_,_,O,j1,by lia,by lia,nR1 _⟩) ?_)
 ·intro x c st' _ D l;refine JM l ?_;clear l;intro hs out ia ib g t d;subst t;have F:=d.1;have n:=d.2.1;have m:=d.2.2.1;have hn:=d.2.2.2;clear d
  dsimp only;refine wpS_bind (wpS_mono (wpS_forRange (λy c B=>Sm st B /\ ∃f ia ib P L,c=(Y,f,ia,ib,P,L)/\J0 ws a.toList b.toList f.toList ia ib/\ia+1<a.size/\ib<b.size/\out.toList.length+y<=f.toList.length)
   (Q:=λc B=>Sm st B/\((∃r,c.1=Z r/\Mgd ws a.toList b.toList r.toList) \/ ∃f ia ib P L,c=(Y,f,ia,ib,P,L)/\J0 ws a.toList b.toList f.toList ia ib/\ia+1<a.size/\ib<b.size/\out.toList.length+1<=f.toList.length)) ?_ ?_ ⟨hs,_,_,_,_,_,O,F,n,m,nR1 _⟩) ?_)
  ·intro y c B _ K l;refine JL l ?_;clear l;intro p f ia ib P L t d;subst t;have F:=d.1;have n:=d.2.1;have m:=d.2.2.1;have hn2:=d.2.2.2;clear d
   dsimp only;refine Exists.elim (W m) λu d=>?_;have hu:=d.1;have mu:=d.2.1;have lu:=d.2.2;clear d
   refine Exists.elim (S (show ia<a.size by lia)) λv d=>?_;have wq:=d.1;have mv:=d.2.1;have lv:=d.2.2;clear d
   refine wpS_bind (fr hu (wpS_bind (fr wq (wpS_bind (C.lt2 (p.k.trans hk) (ao.mb u mu) (ao.ma v mv) (ao.ne v mv u mu).symm ?_)))));by_cases z3:rk ws u<rk ws v
   ·simp only[z3,decide_true,if_true];refine wpS_bind (fr hu ?_);have am:=G F lu λx D=>nL1 z3 (ao.sa.drop_gt lv x D);have hl:(f.push u).toList.length=f.toList.length+1:=by simp
    by_cases I:ib+1=b.size
    ·rw[ak (by simpa using I)];exact wpS_pure ⟨p,.inl ⟨_,O,dn am I⟩⟩
    ·rw[aj (by simpa using I)];split
     ·exact wpS_pure ⟨p,.inr ⟨_,_,_,_,_,O,am,n,by lia,by lia⟩⟩
     ·exact wpS_pure ⟨p,_,_,_,_,_,O,am,n,by lia,by lia⟩
   ·simp only[z3,decide_false,bF1,if_false];have z5:rk ws v<rk ws u:=by have:=ao.ne v mv u mu;lia
    refine wpS_bind (fr wq ?_);have am:=T F lv λx D=>nL1 z5 (ao.sb.drop_gt lu x D);have hl:(f.push v).toList.length=f.toList.length+1:=by simp
    by_cases I:ia+1+1=a.size
    ·rw[ak (by simpa using I)];exact wpS_pure ⟨p,.inl ⟨_,O,ls am I⟩⟩
    ·rw[aj (by simpa using I)];split
     ·exact wpS_pure ⟨p,.inr ⟨_,_,_,_,_,O,am,by lia,m,by lia⟩⟩
     ·exact wpS_pure ⟨p,_,_,_,_,_,O,am,by lia,m,by lia⟩
  ·intro c B l;refine JL l ?_;clear l;intro p f ia ib P L t d;subst t;have F:=d.1;have n:=d.2.1;have m:=d.2.2.1;have hn2:=d.2.2.2;clear d
   exfalso;have:=F.len;lia
  ·rintro c B ⟨p,⟨r,aq,hm⟩|⟨f,ia,ib,P,L,rfl,F,n,m,hn2⟩⟩
   ·obtain⟨c1,c2⟩:=c;dsimp only at aq;subst aq;exact wpS_pure ⟨p,r,O,hm⟩
   dsimp only;refine wpS_bind (wpS_lift (wpAny_rule ⟨O,?_⟩));refine wpS_bind (wpS_mono (wpS_forRange (λy c B=>Sm st B /\ ∃j ia ib g P L,c=(Y,j,ia,ib,g,P,L)/\J0 ws a.toList b.toList j.toList ia ib/\ia+1<a.size/\ib<b.size/\f.toList.length+y<=j.toList.length)
    (Q:=λc B=>Sm st B/\((∃r,c.1=Z r/\Mgd ws a.toList b.toList r.toList) \/ ∃j ia ib g P L,c=(Y,j,ia,ib,g,P,L)/\J0 ws a.toList b.toList j.toList ia ib/\ia+1<a.size/\ib<b.size/\f.toList.length<=j.toList.length)) ?_ ?_ ⟨p,_,_,_,_,_,_,O,F,n,m,nR1 _⟩) ?_)
   ·intro y c N _ K l;refine JK l ?_;clear l;intro au j ia ib g P L t d;subst t;have F:=d.1;have n:=d.2.1;have m:=d.2.2.1;have hn3:=d.2.2.2;clear d
    dsimp only;refine Exists.elim (W m) λu d=>?_;have hu:=d.1;have mu:=d.2.1;have lu:=d.2.2;clear d
    refine(λ(main:∀g':Nat,(?T:Nat->Prop) g')=>?go) ?mn
    case go=>
     by_cases hg:g>1
     ·rw[ak hg];generalize g-1=g';exact main g'
     ·rw[aj hg];exact main g
    intro g';refine wpS_bind (q7 (wpS_bind (fr hu (wpS_bind (ao.galA (ia:=ia) C (au.k.trans hk) hu (by lia) λk h1 h2 h3=>?_)))));have H:=au.g g';generalize SortSt.mk' (kindOf N) (arrOf N) (pendingOf N) g' (failedOf N)=st4 at *
    dsimp only;refine(λ(V:∀(o:Array Keyed) (i:Nat),J0 ws a.toList b.toList o.toList i ib->i+1<a.size->(∀x∈a.toList.drop i,rk ws u<rk ws x)->f.toList.length+y<=o.toList.length->(?T2:Array Keyed->Nat->Prop) o i)=>?go2) ?mn2
    case go2=>
     by_cases R:k>0
     ·rw [if_pos R];have am:=F.mvA (k:=k) ao.sa (by rw [aJ];exact h1) fun x D z hz=>nL1 (h2 x D) (ao.sb.drop_gt lu z hz);rw [<- tP,<- cy] at am;have hlt:ia+k≠a.size:=fun e=>by
       refine Exists.elim (S (show a.size-1<a.size by lia)) λv d=>?_;have wq:=d.1;have mv:=d.2.1;have lv:=d.2.2;clear d
       have h4:=ao.last v wq u mu;have h5:=h2 v (gM1 (i:=a.size-1-ia) (by rw[aT (by lia),cC,show ia+(a.size-1-ia)=a.size-1 by lia];exact lv));lia
      have hl2:f.toList.length+y<=(j++a.extract ia (ia+k)).toList.length:=by rw[cy,lA1];lia
      by_cases I:ia+k+1=a.size
      ·rw[ak (by simpa using I)];exact wpS_pure ⟨H,.inl ⟨_,O,ls am I⟩⟩
      ·rw[aj (by simpa using I),aj (by simpa using hlt)];have h6:ia+k+1<a.size:=by lia
       generalize j++a.extract ia (ia+k)=o at am hl2 ⊢;have h8:=h3;generalize ia+k=i at am h6 h8 ⊢;exact V o i am h6 h8 hl2
     ·rw[aj R];have e:k=0:=by lia
      subst e;exact V j ia F n h3 hn3
    intro o i am hi hgt hlo;refine wpS_bind (fr hu ?_);have j2:=G am lu hgt;have hl2:(o.push u).toList.length=o.toList.length+1:=by simp
    by_cases I:ib+1=b.size
    ·rw[ak (by simpa using I)];exact wpS_pure ⟨H,.inl ⟨_,O,dn j2 I⟩⟩
    rw[aj (by simpa using I)];refine Exists.elim (S (show i<a.size by lia)) λv d=>?_;have wq:=d.1;have mv:=d.2.1;have lv:=d.2.2;clear d
    refine wpS_bind (fr wq (wpS_bind (ao.galB (ib:=ib+1) C (H.k.trans hk) wq (by lia) λX e1 e2 e3=>?_)));dsimp only;generalize o.push u=o1 at *
    generalize ib+1=j1' at *
    refine(λ(U:∀(o3:Array Keyed) (jb:Nat),J0 ws a.toList b.toList o3.toList i jb->jb<b.size->(∀x∈b.toList.drop jb,rk ws v<rk ws x)->o1.toList.length<=o3.toList.length->(?T3:Array Keyed->Nat->Prop) o3 jb)=>?go3) ?mn3
    case go3=>
     by_cases R:X>0
     ·rw[ak R];have j3:=j2.mvB (k:=X) ao.sb (by rw[aJ];exact e1) λx D z hz=>nL1 (e2 x D) (ao.sa.drop_gt lv z hz);rw[<- tP,<- cy]at j3;have hl3:o1.toList.length<=(o1++b.extract j1' (j1'+X)).toList.length:=by rw[cy,lA1];lia
      by_cases z5:j1'+X=b.size
      ·rw[ak (by simpa using z5)];exact wpS_pure ⟨H,.inl ⟨_,O,dn j3 z5⟩⟩
      ·rw[aj (by simpa using z5)];have h7:j1'+X<b.size:=by lia
       generalize o1++b.extract j1' (j1'+X)=o3 at j3 hl3 ⊢;have h8:=e3;generalize j1'+X=jb at j3 h7 h8 ⊢;exact U o3 jb j3 h7 h8 hl3
     ·rw[aj R];have e:X=0:=by lia
      subst e;exact U o1 j1' j2 (by have:=j2.lb;rw[aJ]at this;lia) e3 (nR1 _)
    intro o3 jb j3 hjb hgt3 hl3;refine wpS_bind (fr wq ?_);have j4:=T j3 lv hgt3;have hl4:(o3.push v).toList.length=o3.toList.length+1:=by simp
    by_cases z6:i+1+1=a.size
    ·rw[ak (by simpa using z6)];exact wpS_pure ⟨H,.inl ⟨_,O,ls j4 z6⟩⟩
    rw[aj (by simpa using z6)];split
    ·exact wpS_pure ⟨H,.inr ⟨_,_,_,_,_,_,O,j4,by lia,hjb,by lia⟩⟩
    ·exact wpS_pure ⟨H,_,_,_,_,_,_,O,j4,by lia,hjb,by lia⟩
   ·intro c N l;refine JK l ?_;clear l;intro au j ia ib g P L t d;subst t;have F:=d.1;have n:=d.2.1;have m:=d.2.2.1;have hn3:=d.2.2.2;clear d
    exfalso;have:=F.len;lia
   ·rintro c N ⟨au,⟨r,aq,hm⟩|⟨j,ia,ib,g,P,L,rfl,F,n,m,hn3⟩⟩
    ·obtain⟨c1,c2⟩:=c;dsimp only at aq;subst aq;exact wpS_pure ⟨au,r,O,hm⟩
    dsimp only;refine wpS_bind (q7 (wpS_pure ⟨au.g _,_,_,_,_,O,F,n,m,by lia⟩))
 ·intro c st' l;refine JM l ?_;clear l;intro hs out ia ib g t d;subst t;have F:=d.1;have n:=d.2.1;have m:=d.2.2.1;have hn:=d.2.2.2;clear d
  exfalso;have:=F.len;lia
 ·rintro c st' ⟨hs,r,aq,hm⟩;obtain⟨c1,c2⟩:=c;dsimp only at aq;subst aq;exact wpS_pure (q r _ hs hm)
end
section
variable{ws:List dB}{a b out xs ys zs:List Keyed}{i j k t:Nat}
theorem mK.to(h1:mK ws xs ys)(h2:mK ws xs zs):mK ws xs (ys++zs):=λx a y b=>(aG.mp b).elim (λh=>h1 x a y h) λh=>h2 x a y h
structure K0 (ws:List dB)(a b out:List Keyed)(i j:Nat):Prop where
 la:i<=a.length
 lb:j<=b.length
 len:out.length+(i+j)=a.length+b.length
 pm:(a.take i++b.take j++out.reverse).Perm (a++b)
 so:Srt ws out.reverse
 ba:mK ws (a.take i) out
 bb:mK ws (b.take j) out
theorem K0.swap(h:K0 ws a b out i j):K0 ws b a out j i:=⟨h.lb,h.la,by have:=h.len;lia,((cP).append_right _).trans (h.pm.trans cP),h.so,h.bb,h.ba⟩
theorem K0.mvA(h:K0 ws a b out i j)(k:Srt ws a)(hk:t<=i)(hb:mK ws (b.take j) ((a.take i).drop t)):K0 ws a b (out++((a.take i).drop t).reverse) t j:=by
 have e:a.take i=a.take t++(a.take i).drop t:=by
  have:=(cG t (a.take i)).symm
  rwa [List.take_take,bB hk]at this
 have g:Srt ws (a.take i):=k.sublist (aU _ _);have l:=h.la;have len:=h.len;have sp:=g.split t;rw[List.take_take,bB hk]at sp;refine⟨by lia,h.lb,?_,?_,?_,?_,?_⟩
 ·rw[lA1,List.length_reverse,aV,aR];lia
 ·rw[List.reverse_append,List.reverse_reverse];refine List.Perm.trans ?_ h.pm;generalize (a.take i).drop t=c at e;rw[e,bH,bH,bH];refine List.Perm.append_left _ ?_;rw[<- bH,<- bH];exact List.perm_append_comm.append_right _
 ·rw[List.reverse_append,List.reverse_reverse];exact Srt.app (g.sublist (cD _ _)) h.so λx d y f=>h.ba x (cK d) y (cV.mp f)
 ·exact(h.ba.of (λx d=>by rw[e];exact aH _ d) λ_ h=>h).to λx d y f=>sp x d y (cV.mp f)
 ·exact h.bb.to λx d y f=>hb x d y (cV.mp f)
theorem K0.mvB(h:K0 ws a b out i j)(c:Srt ws b)(hk:t<=j)(hb:mK ws (a.take i) ((b.take j).drop t)):K0 ws a b (out++((b.take j).drop t).reverse) i t:=(h.swap.mvA c hk hb).swap
theorem En{x:Keyed}(h:a[i]?=Z x):(a.take (i+1)).drop i=[x]:=by
 have b:=(gE1.mp h).1;rw[cr,h,List.drop_append_of_le_length (by rw[aR];lia),List.drop_of_length_le (by rw[aR];lia)];rfl
theorem K0.dn(h:K0 ws a b out i j)(e:Srt ws b)(hi:i=0):Mgd ws a b (a.take i++b.take j++out.reverse):=by
 refine⟨h.pm,?_⟩;rw[hi,cR,cW];exact Srt.app (e.sublist (aU _ _)) h.so λx c y d=>h.bb x c y (cV.mp d)
theorem K0.fs(h:K0 ws a b out i j)(f:Srt ws a)(e:Srt ws b)(hb:mK ws (b.take j) (a.take i)):Mgd ws a b (b.take j++a.take i++out.reverse):=by
 refine⟨(List.perm_append_comm.append_right _).trans h.pm,?_⟩;exact(Srt.app (e.sublist (aU _ _)) (f.sublist (aU _ _)) hb).app h.so (mK.app (λx c y d=>h.bb x c y (cV.mp d)) λx c y d=>h.ba x c y (cV.mp d))
theorem Srt.take_lt(h:Srt ws a){x:Keyed}(hx:a[i]?=Z x):∀y∈a.take (i+1),rk ws y<=rk ws x:=λy b=>by
 rw[cr,hx]at b;rcases aG.mp b with b|b
 ·have c:=(gE1.mp hx).1;exact aD (h.split i y b x (by rw[bU c,(gE1.mp hx).2];exact mS1))
 ·have:y=x:=by simpa using b
  rw[this];exact nR1 _
end
theorem wU(a:Array Keyed)(i:Nat):(a.extract 0 i).toList=a.toList.take i:=by
 rw[cA,cT,bX,Nat.sub_zero]
theorem Ek{a:Array Keyed}{i t:Nat}(h:t<=i):(a.extract t i).reverse.toList=((a.toList.take i).drop t).reverse:=by
 rw[cX,cA,cT,List.drop_take]
section
variable{prog:dF}{w:dH}{A:dG}{E:dB->dD->Prop}{s:dD}{κ:SortKind}{ws:List dB}{a₀:Array Keyed}
theorem IS(C:l9 prog w A s κ ws a₀){a:Array Keyed}{st:SortSt}{l:Bool}{n:Nat}{y:Keyed}{Q:Option Nat->SortSt->Prop}(hk:kindOf st=κ)(r:∀ p∈a,p∈a₀)(m:Srt ws a.toList)(hy:y∈a₀)(f:∀ p∈a,rk ws p≠rk ws y)(hn:0<n)(g:n<=a.size)(q:∀k,k<=n->(∀x∈a.toList.take k,rk ws x<rk ws y)->(∀x∈(a.toList.take n).drop k,rk ws y<rk ws x)->Q (Z k) st):wpS (model prog w) A E s (Hr l y a 0 n (n-1)) Q st:=by
 refine wQ (R:=λi=>(a[0+i]?.map (rk ws)).getD 0) C hk hy (by lia) (λi hi=>?_) (λi j o t=>?_) λk h1 h2 h=>q k h1 (λx e=>?_) λx e=>?_
 ·have b:0+i<a.size:=by lia
  refine⟨a[0+i],aG1 b,r _ (cS b),by rw[aG1 b];rfl,?_⟩;rw[aG1 b];exact f _ (cS b)
 ·have b:0+i<a.size:=by lia
  have c:0+j<a.size:=by lia
  rw[aG1 b,aG1 c];have:=cw.mp m (0+i) (0+j) (by simpa using b) (by simpa using c) (by lia);simpa using this
 ·obtain⟨i,hi⟩:=bq e;have d:i<k:=by have:=(gE1.mp hi).1;rw[aR]at this;lia
  rw[aT d,aT1]at hi;have:=h2 i d;rw[cY,hi]at this;exact this
 ·obtain⟨i,hi⟩:=bq e;have b:=(gE1.mp hi).1;rw[aV,aR,aJ]at b;rw[cC,aT (by lia),aT1]at hi;have:=h (k+i) (by lia) (by lia);rw[cY,hi]at this;exact this
theorem IC(C:l9 prog w A s κ ws a₀){a b:Array Keyed}(ao:MC ws a₀ a b){st:SortSt}{Q:Array Keyed->SortSt->Prop}(hk:kindOf st=κ)(q:∀r st',Sm st st'->Mgd ws a.toList b.toList r.toList->Q r st'):wpS (model prog w) A E s (KU a b) Q st:=by
 have dn:∀{out:Array Keyed} {na nb:Nat},K0 ws a.toList b.toList out.toList na nb->na=0->Mgd ws a.toList b.toList (a.extract 0 na++b.extract 0 nb++out.reverse).toList:=λ{out na nb} h e=>by
  rw[cy,cy,wU,wU,cX];exact h.dn ao.sb e
 have firstX:∀{nb:Nat},nb=1 -> ∀y∈b.toList.take nb,∀q∈a,rk ws y<rk ws q:=λ{nb} e y au q hq=>by
  subst e;have hl:0<b.toList.length:=by rw[aJ];exact ao.pb
  have:b.toList.take 1=[b.toList[0]]:=by
   conv=>lhs;rw[cr,cR,gG1 hl]
   rfl
  rw[this]at au;rw[cU.mp au];exact ao.head _ (by simp) q hq
 have fs:∀{out:Array Keyed} {na nb:Nat},K0 ws a.toList b.toList out.toList na nb->nb=1->Mgd ws a.toList b.toList (b.extract 0 nb++a.extract 0 na++out.reverse).toList:=λ{out na nb} h e=>by
  rw[cy,cy,wU,wU,cX];exact h.fs ao.sa ao.sb λx G y au=>firstX e x G y (aM.mp (cJ au))
 have X:∀{i:Nat},i<a.size -> ∃x,a[i]?=Z x/\x∈a/\a.toList[i]?=Z x:=λ{i} h=>⟨a[i],aG1 h,cS h,by rw[aT1,aG1 h]⟩;have getB:∀{i:Nat},i<b.size -> ∃x,b[i]?=Z x/\x∈b/\b.toList[i]?=Z x:=λ{i} h=>⟨b[i],aG1 h,cS h,by rw[aT1,aG1 h]⟩;have V:∀{out:Array Keyed} {na nb:Nat} {y:Keyed},K0 ws a.toList b.toList out.toList na nb->0<nb->b.toList[nb-1]?=Z y->(∀x∈a.toList.take na,rk ws x<rk ws y)->K0 ws a.toList b.toList (out.push y).toList na (nb-1):=λ{out na nb y} h h0 au hb=>by
  have e:=En au;rw[show nb-1+1=nb by lia]at e;have:=h.mvB (t:=nb-1) ao.sb (by lia) (by rw[e];intro x G z hz;rw[cU.mp hz];exact hb x G);rw[e,List.reverse_singleton,<- cq]at this;exact this
 have K:∀{out:Array Keyed} {na nb:Nat} {y:Keyed},K0 ws a.toList b.toList out.toList na nb->0<na->a.toList[na-1]?=Z y->(∀x∈b.toList.take nb,rk ws x<rk ws y)->K0 ws a.toList b.toList (out.push y).toList (na-1) nb:=λ{out na nb y} h h0 au hb=>by
  have e:=En au;rw[show na-1+1=na by lia]at e;have:=h.mvA (t:=na-1) ao.sa (by lia) (by rw[e];intro x G z hz;rw[cU.mp hz];exact hb x G);rw[e,List.reverse_singleton,<- cq]at this;exact this
 have U:∀{out:Array Keyed} {na nb:Nat},K0 ws a.toList b.toList out.toList na nb->out.toList.length+(na+nb)=a.size+b.size:=λ{out na nb} h=>by have:=h.len;rwa [aJ (xs:=a),aJ (xs:=b)]at this
 have hpa:=ao.pa;have hpb:=ao.pb;refine Exists.elim (X (show a.size-1<a.size by lia)) λa1 d=>?_;have ha1:=d.1;have ma1:=d.2.1;have la1:=d.2.2;clear d
 have upA:∀{n:Nat} {v:Keyed},0<n->a.toList[n-1]?=Z v -> ∀x∈a.toList.take n,rk ws x<=rk ws v:=λ{n v} h hv x G=>ao.sa.take_lt hv x (by rw[show n-1+1=n by lia];exact G);have upB:∀{n:Nat} {v:Keyed},0<n->b.toList[n-1]?=Z v -> ∀x∈b.toList.take n,rk ws x<=rk ws v:=λ{n v} h hv x G=>ao.sb.take_lt hv x (by rw[show n-1+1=n by lia];exact G);unfold KU;refine wpS_bind (wpS_lift (wpAny_rule ⟨O,?_⟩));refine wpS_bind (fr ha1 ?_);have j0:K0 ws a.toList b.toList (#[]:Array Keyed).toList a.size b.size:=⟨by simp,by simp,by simp,by rw[<- aJ,<- aJ,bY,bY];simp,.nil,λx G y au=>(by cases au),λx G y au=>(by cases au)⟩;have j1:K0 ws a.toList b.toList (#[a1]:Array Keyed).toList (a.size-1) b.size:=K j0 ao.pa la1 λx G=>ao.last a1 ha1 x (aM.mp (cJ G));clear j0;by_cases z:a.size-1=0
 ·rw[ak (by simpa using z)];exact wpS_pure (q _ _ .rfl (dn j1 z))
 rw[aj (by simpa using z)];by_cases z2:b.size=1
 ·rw[ak (by simpa using z2)];exact wpS_pure (q _ _ .rfl (fs j1 z2))
 rw[aj (by simpa using z2)];refine wpS_bind (wpS_get ?_);refine wpS_bind (wpS_mono (wpS_forRange (λx c st'=>Sm st st' /\ ∃na nb out g,c=(Y,na,nb,out,g)/\K0 ws a.toList b.toList out.toList na nb/\0<na/\1<nb/\x+1<=out.toList.length)
  (Q:=λc st'=>Sm st st' /\ ∃r,c.1=Z r/\Mgd ws a.toList b.toList r.toList) ?_ ?_ ⟨.rfl,_,_,_,_,O,j1,by lia,by lia,nR1 _⟩) ?_)
 ·intro x c st' _ G l;refine JM l ?_;clear l;intro hs na nb out g F d;subst F;have I:=d.1;have m:=d.2.1;have B:=d.2.2.1;have hn:=d.2.2.2;clear d
  dsimp only;refine wpS_bind (wpS_mono (wpS_forRange (λy c H=>Sm st H /\ ∃na nb f T P,c=(Y,na,nb,f,T,P)/\K0 ws a.toList b.toList f.toList na nb/\0<na/\1<nb/\out.toList.length+y<=f.toList.length)
   (Q:=λc H=>Sm st H/\((∃r,c.1=Z r/\Mgd ws a.toList b.toList r.toList) \/ ∃na nb f T P,c=(Y,na,nb,f,T,P)/\K0 ws a.toList b.toList f.toList na nb/\0<na/\1<nb/\out.toList.length+1<=f.toList.length)) ?_ ?_ ⟨hs,_,_,_,_,_,O,I,m,B,nR1 _⟩) ?_)
  ·intro y c H _ au l;refine JL l ?_;clear l;intro D na nb f T P F d;subst F;have I:=d.1;have m:=d.2.1;have B:=d.2.2.1;have hn2:=d.2.2.2;clear d
   dsimp only;have lna:=I.la;have lnb:=I.lb;rw[aJ]at lna lnb;refine Exists.elim (getB (show nb-1<b.size by lia)) λu d=>?_;have hu:=d.1;have mu:=d.2.1;have lu:=d.2.2;clear d
   refine Exists.elim (X (show na-1<a.size by lia)) λv d=>?_;have hv:=d.1;have mv:=d.2.1;have lv:=d.2.2;clear d
   refine wpS_bind (fr hu (wpS_bind (fr hv (wpS_bind (C.lt2 (D.k.trans hk) (ao.mb u mu) (ao.ma v mv) (ao.ne v mv u mu).symm ?_)))));by_cases z3:rk ws u<rk ws v
   ·simp only[z3,decide_true,if_true];refine wpS_bind (fr hv ?_);have am:=K I m lv λx G=>bI (upB (by lia) lu x G) z3;have hl:(f.push v).toList.length=f.toList.length+1:=by simp
    by_cases N:na-1=0
    ·rw[ak (by simpa using N)];exact wpS_pure ⟨D,.inl ⟨_,O,dn am N⟩⟩
    ·rw[aj (by simpa using N)];split
     ·exact wpS_pure ⟨D,.inr ⟨_,_,_,_,_,O,am,by lia,B,by lia⟩⟩
     ·exact wpS_pure ⟨D,_,_,_,_,_,O,am,by lia,B,by lia⟩
   ·simp only[z3,decide_false,bF1,if_false];have z5:rk ws v<rk ws u:=by have:=ao.ne v mv u mu;lia
    refine wpS_bind (fr hu ?_);have am:=V I (by lia) lu λx G=>bI (upA m lv x G) z5;have hl:(f.push u).toList.length=f.toList.length+1:=by simp
    by_cases N:nb-1=1
    ·rw[ak (by simpa using N)];exact wpS_pure ⟨D,.inl ⟨_,O,fs am N⟩⟩
    ·rw[aj (by simpa using N)];split
     ·exact wpS_pure ⟨D,.inr ⟨_,_,_,_,_,O,am,m,by lia,by lia⟩⟩
     ·exact wpS_pure ⟨D,_,_,_,_,_,O,am,m,by lia,by lia⟩
  ·intro c H l;refine JL l ?_;clear l;intro D na nb f T P F d;subst F;have I:=d.1;have m:=d.2.1;have B:=d.2.2.1;have hn2:=d.2.2.2;clear d
   exfalso;have:=U I;lia
  ·rintro c H ⟨D,⟨r,hr,hm⟩|⟨na,nb,f,T,P,rfl,I,m,B,hn2⟩⟩
   ·obtain⟨c1,c2⟩:=c;dsimp only at hr;subst hr;exact wpS_pure ⟨D,r,O,hm⟩
   dsimp only;refine wpS_bind (wpS_lift (wpAny_rule ⟨O,?_⟩));refine wpS_bind (wpS_mono (wpS_forRange (λy c H=>Sm st H /\ ∃na nb j g T P,c=(Y,na,nb,j,g,T,P)/\K0 ws a.toList b.toList j.toList na nb/\0<na/\1<nb/\f.toList.length+y<=j.toList.length)
    (Q:=λc H=>Sm st H/\((∃r,c.1=Z r/\Mgd ws a.toList b.toList r.toList) \/ ∃na nb j g T P,c=(Y,na,nb,j,g,T,P)/\K0 ws a.toList b.toList j.toList na nb/\0<na/\1<nb/\f.toList.length<=j.toList.length)) ?_ ?_ ⟨D,_,_,_,_,_,_,O,I,m,B,nR1 _⟩) ?_)
   ·intro y c R _ au l;refine JK l ?_;clear l;intro S na nb j g T P F d;subst F;have I:=d.1;have m:=d.2.1;have B:=d.2.2.1;have hn3:=d.2.2.2;clear d
    dsimp only;have lna:=I.la;have lnb:=I.lb;rw[aJ]at lna lnb;refine Exists.elim (getB (show nb-1<b.size by lia)) λu d=>?_;have hu:=d.1;have mu:=d.2.1;have lu:=d.2.2;clear d
    refine(λ(main:∀g':Nat,(?T:Nat->Prop) g')=>?go) ?mn
    case go=>
     by_cases hg:g>1
     ·rw[ak hg];generalize g-1=g';exact main g'
     ·rw[aj hg];exact main g
    intro g';refine wpS_bind (q7 (wpS_bind (fr hu (wpS_bind (IS (n:=na) C (S.k.trans hk) ao.ma ao.sa (ao.mb u mu) (λp hp=>ao.ne p hp u mu) m lna λk h1 h2 h3=>?_)))));have L:=S.g g';generalize SortSt.mk' (kindOf R) (arrOf R) (pendingOf R) g' (failedOf R)=st4 at *
    dsimp only;generalize hac:na-k=acc;refine(λ(main2:∀(o:Array Keyed) (i:Nat),K0 ws a.toList b.toList o.toList i nb->0<i->(∀x∈a.toList.take i,rk ws x<rk ws u)->f.toList.length+y<=o.toList.length->(?T2:Array Keyed->Nat->Prop) o i)=>?go2) ?mn2
    case go2=>
     by_cases W:acc>0
     ·rw[ak W];have am:=I.mvA (t:=k) ao.sa h1 λx G z hz=>bI (upB (by lia) lu x G) (h3 z hz);rw[<- Ek h1,<- cy]at am;have hl2:f.toList.length+y<=(j++(a.extract k na).reverse).toList.length:=by rw[cy,lA1];lia
      by_cases N:k=0
      ·rw[ak (by simpa using N)];exact wpS_pure ⟨L,.inl ⟨_,O,dn am N⟩⟩
      ·rw[aj (by simpa using N)];generalize j++(a.extract k na).reverse=o at am hl2 ⊢;have aq:=h2;have h9:0<k:=by lia
       generalize k=i at am aq h9 ⊢;exact main2 o i am h9 aq hl2
     ·rw[aj W];have e:k=na:=by lia
      have aq:=h2;rw[e]at aq;exact main2 j na I m aq hn3
    intro o i am hi hgt hlo;refine wpS_bind (fr hu ?_);have j2:=V am (by lia) lu hgt;have hl2:(o.push u).toList.length=o.toList.length+1:=by simp
    by_cases N:nb-1=1
    ·rw[ak (by simpa using N)];exact wpS_pure ⟨L,.inl ⟨_,O,fs j2 N⟩⟩
    rw[aj (by simpa using N)];have li:=am.la;rw[aJ]at li;refine Exists.elim (X (show i-1<a.size by lia)) λv d=>?_;have hv:=d.1;have mv:=d.2.1;have lv:=d.2.2;clear d
    refine wpS_bind (fr hv (wpS_bind (IS (n:=nb-1) C (L.k.trans hk) ao.mb ao.sb (ao.ma v mv) (λp hp=>(ao.ne v mv p hp).symm) (by lia) (by lia) λk2 e1 e2 e3=>?_)));dsimp only;generalize o.push u=o1 at *
    have hnb:0<nb-1:=by lia
    generalize nb-1=j1' at *
    generalize hac2:j1'-k2=acc2;refine(λ(wq:∀(o3:Array Keyed) (jb:Nat),K0 ws a.toList b.toList o3.toList i jb->1<jb->(∀x∈b.toList.take jb,rk ws x<rk ws v)->o1.toList.length<=o3.toList.length->(?T3:Array Keyed->Nat->Prop) o3 jb)=>?go3) ?mn3
    case go3=>
     by_cases W:acc2>0
     ·rw[ak W];have j3:=j2.mvB (t:=k2) ao.sb e1 λx G z hz=>bI (upA hi lv x G) (e3 z hz);rw[<- Ek e1,<- cy]at j3;have hl3:o1.toList.length<=(o1++(b.extract k2 j1').reverse).toList.length:=by rw[cy,lA1];lia
      by_cases z5:k2=1
      ·rw[ak (by simpa using z5)];exact wpS_pure ⟨L,.inl ⟨_,O,fs j3 z5⟩⟩
      ·have h0:k2≠0:=fun e=>by
        subst e;refine Exists.elim (getB ao.pb) λb0 d=>?_;have hb0:=d.1;have mb0:=d.2.1;have lb0:=d.2.2;clear d
        have:=e3 b0 (gM1 (i:=0) (by rw[cC,aT (by lia)];exact lb0));have:=ao.head b0 hb0 v mv;lia
       rw[aj (by simpa using z5),aj (by simpa using h0)];generalize o1++(b.extract k2 j1').reverse=o3 at j3 hl3 ⊢;have aq:=e2;have h9:1<k2:=by lia
       generalize k2=jb at j3 aq h9 ⊢;exact wq o3 jb j3 h9 aq hl3
     ·rw[aj W];have e:k2=j1':=by lia
      have aq:=e2;rw[e]at aq;exact wq o1 j1' j2 (by lia) aq (nR1 _)
    intro o3 jb j3 hjb hgt3 hl3;refine wpS_bind (fr hv ?_);have j4:=K j3 hi lv hgt3;have hl4:(o3.push v).toList.length=o3.toList.length+1:=by simp
    by_cases z6:i-1=0
    ·rw[ak (by simpa using z6)];exact wpS_pure ⟨L,.inl ⟨_,O,dn j4 z6⟩⟩
    rw[aj (by simpa using z6)];split
    ·exact wpS_pure ⟨L,.inr ⟨_,_,_,_,_,_,O,j4,by lia,hjb,by lia⟩⟩
    ·exact wpS_pure ⟨L,_,_,_,_,_,_,O,j4,by lia,hjb,by lia⟩
   ·intro c R l;refine JK l ?_;clear l;intro S na nb j g T P F d;subst F;have I:=d.1;have m:=d.2.1;have B:=d.2.2.1;have hn3:=d.2.2.2;clear d
    exfalso;have:=U I;lia
   ·rintro c R ⟨S,⟨r,hr,hm⟩|⟨na,nb,j,g,T,P,rfl,I,m,B,hn3⟩⟩
    ·obtain⟨c1,c2⟩:=c;dsimp only at hr;subst hr;exact wpS_pure ⟨S,r,O,hm⟩
    dsimp only;refine wpS_bind (q7 (wpS_pure ⟨S.g _,_,_,_,_,O,I,m,B,by lia⟩))
 ·intro c st' l;refine JM l ?_;clear l;intro hs na nb out g F d;subst F;have I:=d.1;have m:=d.2.1;have B:=d.2.2.1;have hn:=d.2.2.2;clear d
  exfalso;have:=U I;lia
 ·rintro c st' ⟨hs,r,hr,hm⟩;obtain⟨c1,c2⟩:=c;dsimp only at hr;subst hr;exact wpS_pure (q r _ hs hm)
end
theorem se(c:Nat):∀ (m:List Keyed) (k:Nat) (arr:Array Keyed) (pre old b:List Keyed),arr.toList=pre++(old++b)->pre.length=c+k->old.length=m.length ->
  ((m.zipIdx k).foldl (λa (x:Keyed×Nat)=>a.setIfInBounds (c+x.2) x.1) arr).toList=pre++(m++b)
 |[],k,arr,pre,old,b,h1,h2,h3=>by
  have:old=[]:=cm.mp h3;subst this;exact h1
 |x::m,k,arr,pre,[],b,h1,h2,h3=>by simp at h3
 |x::m,k,arr,pre,o::old,b,h1,h2,h3=>by
  rw[bL,b9];have:=se c m (k+1) (arr.setIfInBounds (c+k) x) (pre++[x]) old b (by
   rw[Array.toList_setIfInBounds,h1,<- h2,cZ _ _ (nR1 _),cM];simp) (by rw[lA1,h2];rfl) (by simpa using h3)
  rw[this];simp
def fL:Nat->List (List Keyed)->List (Nat×Nat×Nat)->Prop
 |_,[],[]=>True
 |s,r::rs,(t,n,_)::p=>t=s/\n=r.length/\fL (s+r.length) rs p
 |_,_,_=>False
theorem we:∀ {s:Nat} {rs:List (List Keyed)} {p:List (Nat×Nat×Nat)},fL s rs p -> ∀ {i:Nat} {r1 r2:List Keyed},rs[i]? = some r1->rs[i+1]? = some r2 ->
  ∃d c,p[i]?=Z (s+(rs.take i).flatten.length,r1.length,d)/\p[i+1]?=Z (s+(rs.take i).flatten.length+r1.length,r2.length,c) /\
   fL s (rs.take i++(r1++r2)::rs.drop (i+2)) ((p.set i (s+(rs.take i).flatten.length,r1.length+r2.length,d)).eraseIdx (i+1))
 |s,[],p,h,i,r1,r2,h1,_=>by simp at h1
 |s,r::rs,[],h,i,r1,r2,_,_=>by cases h
 |s,r::rs,(t,n,d)::p,⟨e1,e2,h⟩,0,r1,r2,h1,h2=>by
  have l:r=r1:=by simpa using h1
  subst l
  match rs,p,h,h2 with
  |r2'::rs,(t2,n2,c)::p,⟨g,f,h⟩,h2=>
   have k:r2'=r2:=by simpa using h2
   subst k;subst e1;subst e2;subst g;subst f;refine⟨d,c,by simp,by simp,?_⟩;simp only[cR,List.flatten_nil,bf,Nat.add_zero,cW,List.drop_succ_cons,bX,c0,List.eraseIdx_cons_succ,List.eraseIdx_cons_zero];exact⟨O,by rw[lA1],by rw[lA1,<- bm];exact h⟩
 |s,r::rs,(t,n,d)::p,⟨e1,e2,h⟩,i+1,r1,r2,h1,h2=>by
  obtain⟨a,b,g,f,j⟩:=we h (i:=i) (by simpa using h1) (by simpa using h2);have e:s+((r::rs).take (i+1)).flatten.length=s+r.length+(rs.take i).flatten.length:=by rw[cQ,c5,lA1,bm]
  refine⟨a,b,by rw[e,gC1];exact g,by rw[e,gC1];exact f,?_⟩;rw[e,cQ,bj,c6,List.eraseIdx_cons_succ,List.drop_succ_cons];exact⟨e1,e2,j⟩
structure SR (ws:List dB)(κ:SortKind)(a₀:Array Keyed)(rs:List (List Keyed))(rest:List Keyed)(st:SortSt):Prop where
 k:kindOf st=κ
 f:failedOf st=none
 pm:(arrOf st).Perm a₀
 ar:(arrOf st).toList=rs.flatten++rest
 so:∀r∈rs,Srt ws r/\r≠[]
 pe:fL 0 rs (pendingOf st).toList
section
variable{prog:dF}{w:dH}{A:dG}{E:dB->dD->Prop}{s:dD}{κ:SortKind}{ws:List dB}{a₀:Array Keyed}
theorem l9.unlike(C:l9 prog w A s κ ws a₀){xs:Array Keyed}(p:xs.Perm a₀):xs.toList.Pairwise λu v=>rk ws u≠rk ws v:=by
 refine cw.mpr λi j hi a b e=>?_;rw[aJ]at hi a;have:=C.inj p (i:=i) (j:=j) (by rw[<- p.size_eq];exact hi) (by rw[<- p.size_eq];exact a) (by unfold kR;rw[aG1 hi,aG1 a];simpa using e);lia
theorem E1{σ:Type}{ao:Model}{st a:σ}{Q:Unit->σ->Prop}(h:Q () a):wpS ao A E s (set a:StateT σ Sem PUnit) Q st:=wpS_modify (f:=λ_=>a) h
theorem A8(xs:Array (Nat×Nat×Nat))(i:Nat):(xs.eraseIdxIfInBounds i).toList=xs.toList.eraseIdx i:=by
 unfold Array.eraseIdxIfInBounds;split
 ·rw[Array.toList_eraseIdx]
 ·rename_i h;rw[List.eraseIdx_of_length_le (by rw[aJ];lia)]
theorem pK:∀{A B:List (List Keyed)} {r b:List Keyed} {s:Nat} {p:List (Nat×Nat×Nat)},fL s (A++r::B) p->r.length=b.length->fL s (A++b::B) p
 |[],B,r,b,s,[],h,_=>by cases h
 |[],B,r,b,s,(t,n,pw)::p,h,e=>by
  obtain⟨h1,h2,c⟩:=(show t=s/\n=r.length/\fL (s+r.length) B p from h);exact⟨h1,by rw[<- e];exact h2,by rw[<- e];exact c⟩
 |a::A,B,r,b,s,[],h,_=>by cases h
 |a::A,B,r,b,s,(t,n,pw)::p,h,e=>by
  obtain⟨h1,h2,c⟩:=(show t=s/\n=a.length/\fL (s+a.length) (A++r::B) p from h);exact⟨h1,h2,pK c e⟩
theorem EU{rs:List (List Keyed)}{i:Nat}{c r2:List Keyed}(h1:rs[i]?=Z c)(h2:rs[i+1]?=Z r2):rs=rs.take i++c::r2::rs.drop (i+2):=by
 have a:=(gE1.mp h1);have b:=(gE1.mp h2);have:=(cG i rs).symm;rw[bU a.1,bU b.1,a.2,b.2]at this;exact this
theorem IR(C:l9 prog w A s κ ws a₀){st:SortSt}{l:Bool}{key:Keyed}{X:Array Keyed}{pre r a:List Keyed}{h:Nat}{Q:Option Nat->SortSt->Prop}(hk:kindOf st=κ)(n:X.toList=pre++(r++a))(hm:∀ x∈X,x∈a₀)(b:key∈a₀)(t:Srt ws r)(g:∀ x∈r,rk ws x≠rk ws key)(p:h<r.length)(q:∀k,k<=r.length->(∀x∈r.take k,rk ws x<rk ws key)->(∀x∈r.drop k,rk ws key<rk ws x)->Q (Z k) st):wpS (model prog w) A E s (Hr l key X pre.length r.length h) Q st:=by
 have at_:∀i,i<r.length->X[pre.length+i]?=r[i]?:=λi hi=>by
  rw[<- aT1,n,gR1 (br _ _),bt,gL1 hi]
 refine wQ (R:=λi=>(r[i]?.map (rk ws)).getD 0) C hk b p (λi hi=>?_) (λi j f m=>?_) λk h1 h2 o=>q k h1 (λx d=>?_) λx d=>?_
 ·have e:=at_ i hi;rw[gG1 hi]at e;refine⟨r[i],e,hm _ (cf e),by rw[gG1 hi];rfl,?_⟩;rw[gG1 hi];exact g _ (bS hi)
 ·rw[gG1 (show i<r.length by lia),gG1 m];exact cw.mp t i j (by lia) m f
 ·obtain⟨i,hi⟩:=bq d;have c:i<k:=by have:=(gE1.mp hi).1;rw[aR]at this;lia
  rw[aT c]at hi;have:=h2 i c;rw[hi]at this;exact this
 ·obtain⟨i,hi⟩:=bq d;rw[cC]at hi;have:=o (k+i) (by lia) (gE1.mp hi).1;rw[hi]at this;exact this
theorem SR.merge(C:l9 prog w A s κ ws a₀){rs:List (List Keyed)}{rest:List Keyed}{st:SortSt}{i:Nat}{a r2:List Keyed}{Q:Bool->SortSt->Prop}(h:SR ws κ a₀ rs rest st)(h1:rs[i]? = Z a)(h2:rs[i+1]? = Z r2)(q:∀r st',SR ws κ a₀ (rs.take i++r::rs.drop (i+2)) rest st'->Q M st'):wpS (model prog w) A E s (mergeAt' i) Q st:=by
 obtain⟨V,pw2,p1,p2,p3⟩:=we h.pe h1 h2;rw[aT1,cY]at p1 p2;rw[cY]at p3;have aq:=EU h1 h2;obtain⟨am,n1⟩:=h.so a (gM1 h1);obtain⟨K,n2⟩:=h.so r2 (gM1 h2);have others:∀r∈rs.take i,Srt ws r/\r≠[]:=λr g=>h.so r (cJ g);have others2:∀r∈rs.drop (i+2),Srt ws r/\r≠[]:=λr g=>h.so r (cK g);have l1:0<a.length:=c7.mpr n1;have l2:0<r2.length:=c7.mpr n2;have t:(arrOf st).toList=(rs.take i).flatten++(a++(r2++((rs.drop (i+2)).flatten++rest))):=by
  rw[h.ar]
  conv=>lhs;rw[aq]
  simp
 generalize P:(rs.take i).flatten=pre at *
 generalize F:(rs.drop (i+2)).flatten++rest=post at *
 have f:∀x∈arrOf st,x∈a₀:=λx c=>h.pm.mem_iff.mp c;have un:=C.unlike h.pm;have L:∀x∈a,x∈arrOf st:=λx c=>by rw[<- aM,t];simp[c]
 have S:∀x∈r2,x∈arrOf st:=λx c=>by rw[<- aM,t];simp[c]
 have n:∀x∈a,∀y∈r2,rk ws x≠rk ws y:=λx c y B=>by
  rw[t]at un;exact(cB.mp (cB.mp un).2.1).2.2 x c y (aH _ B)
 have hs:∀{st':SortSt} {r:List Keyed},kindOf st'=kindOf st->failedOf st'=failedOf st->(pendingOf st').toList=((pendingOf st).toList.set i (pre.length,a.length+r2.length,V)).eraseIdx (i+1)->(arrOf st').toList=pre++(r++post)->r.Perm (a++r2)->Srt ws r->Q M st':=λ{st' r} j l g3 g4 U g6=>by
  refine q r st' ⟨j.trans h.k,l.trans h.f,?_,?_,?_,?_⟩
  ·refine Array.Perm.trans ?_ h.pm;rw[cb,g4,t,<- bH a];exact List.Perm.append_left _ (U.append_right _)
  ·rw[g4,c8,c5,P,bH,bH,F]
  ·intro x c;rcases aG.mp c with c|c
   ·exact others x c
   ·rcases aF.mp c with rfl|c
    ·exact⟨g6,λe=>by rw[e]at U;have:=U.length_eq;rw[lA1,bf]at this;lia⟩
    ·exact others2 x c
  ·rw[g3];exact pK p3 (by rw[lA1,U.length_eq,lA1])
 obtain⟨u,W⟩:∃u,r2[0]?=some u:=⟨_,gG1 l2⟩;have mu:=gM1 W;obtain⟨v,au⟩:∃v,a[a.length-1]?=some v:=⟨_,gG1 (by lia)⟩;have mv:=gM1 au;have hXu:(arrOf st)[pre.length+a.length]?=Z u:=by
  rw[<- aT1,t,gR1 (br _ _),bt,gR1 (nR1 _),cM,gL1 l2];exact W
 have wq:(arrOf st)[pre.length+a.length-1]?=Z v:=by
  rw[<- aT1,t,gR1 (by lia),show pre.length+a.length-1-pre.length=a.length-1 by lia,gL1 (by lia)];exact au
 have R:(arrOf st).toList=(pre++a)++(r2++post):=by rw[t,bH]
 unfold mergeAt';refine wpS_bind (wpS_get ?_);dsimp only;rw[show(pendingOf st)[i]?=_ from p1,show(pendingOf st)[i+1]?=_ from p2];dsimp only;refine wpS_bind (E1 ?_);refine wpS_bind (fr hXu ?_);refine wpS_bind (IR (pre:=pre) (r:=a) C h.k t f (f u (S u mu)) am (λx c=>n x c u mu) l1 λk e1 T e3=>?_);dsimp only;have o:(((pendingOf st).setIfInBounds i (pre.length,a.length+r2.length,V)).eraseIdxIfInBounds (i+1)).toList=((pendingOf st).toList.set i (pre.length,a.length+r2.length,V)).eraseIdx (i+1):=by rw[A8,Array.toList_setIfInBounds]
 generalize ((pendingOf st).setIfInBounds i (pre.length,a.length+r2.length,V)).eraseIdxIfInBounds (i+1)=N at *
 have H:∀x∈r2,rk ws u<=rk ws x:=λx c=>K.drop_gt (i:=0) W x (by rw[bX];exact c);by_cases z:a.length-k=0
 ·rw[ak (by simpa using z)];have ek:k=a.length:=by lia
  subst ek;rw[bY]at T;exact wpS_pure (hs (r:=a++r2) O O o (by rw[bH];exact t) (.refl _) (am.app K λx c y B=>nL1 (T x c) (H y B)))
 rw[aj (by simpa using z),show pre.length+k+(a.length-k)-1=pre.length+a.length-1 by lia];refine wpS_bind (fr wq ?_);rw[show pre.length+a.length=(pre++a).length by rw[lA1]];refine wpS_bind (IR (pre:=pre++a) (r:=r2) C h.k R f (f v (L v mv)) K (λx c=>(n v mv x c).symm) (show r2.length-1<r2.length by lia) λk2 f1 f2 f3=>?_);dsimp only;have huv:rk ws u<rk ws v:=e3 v (gM1 (i:=a.length-1-k) (by rw[cC,show k+(a.length-1-k)=a.length-1 by lia];exact au));have hk2:k2≠0:=λe=>by
  subst e;have:=f3 u (by rw[bX];exact mu);lia
 rw[aj (by simpa using hk2)];have ex:((arrOf st).extract (pre.length+k) (pre++a).length).toList=a.drop k:=by
  rw[cA,cT,t,<- bE,List.drop_left,List.drop_append_of_le_length e1,lA1,show pre.length+a.length-(pre.length+k)=(a.drop k).length by rw[aV];lia,c9]
 have G:((arrOf st).extract (pre++a).length ((pre++a).length+k2)).toList=r2.take k2:=by
  rw[cA,cT,R,List.drop_left,bt,List.take_append_of_le_length f1]
 generalize c:(arrOf st).extract (pre.length+k) (pre++a).length=x at *
 generalize B:(arrOf st).extract (pre++a).length ((pre++a).length+k2)=y at *
 have lx:x.size=a.length-k:=by rw[<- aJ,ex,aV]
 have ly:y.size=k2:=by rw[<- aJ,G,aR];lia
 have ao:MC ws a₀ x y:=by
  refine⟨λp d=>?_,λp d=>?_,?_,?_,λp d r g=>?_,by lia,by lia,λp d r g=>?_,λp d r g=>?_⟩
  ·rw[<- aM,ex]at d;exact f p (L p (cK d))
  ·rw[<- aM,G]at d;exact f p (S p (cJ d))
  ·rw[ex];exact am.sublist (cD _ _)
  ·rw[G];exact K.sublist (aU _ _)
  ·rw[<- aM,ex]at d;rw[<- aM,G]at g;exact n p (cK d) r (cJ g)
  ·rw[<- aM,G]at g;rw[<- aT1,ex,cC,lx,show k+(a.length-k-1)=a.length-1 by lia,au]at d;cases d;exact f2 r g
  ·rw[<- aM,ex]at g;rw[<- aT1,G,aT (by lia),W]at d;cases d;exact e3 r g
 refine(λ(D:∀(m:Array Keyed) (b:SortSt),Sm (SortSt.mk' (kindOf st) (arrOf st) N (gallopOf st) (failedOf st)) b->Mgd ws x.toList y.toList m.toList->(?T:Array Keyed->SortSt->Prop) m b)=>?go) ?mn
 case go=>
  by_cases z2:a.length-k<=k2
  ·rw[ak z2];refine wpS_bind (IB C ao h.k λm b j l=>?_);exact D m b j l
  ·rw[aj z2];refine wpS_bind (IC C ao h.k λm b j l=>?_);exact D m b j l
 intro m b j l;refine wpS_bind (wpS_modify (wpS_bind (wpS_get ?_)));dsimp only;have hf:failedOf b=Y:=j.f.trans h.f;rw[show(failedOf b).isNone=M by rw[hf];rfl];rw[ex,G]at l;have ml:m.toList.length=(a.drop k++r2.take k2).length:=l.1.length_eq;have wr:=se (pre.length+k) m.toList 0 (arrOf b) (pre++a.take k) (a.drop k++r2.take k2) (r2.drop k2++post) (by
  rw[j.a];show(arrOf st).toList=_;rw[t]
  conv=>lhs;rw[<- cG k a,<- cG k2 r2]
  simp only[bH]) (by rw[lA1,aR,Nat.add_zero];lia) ml.symm
 have bx:∀y∈m.toList,y∈a.drop k\/y∈r2.take k2:=λy B=>aG.mp (l.1.mem_iff.mp B);have sp1:=am.split k;have X:=K.split k2;have upv:∀y∈a,rk ws y<=rk ws v:=λy B=>am.take_lt au y (by rw[show a.length-1+1=a.length by lia,bY];exact B);refine wpS_pure (hs (r:=a.take k++(m.toList++r2.drop k2)) j.k j.f (by rw[show pendingOf (SortSt.mk' (kindOf b) _ (pendingOf b) (gallopOf b) (failedOf b))=pendingOf b from rfl,j.p];exact o) ?_ ?_ ?_)
 ·refine wr.trans ?_;simp only[bH]
 ·conv=>rhs;rw[<- cG k a,<- cG k2 r2]
  rw[bH];refine List.Perm.append_left _ ?_;rw[<- bH];exact l.1.append_right _
 ·refine Srt.app (am.sublist (aU _ _)) (Srt.app l.2 (K.sublist (cD _ _)) λp d r g=>?_) (mK.to (λp d r g=>?_) λp d r g=>?_)
  ·rcases bx p d with I|I
   ·exact bI (upv p (cK I)) (f3 r g)
   ·exact X p I r g
  ·rcases bx r g with I|I
   ·exact sp1 p d r I
   ·exact nL1 (T p d) (H r (cJ I))
  ·exact nL1 (T p d) (H r (cK g))
end
noncomputable def kO(ws:List dB)(lo:Nat)(xs:Array Keyed)(i:Nat):Nat:=kR ws xs (lo+i)
def xj(ws:List dB)(lo:Nat)(xs:Array Keyed)(k:Nat):Prop:=∀i j,i<j->j<k->kO ws lo xs i<kO ws lo xs j
def Jt(ws:List dB)(lo:Nat)(xs:Array Keyed)(k:Nat):Prop:=∀i j,i<j->j<k->kO ws lo xs j<kO ws lo xs i
structure SoL (κ:SortKind)(a₀:Array Keyed)(lo:Nat)(st0 st:SortSt):Prop where
 perm:(arrOf st).Perm a₀
 kind:kindOf st=κ
 failed:failedOf st=failedOf st0
 pend:pendingOf st=pendingOf st0
 pre:∀i,i<lo->(arrOf st)[i]?=(arrOf st0)[i]?
theorem SoL.arr{κ:SortKind}{a₀:Array Keyed}{lo:Nat}{st0 st:SortSt}(b:SoL κ a₀ lo st0 st){xs:Array Keyed}(p:xs.Perm (arrOf st))(hp:∀i,i<lo->xs[i]?=(arrOf st)[i]?):SoL κ a₀ lo st0 (setArr st xs):=⟨p.trans b.perm,b.kind,b.failed,b.pend,λi hi=>(hp i hi).trans (b.pre i hi)⟩
section
variable{prog:dF}{w:dH}{A:dG}{E:dB->dD->Prop}{s:dD}{κ:SortKind}{ws:List dB}{a₀:Array Keyed}{lo:Nat}{st0:SortSt}
theorem l9.cmpL(C:l9 prog w A s κ ws a₀){st:SortSt}{i j:Nat}{Q:Option Bool->SortSt->Prop}(b:SoL κ a₀ lo st0 st)(hi:i<a₀.size)(d:j<a₀.size)(a:i≠j)(h:Q (Z (decide (kR ws (arrOf st) i<kR ws (arrOf st) j))) st):wpS (model prog w) A E s (ltAt' i j) Q st:=by
 obtain⟨x,q,g,k⟩:=C.at_ b.perm hi;obtain⟨y,r,e,f⟩:=C.at_ b.perm d;have c:kR ws (arrOf st) i≠kR ws (arrOf st) j:=λz=>a (C.inj b.perm hi d z);rw[ltAt'_eq];refine wpS_bind (wpS_get ?_);show wpS _ _ _ _ (do let x<-elem' (arrOf st) i;let y<-elem' (arrOf st) j;lt' x y) Q st;rw[elem'_eq,elem'_eq,g,e];refine wpS_bind (wpS_pure (wpS_bind (wpS_pure ?_)));rw[lt'_eq];refine wpS_bind (wpS_get ?_);rw[b.kind];exact wpS_bind (wpS_lift (wpAny_attempt (C.lt x y _ _ k f c _ _ ⟨O,wpS_pure h⟩)))
theorem xj.one{xs:Array Keyed}:xj ws lo xs 1:=λi j h1 h2=>by lia
theorem xj.snoc{xs:Array Keyed}{n:Nat}(u:xj ws lo xs n)(h:kO ws lo xs (n-1)<kO ws lo xs n):xj ws lo xs (n+1):=λi j h1 h2=>by
 by_cases z:j<n
 ·exact u i j h1 z
 ·have a:j=n:=by lia
  subst a;by_cases b:i=j-1
  ·rw[b];exact h
  ·exact bh (u i (j-1) (by lia) (by lia)) h
theorem Jt.snoc{xs:Array Keyed}{n:Nat}(u:Jt ws lo xs n)(h:kO ws lo xs n<kO ws lo xs (n-1)):Jt ws lo xs (n+1):=λi j h1 h2=>by
 by_cases z:j<n
 ·exact u i j h1 z
 ·have a:j=n:=by lia
  subst a;by_cases b:i=j-1
  ·rw[b];exact h
  ·exact bh h (u i (j-1) (by lia) (by lia))
theorem AJ(C:l9 prog w A s κ ws a₀){xs:Array Keyed}(p:xs.Perm a₀){i j:Nat}(hi:lo+i<a₀.size)(b:lo+j<a₀.size)(a:i≠j):kO ws lo xs i≠kO ws lo xs j:=λe=>by
 have:=C.inj p hi b e;lia
theorem HX(C:l9 prog w A s κ ws a₀){st:SortSt}{l:Nat}{Q:Option Nat->SortSt->Prop}(hn:lo+l<=a₀.size)(h1:1<=l)(b:SoL κ a₀ lo st0 st)(h:∀m st',SoL κ a₀ lo st0 st'->1<=m->m<=l->xj ws lo (arrOf st') m->Q (Z m) st'):wpS (model prog w) A E s (countRun' lo l) Q st:=by
 have p:∀ {st:SortSt} {a:Nat} {f:Nat->Option (Option Nat)×Nat->StateT SortSt Sem (ForInStep (Option (Option Nat)×Nat))} {Q:Option (Option Nat)×Nat->SortSt->Prop},SoL κ a₀ lo st0 st->1<=a->a<=l->xj ws lo (arrOf st) a ->
   (∀x c,f x c=(ltAt' (lo+c.2) (lo+c.2-1) >>= λr=>match r with
    |some z=>if z=M then pure (ForInStep.done (Y,c.2))else pure (ForInStep.yield (Y,c.2+1))
    |_=>pure (ForInStep.done (Z Y,c.2)))) ->
   (∀n,a<=n->n<=l->xj ws lo (arrOf st) n->(n=l\/kO ws lo (arrOf st) n<kO ws lo (arrOf st) (n-1))->Q (Y,n) st)->wpS (model prog w) A E s (forIn [a:l] (Y,a) f) Q st:=λ{st a f Q} b R t u K F=>by
  refine wpS_forRange (λx c st'=>st'=st/\c=(Y,x)/\xj ws lo (arrOf st) x) ?_ ?_ ⟨O,O,u⟩
  ·rintro x c st' v y ⟨rfl,rfl,q⟩;rw[K];dsimp only;refine wpS_bind (C.cmpL b (by lia) (by lia) (by lia) ?_);have e:kR ws (arrOf st') (lo+x-1)=kO ws lo (arrOf st') (x-1):=by unfold kO;congr 1;lia
   rw[e];by_cases z:kO ws lo (arrOf st') x<kO ws lo (arrOf st') (x-1)
   ·rw[show decide (kR ws (arrOf st') (lo+x)<kO ws lo (arrOf st') (x-1))=M from ah z];exact wpS_pure (F x v (by lia) q (.inr z))
   ·rw[show decide (kR ws (arrOf st') (lo+x)<kO ws lo (arrOf st') (x-1))=J from ai z];have:=AJ C b.perm (lo:=lo) (i:=x) (j:=x-1) (by lia) (by lia) (by lia);exact wpS_pure ⟨O,O,q.snoc (by lia)⟩
  ·rintro c st' ⟨rfl,rfl,q⟩;rw[Nat.max_eq_right t]at q ⊢;exact F l t (nR1 _) q (.inl O)
 rw[countRun'_eq];refine wpS_bind (p b (nR1 1) h1 .one (λx c=>rfl) λn h2 B u or=>?_);dsimp only;by_cases z:n=l
 ·rw[ak (by simpa using z)];exact wpS_pure (h n st b h2 B u)
 rw[aj (by simpa using z)];have N:=or.resolve_left z;by_cases H:n>1
 ·rw[ak H];have L:=u 0 (n-1) (by lia) (by lia);refine wpS_bind (C.cmpL b (by lia) (by lia) (by lia) ?_);have e:kR ws (arrOf st) (lo+n-1)=kO ws lo (arrOf st) (n-1):=by unfold kO;congr 1;lia
  rw[e,show decide (kR ws (arrOf st) lo<kO ws lo (arrOf st) (n-1))=M from ah L];exact wpS_pure (h n st b h2 B u)
 rw[aj H];have e:n=1:=by lia
 subst e;refine wpS_bind (wpS_lift (wpAny_rule ⟨O,?_⟩));refine wpS_bind (wpS_mono (wpS_forRange (λx c st'=>st'=st/\c=(Y,x,0)/\Jt ws lo (arrOf st) x) (Q:=λc st'=>st'=st /\ ∃m,c=(Y,m,0)/\2<=m/\m<=l/\Jt ws lo (arrOf st) m) ?_ ?_ ⟨O,O,λi j v y=>?_⟩) ?_)
 ·rintro x c st' v y ⟨rfl,rfl,o⟩;dsimp only;have e:kR ws (arrOf st') (lo+x-1)=kO ws lo (arrOf st') (x-1):=by unfold kO;congr 1;lia
  have ne:=AJ C b.perm (lo:=lo) (i:=x) (j:=x-1) (by lia) (by lia) (by lia);refine wpS_bind (C.cmpL b (by lia) (by lia) (by lia) ?_);rw[e];by_cases z:kO ws lo (arrOf st') x<kO ws lo (arrOf st') (x-1)
  ·rw[show decide (kR ws (arrOf st') (lo+x)<kO ws lo (arrOf st') (x-1))=M from ah z];exact wpS_pure ⟨O,O,o.snoc z⟩
  ·rw[show decide (kR ws (arrOf st') (lo+x)<kO ws lo (arrOf st') (x-1))=J from ai z];refine wpS_bind (C.cmpL b (by lia) (by lia) (by lia) ?_);rw[e,show decide (kO ws lo (arrOf st') (x-1)<kR ws (arrOf st') (lo+x))=M from ah (by show kO ws lo (arrOf st') (x-1)<kO ws lo (arrOf st') x;lia)];exact wpS_pure ⟨O,x,O,by lia,by lia,o⟩
 ·rintro c st' ⟨rfl,rfl,o⟩;rw[Nat.max_eq_right (by lia)]at o ⊢;exact⟨O,l,O,by lia,nR1 _,o⟩
 ·have P:i=0:=by lia
  have au:j=1:=by lia
  subst P;subst au;exact N
 ·rintro c st' ⟨rfl,m,rfl,m1,m2,d⟩;dsimp only;rw[aj (by lia)];have D:lo+m<=(arrOf st').size:=by rw[b.perm.size_eq];lia
  have G:∀k,(mirror (arrOf st') lo (lo+m) ((lo+m-lo)/2))[k]?=if lo<=k/\k<lo+m then(arrOf st')[lo+(lo+m)-1-k]? else(arrOf st')[k]?:=λk=>getElem?_mirror_all D k
  have I:SoL κ a₀ lo st0 (setArr st' (mirror (arrOf st') lo (lo+m) ((lo+m-lo)/2))):=b.arr (mirror_perm _ _ _ _) λk ao=>by rw[G,aj (by lia)]
  have g:∀k,k<m->kO ws lo (mirror (arrOf st') lo (lo+m) ((lo+m-lo)/2)) k=kO ws lo (arrOf st') (m-1-k):=λk ao=>k8 (by
   rw[G,ak (by lia)]
   congr 1;lia)
  refine wpS_bind (wpS_reverse (wpS_bind (p I (by lia) m2 (λi j B am=>?_) (λx c=>rfl) λn v y u _=>wpS_pure (h n _ I (by lia) y u))));show kO ws lo (mirror (arrOf st') lo (lo+m) ((lo+m-lo)/2)) i<kO ws lo (mirror (arrOf st') lo (lo+m) ((lo+m-lo)/2)) j;rw[g i (by lia),g j am];exact d _ _ (by lia) (by lia)
theorem IJ(C:l9 prog w A s κ ws a₀){st:SortSt}{n ok:Nat}{Q:Bool->SortSt->Prop}(hn:lo+n<=a₀.size)(am:ok<=n)(b:SoL κ a₀ lo st0 st)(u:xj ws lo (arrOf st) ok)(h:∀st',SoL κ a₀ lo st0 st'->xj ws lo (arrOf st') n->Q M st'):wpS (model prog w) A E s (binarySort' lo n ok) Q st:=by
 rw[binarySort'_eq];refine wpS_bind (wpS_mono (wpS_forRange (λk c st'=>c=(Y,())/\SoL κ a₀ lo st0 st'/\xj ws lo (arrOf st') (min k n)) (Q:=λc st'=>c=(Y,())/\SoL κ a₀ lo st0 st'/\xj ws lo (arrOf st') n) ?_ ?_ ⟨O,b,λi j h1 h2=>?_⟩) ?_)
 ·rintro k c st' G I ⟨rfl,f,d⟩;rw[bB (by lia)]at d;have t:lo+k<(arrOf st').size:=by rw[f.perm.size_eq];lia
  refine wpS_bind (wpS_mono (wpS_forRange (λx c a=>a=st' /\ ∃l r,c=(Y,l,r)/\l<=r/\r<=k/\r-l<=k-x/\(∀i,i<l->kO ws lo (arrOf st') i<kO ws lo (arrOf st') k) /\ ∀i,r<=i->i<k->kO ws lo (arrOf st') k<kO ws lo (arrOf st') i)
   (Q:=λc a=>a=st' /\ ∃l r,c=(Y,l,r)/\l<=k/\(∀i,i<l->kO ws lo (arrOf st') i<kO ws lo (arrOf st') k) /\ ∀i,l<=i->i<k->kO ws lo (arrOf st') k<kO ws lo (arrOf st') i) ?_ ?_ ⟨O,0,k,O,by lia,by lia,by lia,λi h1=>by lia,λi h1 h2=>by lia⟩) ?_)
  ·rintro x c a _ K ⟨rfl,l,r,rfl,h1,h2,q,o,p⟩;dsimp only;by_cases z:l>=r
   ·rw[ak z];have e:l=r:=by lia
    subst e;exact wpS_pure ⟨O,l,l,O,h2,o,p⟩
   ·rw[aj z];have L:(l+r)/2<k:=by lia
    refine wpS_bind (C.cmpL f (by lia) (by lia) (by lia) ?_);by_cases m:kO ws lo (arrOf a) k<kO ws lo (arrOf a) ((l+r)/2)
    ·rw[show decide (kR ws (arrOf a) (lo+k)<kR ws (arrOf a) (lo+(l+r)/2))=M from ah m];refine wpS_pure ⟨O,l,(l+r)/2,O,by lia,by lia,by lia,o,λi H F=>?_⟩;by_cases v:(l+r)/2=i
     ·rw[<- v];exact m
     ·exact bh m (d _ i (by lia) F)
    ·rw [show decide (kR ws (arrOf a) (lo+k)<kR ws (arrOf a) (lo+(l+r)/2))=false from decide_eq_false m];refine wpS_pure ⟨rfl,(l+r)/2+1,r,rfl,by lia,by lia,by lia,fun i H=>?_,p⟩;have y:kO ws lo (arrOf a) ((l+r)/2)<kO ws lo (arrOf a) k:=by
      have:=AJ C f.perm (lo:=lo) (i:=k) (j:=(l+r)/2) (by lia) (by lia) (by lia);lia
     by_cases v:i=(l+r)/2
     ·rw[v];exact y
     ·exact bh (d i _ (by lia) (by lia)) y
  ·rintro c a ⟨rfl,l,r,rfl,h1,h2,q,o,p⟩;have e:l=r:=by lia
   subst e;exact⟨O,l,l,O,h2,o,p⟩
  ·rintro c a ⟨rfl,l,r,rfl,h1,h2,q⟩;show wpS _ _ _ _ (do moveDown' (lo+k) (lo+l);pure (ForInStep.yield (none,()))) _ _;rw [moveDown'_eq];have B:∀ i,(bubble (arrOf a) (lo+k) (lo+k-(lo+l)))[i]? = if i=lo+l then (arrOf a)[lo+k]? else if lo+l<i/\i<=lo+k then (arrOf a)[i-1]? else (arrOf a)[i]?:=fun i=>by
    have e:=getElem?_bubble t (lo+k-(lo+l)) (by lia) i;rw[show lo+k-(lo+k-(lo+l))=lo+l by lia]at e;exact e
   refine wpS_bind (wpS_modify (wpS_pure ⟨O,f.arr (bubble_perm _ _ _) λi hi=>by rw[B,aj (by lia),aj (by lia)],?_⟩));rw[bB (by lia)];have g:∀i,kO ws lo (bubble (arrOf a) (lo+k) (lo+k-(lo+l))) i=if i=l then kO ws lo (arrOf a) k else if l<i/\i<=k then kO ws lo (arrOf a) (i-1)else kO ws lo (arrOf a) i:=λi=>by
    have e:=B (lo+i);by_cases D:i=l
    ·rw[ak (by lia)]at e;rw[ak D];exact k8 e
    ·rw[aj (by lia)]at e;rw[aj D];by_cases m:l<i/\i<=k
     ·rw[ak (by lia)]at e;rw[ak m];refine k8 (e.trans ?_)
      congr 1;lia
     ·rw[aj (by lia)]at e;rw[aj m];exact k8 e
   intro i j o p;show kO ws lo (bubble (arrOf a) (lo+k) (lo+k-(lo+l))) i<kO ws lo (bubble (arrOf a) (lo+k) (lo+k-(lo+l))) j;rw[g,g]
   repeat' split
   all_goals first
    |(exfalso;lia)
    |exact h2 _ (by lia)
    |exact q _ (by lia) (by lia)
    |exact d _ _ (by lia) (by lia)
 ·rintro c st' ⟨hc,f,d⟩;refine⟨hc,f,?_⟩
  rwa [show min (max (max ok 1) n) n=n by lia]at d
 ·by_cases z:ok=0
  ·lia
  ·exact u i j h1 (by lia)
 ·rintro c st' ⟨rfl,f,d⟩;exact wpS_pure (h st' f d)
end
theorem nS:∀{s:Nat} {rs:List (List Keyed)} {p:List (Nat×Nat×Nat)},fL s rs p->p.length=rs.length
 |_,[],[],_=>rfl
 |_,[],_::_,h=>by cases h
 |_,_::_,[],h=>by cases h
 |s,r::rs,(t,n,pw)::p,⟨_,_,h⟩=>by rw[lC1,lC1,nS h]
theorem pJ:∀{s:Nat} {rs:List (List Keyed)} {p:List (Nat×Nat×Nat)} {r:List Keyed} {pw:Nat},fL s rs p->fL s (rs++[r]) (p++[(s+rs.flatten.length,r.length,pw)])
 |_,[],[],_,_,_=>⟨by simp,O,trivial⟩
 |_,[],_::_,_,_,h=>by cases h
 |_,_::_,[],_,_,h=>by cases h
 |s,r::rs,(t,n,pw)::p,r',pw',⟨e1,e2,h⟩=>by
  refine⟨e1,e2,?_⟩;have:=pJ (r:=r') (pw:=pw') h
  rwa [bm,<- lA1,<- c5]at this
theorem sL{g:Nat×Nat×Nat->Nat×Nat×Nat}(hg:∀x,(g x).1=x.1/\(g x).2.1=x.2.1):∀{s:Nat} {rs:List (List Keyed)} {p:List (Nat×Nat×Nat)} {k:Nat},fL s rs p->fL s rs (p.modify k g)
 |_,[],[],k,_=>by cases k<;>exact trivial
 |_,[],_::_,_,h=>by cases h
 |_,_::_,[],_,h=>by cases h
 |s,r::rs,(t,n,pw)::p,0,⟨e1,e2,h⟩=>by
  obtain⟨a,b⟩:=hg (t,n,pw);show fL s (r::rs) (g (t,n,pw)::p);exact⟨a.trans e1,b.trans e2,h⟩
 |s,r::rs,(t,n,pw)::p,k+1,⟨e1,e2,h⟩=>⟨e1,e2,sL hg h⟩
section
variable{prog:dF}{w:dH}{A:dG}{E:dB->dD->Prop}{s:dD}{κ:SortKind}{ws:List dB}{a₀:Array Keyed}{rs:List (List Keyed)}{rest:List Keyed}{st st':SortSt}
theorem SR.size(h:SR ws κ a₀ rs rest st):rs.flatten.length+rest.length=a₀.size:=by
 have:=congrArg List.length h.ar;rw[aJ,h.pm.size_eq,lA1]at this;exact this.symm
theorem SR.many(h:SR ws κ a₀ rs rest st):rs.length<=rs.flatten.length:=by
 have:∀{l:List (List Keyed)},(∀r∈l,r≠[])->l.length<=l.flatten.length:=by
  intro l
  induction l with
  |nil=>intro _;exact nR1 _
  |cons r l ih=>
   intro a;have h1:=ih λx b=>a x (mC1 _ b);have h2:0<r.length:=c7.mpr (a r mS1);rw[lC1,c5,lA1];lia
 exact this λr a=>(h.so r a).2
theorem SoL.sr(h:SR ws κ a₀ rs rest st)(b:SoL κ a₀ rs.flatten.length st st'):SR ws κ a₀ rs ((arrOf st').toList.drop rs.flatten.length) st':=by
 refine⟨b.kind,b.failed.trans h.f,b.perm,?_,h.so,by rw[b.pend];exact h.pe⟩;have:(arrOf st').toList.take rs.flatten.length=rs.flatten:=by
  have e:(arrOf st).toList.take rs.flatten.length=rs.flatten:=by rw[h.ar,c9]
  rw[<- e];refine bZ λi=>?_;by_cases hi:i<rs.flatten.length
  ·rw[e,aT hi,<- e,aT hi,aT1,aT1];exact b.pre i hi
  ·rw[e,b4 (by rw[aR];lia),b4 (by lia)]
 conv=>lhs;rw[<- cG rs.flatten.length (arrOf st').toList,this]
theorem vR{lo n:Nat}(hp:(arrOf st').Perm a₀)(hn:lo+n<=a₀.size)(u:xj ws lo (arrOf st') n):Srt ws (((arrOf st').toList.drop lo).take n):=by
 refine cw.mpr λi j hi b a=>?_;rw[aR,aV]at hi b;have:=u i j a (by lia);have c:=hp.size_eq;rw[aJ]at hi b;unfold kO kR at this;rw[aG1 (show lo+i<(arrOf st').size by lia),aG1 (show lo+j<(arrOf st').size by lia)]at this;simpa using this
theorem Jg(C:l9 prog w A s κ ws a₀){Q:Unit->SortSt->Prop}(h0:SR ws κ a₀ [] a₀.toList st)(h2:2<=a₀.size)(q:∀st',(arrOf st').Perm a₀->failedOf st'=Y->Srt ws (arrOf st').toList->Q () st'):wpS (model prog w) A E s sortRuns' Q st:=by
 rw[sortRuns'_eq];refine wpS_bind (wpS_get ?_);dsimp only;generalize minRun' (arrOf st).size (arrOf st).size 0=mr;rw[h0.pm.size_eq];refine wpS_bind (wpS_mono (wpS_forRange (λx c st'=>∃rs rest,SR ws κ a₀ rs rest st'/\c=(Y,rs.flatten.length)/\x<=rs.flatten.length)
  (Q:=λc st'=>∃rs lo,SR ws κ a₀ rs [] st'/\c=(Y,lo)) ?_ ?_ ⟨[],a₀.toList,h0,O,nR1 _⟩) ?_)
 ·rintro x c st' _ X ⟨rs,rest,h,rfl,L⟩;have D:=h.size;dsimp only;by_cases z:rs.flatten.length>=a₀.size
  ·rw[ak z];have e:rest=[]:=cm.mp (by lia);subst e;exact wpS_pure ⟨rs,_,h,O⟩
  rw[aj z];refine wpS_bind (HX (lo:=rs.flatten.length) (st0:=st') C (by lia) (by lia) ⟨h.pm,h.k,O,O,λ_ _=>rfl⟩ λm st2 b m1 m2 u=>?_);dsimp only;have B:=b.sr h;have W:=B.size;refine(λ(t:∀(n:Nat) (j:SortSt) (a:List Keyed),SR ws κ a₀ rs a j->Srt ws (a.take n)->1<=n->n<=a.length->(?T:Nat->SortSt->Prop) n j)=>?go) ?mn
  case go=>
   by_cases wq:m<mr
   ·rw[ak wq];refine wpS_bind (wpS_lift (wpAny_rule ⟨O,?_⟩));refine wpS_bind (IJ (lo:=rs.flatten.length) (st0:=st') C (n:=min (a₀.size-rs.flatten.length) mr) (by lia) (by lia) b u λj b3 u3=>?_);simp only[b5,bF1,if_false];have I:=b3.sr h;have R:=I.size;have l:=vR b3.perm (by lia) u3;have U:1<=min (a₀.size-rs.flatten.length) mr:=by lia
    have F:min (a₀.size-rs.flatten.length) mr<=((arrOf j).toList.drop rs.flatten.length).length:=by lia
    generalize min (a₀.size-rs.flatten.length) mr=n at l U F ⊢;exact t n j _ I l U F
   ·rw[aj wq];have l:=vR b.perm (by lia) u;have F:m<=((arrOf st2).toList.drop rs.flatten.length).length:=by lia
    generalize hst:st2=j at B l F ⊢;generalize hmn:m=n at l m1 F ⊢;exact t n j _ B l m1 F
  intro n j a ao hs n1 am;refine wpS_bind (wpS_get ?_);have S:=ao.size;refine(λ(p:∀(f:List (List Keyed)) (d:SortSt),SR ws κ a₀ f a d->(?T2:SortSt->Prop) d)=>?go2) ?mn2
  case go2=>
   cases hb:(pendingOf j).back? with
   |none=>
    dsimp only;exact p rs j ao
   |some q1=>
    obtain⟨V,y,pw1⟩:=q1;dsimp only;generalize power' a₀.size (2*V+y) (2*V+y+y+n) a₀.size=pv;refine wpS_bind (wpS_mono (wpS_forRange (λx c d=>c=(Y,()) /\ ∃f,SR ws κ a₀ f a d) (Q:=λc d=>c=(Y,()) /\ ∃f,SR ws κ a₀ f a d) ?_ (λ_ _ h=>h) ⟨O,rs,ao⟩) ?_)
    ·rintro x c d _ X ⟨rfl,f,k⟩;have v:=nS k.pe;rw[aJ]at v;refine wpS_bind (wpS_get ?_);by_cases hz:(pendingOf d).size>1
     ·rw[ak hz,aG1 (show(pendingOf d).size-2<(pendingOf d).size by lia)];generalize (pendingOf d)[(pendingOf d).size-2]'(by lia)=pq;obtain⟨pa,pb,pc⟩:=pq;dsimp only;by_cases T:pc<=pv
      ·rw[ak T];exact wpS_pure ⟨O,f,k⟩
      ·rw[aj T];refine wpS_bind (k.merge C (i:=(pendingOf d).size-2) (gG1 (by lia)) (gG1 (by lia)) λr o H=>?_);simp only[b5,bF1,if_false];exact wpS_pure ⟨O,_,H⟩
     ·rw[aj hz];exact wpS_pure ⟨O,f,k⟩
    ·rintro c d ⟨rfl,f,k⟩;dsimp only;refine wpS_bind (wpS_modify ?_);refine p f _ ⟨k.k,k.f,k.pm,k.ar,k.so,?_⟩;show fL 0 f ((pendingOf d).modify ((pendingOf d).size-1) _).toList;rw[Array.toList_modify];exact sL (g:=λx=>(x.1,x.2.1,pv)) (λx=>⟨O,O⟩) k.pe
  intro f d k;have aq:=k.size;have G:rs.flatten.length=f.flatten.length:=by lia
  refine wpS_bind (wpS_modify (wpS_pure ⟨f++[a.take n],a.drop n,⟨k.k,k.f,k.pm,?_,?_,?_⟩,?_,?_⟩))
  ·refine k.ar.trans ?_;rw[c8,bH];simp
  ·intro r au;rcases aG.mp au with P|P
   ·exact k.so r P
   ·rw[cU.mp P];exact⟨hs,λe=>by have:=congrArg List.length e;rw[aR,bf]at this;lia⟩
  ·show fL 0 _ ((pendingOf d).push (rs.flatten.length,n,0)).toList;rw[cq,G];have:=pJ (r:=a.take n) (pw:=0) k.pe
   rwa [cY,aR,bB am]at this
  ·rw[c8,lA1,G,List.flatten_singleton,aR,bB am]
  ·rw[c8,lA1,List.flatten_singleton,aR,bB am];lia
 ·rintro c st' ⟨rs,rest,h,rfl,L⟩;have D:=h.size;have e:rest=[]:=cm.mp (by lia);subst e;exact⟨rs,_,h,O⟩
 ·rintro c st' ⟨rs,lo,h,rfl⟩;dsimp only;have D:=h.size;rw[bf,Nat.add_zero]at D;have K:=h.many;refine wpS_bind (wpS_mono (wpS_forRange (λx c st2=>c=(Y,()) /\ ∃rs,SR ws κ a₀ rs [] st2/\rs.length+x<=a₀.size) (Q:=λc st2=>c=(Y,()) /\ ∃rs,SR ws κ a₀ rs [] st2/\rs.length<=1) ?_ ?_ ⟨O,rs,h,by lia⟩) ?_)
  ·rintro x c st2 _ X ⟨rfl,rs,h,N⟩;have v:=nS h.pe;rw[aJ]at v;refine wpS_bind (wpS_get ?_);by_cases z:(pendingOf st2).size<=1
   ·rw[ak z];exact wpS_pure ⟨O,rs,h,by lia⟩
   rw[aj z];have mg:∀i,i+1<rs.length -> ∀{Q:Bool->SortSt->Prop},(∀r o,SR ws κ a₀ r [] o->r.length+1=rs.length->Q M o)->wpS (model prog w) A E s (mergeAt' i) Q st2:=λi hi Q hq=>
    h.merge C (i:=i) (gG1 (by lia)) (gG1 hi) λr o H=>hq _ o H (by rw[lA1,lC1,aR,aV];lia)
   refine wpS_bind (mg _ ?_ λr o H hl5=>?_)
   ·split<;>lia
   ·simp only[b5,bF1,if_false];exact wpS_pure ⟨O,r,H,by lia⟩
  ·rintro c st2 ⟨rfl,rs,h,N⟩;exact⟨O,rs,h,by lia⟩
  ·rintro c st2 ⟨rfl,rs,h,N⟩;refine wpS_pure (q st2 h.pm h.f ?_);rw[h.ar,aN]
   match rs,N,h.so with
   |[],_,_=>exact .nil
   |[r],_,so=>simpa using(so r (by simp)).1
end
theorem ET{ws:List dB}{xs a₀:Array Keyed}(p:xs.Perm a₀)(h:Srt ws xs.toList):Up ws xs a₀.size:=λi j a c=>by
 have b:=p.size_eq;have:=cw.mp h i j (by rw[aJ];lia) (by rw[aJ];lia) a;unfold kR;rw[aG1 (show i<xs.size by lia),aG1 (show j<xs.size by lia)];simpa using this
section
variable{prog:dF}{w:dH}{A:dG}{E:dB->dD->Prop}{s:dD}
theorem zq {a:dE}{vs ws:List dB}{n:Nat}{κ:SortKind}{P:Fin->dD->Prop}(ho:s.heap.get? a=some (seqObj "list" vs.toArray n))(hz:vs.length<=dL)(hp:vs.Perm ws)
  (t:∀h',(∀b o,b≠a->s.heap.get? b=Z o->h'.get? b=Z o)->2<=vs.length->l9 prog w A {s with heap:=h'} κ ws (pairsOf vs) /\ ∀Q:SortKind->dD->Prop,Q κ {s with heap:=h'}->dM (model prog w) A (keyKind' vs.toArray) Q E {s with heap:=h'})
  (h:P (.done (.ret .none)) {s with heap:=sortedHeap s.heap a vs ws.toArray}):dM (model prog w) A (Builtin.«list.sort» ⟨[.ref a],[]⟩) P E s:=by
 rw[list_sort_plain];have u:a<s.heap.objs.size:=hL1 ho;refine wB1 (listItems_at ho O ?_);refine wB1 (listUpdate_at ho O ?_);obtain⟨i,g⟩:∃i,(s.heap.update a (Obj.mapSeq λ_=> #[])).get? a=some (seqObj "list" #[] i):=⟨_,get?_update_seq ho (λ_=> #[])⟩;refine wB1 (seqEpoch_at g O (wB1 (wpAny_newTuple (wB1 (wpAny_newList (wpAny_holding ?_))))));have keep:∀b o,b≠a->s.heap.get? b=Z o->(((s.heap.update a (Obj.mapSeq λ_=> #[])).push (seqObj "tuple" vs.toArray 0)).push (seqObj "list" #[] 0)).get? b=Z o:=λb o m e=>
  hP1 _ (hP1 _ (by rw[hU1 _ _ _ _ m];exact e))
 have c:(((s.heap.update a (Obj.mapSeq λ_=> #[])).push (seqObj "tuple" vs.toArray 0)).push (seqObj "list" #[] 0)).get? a=Z (seqObj "list" #[] i):=hP1 _ (hP1 _ g);show dM (model prog w) A _ P E {s with heap:=((s.heap.update a (Obj.mapSeq λ_=> #[])).push (seqObj "tuple" vs.toArray 0)).push (seqObj "list" #[] 0)};dsimp only;have q:vs.toArray.size=vs.length:=by simp
 have f:=hp.length_eq;have d:∀xs:Array Keyed,xs.map (·.2)=ws.toArray->P (.done (.ret .none)) {s with heap:=sortedHeap s.heap a vs (xs.map (·.2))}:=λxs e=>by rw[e];exact h
 by_cases h2:vs.toArray.size<2
 ·rw [if_pos h2,if_pos h2];refine wB1 (wP1 ?_);rw [StateT.run_pure];refine wB1 (wP1 (wB1 (seqEpoch_at c rfl ?_)));have e:((vs.toArray.zip vs.toArray).map (·.2):Array dB)=ws.toArray:=by
   have:vs=ws:=by
    match vs,ws,hp,h2 with
    |[],ws,hp,_=>exact(List.nil_perm.mp hp).symm
    |[x],ws,hp,_=>exact(List.singleton_perm.mp hp).symm ▸ rfl
    |_::_::_,_,_,h2=>simp at h2;lia
   subst this;apply Array.ext';simp;exact List.map_snd_zip (nR1 _)
  refine wB1 (listUpdate_at c O ?_ (hsz2:=by
   show(Array.map (·.2) (vs.toArray.zip vs.toArray)).size<=_;rw[e,sT1,<- f];lia))
  simp only[bne_self_eq_false,bF1,if_false];exact wP1 (d _ e)
 ·rw [if_neg h2,if_neg h2];obtain ⟨C,K⟩:=t _ keep (by lia);refine wB1 (K _ ?_);refine wB1 (wpAny_mono (Jg C (st:=SortSt.mk' κ (vs.toArray.zip vs.toArray) #[] 7 none)
   (Q:=λ_ st'=>(arrOf st').Perm (pairsOf vs)/\failedOf st'=Y/\Srt ws (arrOf st').toList) ⟨O,O,Array.Perm.refl _,O,(λr p=>by cases p),trivial⟩ (by rw[pairsOf_size];lia) λst' a1 a2 a3=>⟨a1,a2,a3⟩) ?_ λ_ _ e=>e)
  rintro⟨⟨⟩,st'⟩ s' ⟨rfl,j,k,l⟩;have e:=EW C j (ET j l);refine wB1 (seqEpoch_at c O ?_);refine wB1 (listUpdate_at c O ?_ (hsz2:=by
   show(Array.map (·.2) (arrOf st')).size<=_;rw[e,sT1,<- f];lia))
  rw[k];simp only[bne_self_eq_false,bF1,if_false];exact wP1 (d _ e)
theorem uN {v:dB}{vs ws:List dB}{κ:SortKind}{Q:dB->dD->Prop}(hz:vs.length<=dL)(i:vs.Perm ws)
  (d:∀(E:dB->dD->Prop) (Q:List dB->dD->Prop),(∀h',(∀b u,s.heap.get? b=Z u->h'.get? b=Z u)->s.heap.objs.size<=h'.objs.size->Q vs {s with heap:=h'})->dM (model prog w) A.in1 (collect v) Q E s)
  (l:∀a:dP,(∀b u,s.heap.get? b=Z u->a.get? b=Z u)->l9 prog w A.in1.in1 {s with heap:=a} κ ws (pairsOf vs) /\
   (vs≠[] -> ∀(E:dB->dD->Prop) (Q:SortKind->dD->Prop),Q κ {s with heap:=a}->dM (model prog w) A.in1.in1 (keyKind' vs.toArray) Q E {s with heap:=a}))
  (h:∀(a:dP) (L:dE) (n:Nat),(∀b u,s.heap.get? b=Z u->a.get? b=Z u)->s.heap.objs.size<=L->a.get? L=Z (seqObj "list" ws.toArray n)->Q (.ref L) {s with heap:=a}):
  dM (model prog w) A (call (.builtin "sorted") [v]) Q E s:=by
 refine Calls.call_function_entry kind_sorted plain_sorted entry_sorted (args_sorted1 _) ?_;unfold Builtin.«sorted»;refine wB1 (m:=checkCount "sorted" 1 1 _) (wP1 ?_);refine wB1 (d _ _ λh' keep g=>?_);refine wB1 (wpAny_newList (hsz:=hz) ?_);have c:(h'.push (seqObj "list" vs.toArray 0)).get? h'.objs.size=Z (seqObj "list" vs.toArray 0):=hS1 _ O;show dM _ _ _ _ _ {s with heap:=h'.push (seqObj "list" vs.toArray 0)};refine wB1 (wpAny_holding (wE1 slot_list_sort ⟨_,c,O⟩ entry_list_sort (zq (s:={s with heap:=h'.push (seqObj "list" vs.toArray 0)}) (κ:=κ) (ws:=ws) c hz i (λa k h2=>?_) ⟨_,O,?_⟩) (args_list_sort _)))
 ·have:=l a λb u e=>k b u (nN1 (hL1 (keep b u e))) (hP1 _ (keep b u e));exact⟨this.1,this.2 (λz=>by rw[z]at h2;simp at h2) _⟩
 ·obtain⟨n,f⟩:=sortedHeap_at (out:=ws.toArray) c;refine wP1 ⟨_,O,h _ h'.objs.size n (λb u e=>?_) g f⟩;have j:b<h'.objs.size:=hL1 (keep b u e);show(sortedHeap (h'.push (seqObj "list" vs.toArray 0)) h'.objs.size vs ws.toArray).get? b=Z u;rw[sortedHeap_old (nN1 j) (by rw[hZ1];exact cv j)];exact hP1 _ (keep b u e)
end
noncomputable def om:G1:=λd S=>match d4 S d with
 |some (M,xs)=>(oi xs).bind λ_=>if(m6 xs&&(mm (kE xs)&&decide (xs.length<=100000)))=M then Z (.ref S.length,S++[.lst (kE xs)])else Y
 |_=>Y
section
variable{X:Cx}
theorem DS(V:X.A.units+64<cLine):eZ X (.builtin "sorted") (rN X.K (b1 om)):=by
 intro ag s σ H xs T Q I r h;obtain⟨x,mu,S,d,P,R,rfl,G,m,g,hc⟩:=Ci h;unfold om at g;split at g
 ·rename_i ds ao;obtain⟨f,K,g⟩:=oB1.mp g;split at g
  ·rename_i c;cases g;rw[bA1,bA1,al]at c;obtain⟨a,vs,rfl,q,t⟩:=d6 G m ao;obtain⟨u,rfl,r2⟩:=g0 r;cases r2;obtain⟨j,w,au,U⟩:=I.list q;have k:j.length=ds.length:=by rw[<- w.length,<- t.length]
   have i:j.length<=dL:=by rw[k,sizeLine_eq];lia
   obtain⟨p,zs,B,C,D,z,N⟩:=EV I m (A:=X.A.in1.in1) (by show X.A.units+1+1+60<cLine;lia) (f:=f) t w c.1 (vj K) c.2.1;refine uN i D (λE Q q=>?_) N (λam L n keep y v=>?_)
   ·refine collect_list au.isList (q _ (λb u e=>?_) ?_) i
    ·have F:b<s.heap.objs.size:=hL1 e;rw[hU1 _ _ _ _ (nN1 F)];exact hP1 _ e
    ·rw[Heap.size_update,hZ1];exact aX _
   ·have l:H L=Y:=I.hok.fresh y;refine⟨.ref L,_,I.laid (t':=s.toks) (o:=.lst p) keep y ⟨?_,zs,n,C,v⟩,O,hc _ _ (mu++[L]) (Ext.new_ l) (.ref (fQ m.len _)) (m.newL B l)⟩;rw[z,w.length];exact i
  ·cases g
 ·cases g
end
theorem qg:entryFor table "dict.update.loop"=Z Builtin.«dict.update.loop» :=entryFor_of_tree (by kernel_rfl)
theorem jB:plainId "dict.update.loop"=M:=by decide+kernel
theorem xU:typeLookup (.type "list") (Str.ofString "keys")=pure Y:=by rw[typeLookup_type,builtinLookup_eq_fast];kernel_rfl
section
variable{P:dF}{w:dH}{A:dG}{E:dB->dD->Prop}{s:dD}
theorem yM {a:dE}{xs:Array dB}{k:Nat}{sl:Array (Option dB)}{Q:Option dB->dD->Prop}(hx:s.heap.get? a=some {cls:=.type "list",dict:=none,data:=.seq xs k,slots:=sl})(j:A.handled=none)
  (h:∀h' tk,(∀b o,s.heap.get? b=Z o->h'.get? b=Z o)->Q Y {s with heap:=h',toks:=tk}):dM (model P w) A (getAttr? (.ref a) (Str.ofString "keys")) Q E s:=by
 obtain⟨l,g,d,tk,m⟩:=s;have i:∀c,(⟨l,g,d,c,m⟩:dD).TypeIs (.ref a) "list":=λ_=>⟨_,hx,O⟩;have u:=sub_AttributeError;have p:=PySem.F.slot_list_getattribute.lookup;have n:=PySem.F.slot_list_getattribute.bind (.ref a);have q:=am_list_getattr_none;unfold getAttr? getAttrBy? getAttrBy
 repeat(any_goals (first|assumption|exact i _|((with_reducible show dM _ _ (call (Value.builtin "list.__getattribute__") _ _) _ _ _);refine call_meets PySem.F.slot_list_getattribute (i _) am_entry_list_getattribute (PySem.F.args_list_getattribute_2 _ _) (meets_getattribute_miss_list a xs k sl _ _ xU (by decide) (by decide)) ⟨hx,j,λh' c e f=>?_⟩)|wp_step))
 obtain⟨r,v,t⟩:=f.there;show dM _ _ (getattributeRaised _ _ _ _ _ _ _) _ _ _;unfold getattributeRaised
 repeat(any_goals (first|assumption|wp_step))
 exact h _ _ f.keeps
variable{K:Type} [DecidableEq K] {knd:HeapKind P w K}
abbrev uu(K:Type):=K×dE×dB
noncomputable def gB(ps:List (uu K)):List (uu K):=ps.foldl (λa q=>storedH a q.1 q.2.1 q.2.2) []
theorem sm(xs:List (uu K))(k:K)(a:dE)(v:dB):(storedH xs k a v).length<=xs.length+1:=by
 unfold storedH;split
 ·rw[lM1];exact aX _
 ·rw[lA1];exact nR1 _
theorem qa:∀(ps acc:List (uu K)),(ps.foldl (λa q=>storedH a q.1 q.2.1 q.2.2) acc).length<=acc.length+ps.length
 |[],acc=>nR1 _
 |p::ps,acc=>by
  rw[b9,lC1];have h1:=qa ps (storedH acc p.1 p.2.1 p.2.2);have h2:=sm acc p.1 p.2.1 p.2.2;lia
theorem vq{ps:List (uu K)}{i:Nat}{q:uu K}(h:ps[i]?=Z q):gB (ps.take (i+1))=storedH (gB (ps.take i)) q.1 q.2.1 q.2.2:=by
 unfold gB;rw[cr,h,List.foldl_append];rfl
theorem tL{F:uu K->Prop}(d:∀(k:K) (a:dE) (v e:dB),F (k,a,v)->F (k,a,e)):∀(ps acc:List (uu K)),(∀x∈ps,F x)->(∀x∈acc,F x) -> ∀x∈ps.foldl (λa q=>storedH a q.1 q.2.1 q.2.2) acc,F x
 |[],acc,_,h=>h
 |p::ps,acc,hp,h=>by
  rw[b9];refine tL d ps _ (λx b=>hp x (mC1 _ b)) λx b=>?_;unfold storedH at b;split at b
  ·obtain⟨y,c,rfl⟩:=cc.mp b;unfold putAt;split
   ·exact d _ _ y.2.2 _ (h y c)
   ·exact h y c
  ·rcases aG.mp b with z|z
   ·exact h x z
   ·simp at z;subst z;exact hp p mS1
theorem A1{h:dP}{ps:List (uu K)}(hp:∀x∈ps,knd.is h x.1 x.2.1):∀x∈gB ps,knd.is h x.1 x.2.1:=
 tL (F:=λx=>knd.is h x.1 x.2.1) (λ_ _ _ _ z=>z) ps [] hp λx a=>by cases a
theorem yx{d l it:dE}{h0:dP}{its:Array dB}{ps:List (uu K)}{R:Result->dD->Prop}(hh:A.handled=none)(hu:knd.room A.in1)(y:its.size=ps.length)(hps:ps.length<=dL)(U:h0.IsList l its)(nd:h0.get? d=none)(ni:h0.get? it=none)(m:d≠it)(f:∀(h:dP) (k:K) (a:dE),(∀c o,h0.get? c=some o->h.get? c=some o)->knd.is h0 k a->knd.is h k a)(W:∀(i:Nat) (q:uu K),ps[i]?=some q -> ∃D:dE,its[i]?=some (Value.ref D)/\h0.IsTuple D #[Value.ref q.2.1,q.2.2]/\knd.is h0 q.1 q.2.1):
  ∀(n i:Nat) (s:dD),its.size-i=n->i<=its.size->(∀c o,h0.get? c=Z o->s.heap.get? c=Z o)->s.heap.IsListIter it l i->s.heap.DictOfH knd d (gB (ps.take i)) ->
  (∀h' tk,(∀c o,h0.get? c=Z o->h'.get? c=Z o)->h'.DictOfH knd d (gB ps)->R (.ok (.ret .none)) {s with heap:=h',toks:=tk})->dN (model P w) A (.builtin "dict.update.loop" ⟨[.ref d,.ref it,.int i 0,.none],[]⟩) R s:=by
 have C:∀{c:dE} {o:Obj},h0.get? c=Z o->c≠d/\c≠it:=λ{c o} e=>⟨λz=>(by rw[z,nd]at e;cases e),λz=>(by rw[z,ni]at e;cases e)⟩;have t:∀i,∀x∈gB (ps.take i),knd.is h0 x.1 x.2.1:=λi=>A1 λx p=>by
  obtain⟨j,hj⟩:=bq (cJ p);obtain⟨_,_,_,h⟩:=W j x hj;exact h
 intro n
 induction n with
 |zero=>
  intro i s hk hi keep st Q q;have e:i=its.size:=by lia
  subst e;have g:s.heap.IsList l its:=by obtain⟨o,e,r⟩:=U;exact⟨o,keep _ _ e,r⟩
  refine wD1 qg (?_:_);rw[Around.under_plainId jB _];show dM _ A.in1 (pyNext (.ref it) >>= _) _ _ s;refine wB1 (wpAny_pyNext_list_end (by simpa using hh) st g (by simp) λh' L=>?_);refine wB1 (wP1 (wP1 ?_));refine q h' s.toks (λc o e=>L c o (C e).2 (keep c o e)) ?_;have u:h'.DictOfH knd d (gB (ps.take its.size)):=by
   obtain⟨o,es,ep,F,am,ao,E,g5,I⟩:=Q;have X:∀x∈gB (ps.take its.size),knd.is h' x.1 x.2.1:=λx p=>f _ _ _ (λc o e=>L c o (C e).2 (keep c o e)) (t _ x p);exact⟨o,es,ep,L d o m F,am,ao,E,X,I⟩
  rw[y,bY]at u;exact u
 |succ n ih=>
  intro i s hk hi keep st Q q;have au:i<its.size:=by lia
  have g:s.heap.IsList l its:=by obtain⟨o,e,r⟩:=U;exact⟨o,keep _ _ e,r⟩
  obtain⟨pr,B⟩:∃pr,ps[i]?=some pr:=⟨_,gG1 (by lia)⟩;obtain⟨D,p,⟨op,S,hc,np,hd⟩,N⟩:=W i pr B;refine wD1 qg (?_:_);rw[Around.under_plainId jB _];show dM _ A.in1 (pyNext (.ref it) >>= _) _ _ s;refine wB1 (wpAny_pyNext_list_item st g p λh' st' V=>?_);have b:∀c o,h0.get? c=Z o->h'.get? c=Z o:=λc o e=>by rw[V.2 c (C e).2];exact keep c o e
  have G:h'.DictOfH knd d (gB (ps.take i)):=by
   obtain⟨o,es,ep,F,am,ao,E,g5,I⟩:=Q;exact⟨o,es,ep,by rw[V.2 d m];exact F,am,ao,E,λx p=>f _ _ _ b (t _ x p),I⟩
  show dM _ A.in1 (holding [Value.ref D] _ >>= _) _ _ _;refine wB1 (wpAny_holding (wB1 (wpAny_tryCatch ?_)));unfold Builtin.Dict.pairItems;refine wB1 (wpAny_typeOf (T:="tuple") ⟨op,b _ _ S,hc⟩ ?_);rw[ak (by decide)];refine wB1 (wpAny_seqItems (b _ _ S) hd (wP1 ?_));dsimp only[b7];refine wpAny_holding (wpAny_dictSet_heap (s:={s with heap:=h'}) hu (f _ _ _ b N) G (λh2 H v=>?_) ?_)
  ·refine wP1 ⟨plainId_quiet jB _,?_⟩;have aq:=ih (i+1) {s with heap:=h2,toks:=s.toks+knd.draws pr.1} (by lia) au (fun c o e=>by rw [v.2 c (C e).1];exact b c o e) (by
    obtain⟨o,e1,wq⟩:=st';exact⟨o,by rw[v.2 it (Ne.symm m)];exact e1,wq⟩) (by rw[vq B];exact H) λh3 tk k3 x3=>q h3 tk k3 x3
   exact aq
  ·have:=qa (ps.take i) [];unfold gB;rw[aR]at this;simp at this;lia
theorem vB {l:dE}{xs:Array dB}{i:Nat}{sl:Array (Option dB)}{Q:dB->dD->Prop}(p:A.handled=none)(hx:s.heap.get? l=some {cls:=.type "list",dict:=none,data:=.seq xs i,slots:=sl})
  (j:∀(k:dG) (h1:dP) (tk:Nat) (it:dE),k.handled=Y->k.units<=A.units+2->(∀b o,s.heap.get? b=Z o->h1.get? b=Z o)->s.heap.get? it=Y->s.heap.objs.size≠it->h1.IsListIter it l 0->h1.DictOfH knd s.heap.objs.size [] ->
   ∀R:Result->dD->Prop,(∀s',Q (.ref s.heap.objs.size) s'->R (.ok (.ret .none)) s')->dN (model P w) k (.builtin "dict.update.loop" ⟨[.ref s.heap.objs.size,.ref it,.int 0 0,.none],[]⟩) R {s with heap:=h1,toks:=tk}):
  dM (model P w) A (call (.type "dict") [.ref l]) Q E s:=by
 refine callType_codes (Q₁:=λg f=>g = .ref s.heap.objs.size/\f={s with heap:=s.heap.push {cls:=.type "dict",data:=.dict #[]}}) PySem.F.kt_called_dict (PySem.F.kt_typeCall_dict_1 _) PySem.F.entry_dict_init (kt_code_dict_new _ ⟨O,O⟩) ?_;rintro g f ⟨rfl,rfl⟩;have c:(s.heap.push {cls:=.type "dict",data:=.dict #[]}).DictOfH knd s.heap.objs.size []:=Heap.DictOfH.new s.heap;have n:Shared.TypeIs {s with heap:=s.heap.push {cls:=.type "dict",data:=.dict #[]}} (.ref s.heap.objs.size) "dict":=c.typeIs;have h:(s.heap.push {cls:=.type "dict",data:=.dict #[]}).get? l=Z {cls:=.type "list",dict:=Y,data:=.seq xs i,slots:=sl}:=hP1 _ hx;refine⟨n,PySem.F.args_dict_init_2 _ _,?_⟩;unfold Builtin.«dict.__init__»;refine wB1 ?_;unfold Builtin.Dict.selfAndRest;refine wB1 (wpAny_notOrdered_dict n ?_);show dM _ _ (pure (s.heap.objs.size,[Value.ref l])) _ _ _;refine wP1 ?_;show dM _ _ (Builtin.Dict.updateFrom "dict.__init__" s.heap.objs.size (.ref l) [] .none) _ _ _;unfold Builtin.Dict.updateFrom;refine wB1 (wpAny_typeOf (T:="list") ⟨_,h,O⟩ ?_);rw[ak (by decide)];refine wB1 (yM (s:={s with heap:=s.heap.push {cls:=.type "dict",data:=.dict #[]}}) h (by simpa using p) λh1 tk keep=>?_);rw[ak (show(Y:Option dB).isNone=M from rfl)];have a:∀b o,s.heap.get? b=Z o->h1.get? b=Z o:=λb o e=>keep b o (hP1 _ e);have B:h1.IsList l xs:=⟨_,a _ _ hx,O,i,O⟩;refine wB1 (wpAny_rule (wB1 (wpAny_pyIter_list (s:={s with heap:=h1,toks:=tk}) B ?_)));obtain⟨C,es,ep,u,y,z,t,D,v⟩:=c;have r:=keep _ _ u;have m:=hL1 r;have d:h1.get? h1.objs.size=Y:=Heap.get?_none_of_le (nR1 _);refine wB1 (wP1 (wP1 ⟨plainId_quiet jB _,?_⟩));refine j A.in1 _ tk h1.objs.size (by simpa using p) (aX _) (λb o e=>hP1 _ (a b o e)) ?_ (nN1 m) ?_ ?_ _ λs' q=>⟨O,q⟩
 ·cases e:s.heap.get? h1.objs.size with
  |none=>rfl
  |some o=>rw[a _ _ e]at d;cases d
 ·exact⟨_,hS1 _ O,O,O⟩
 ·exact⟨C,es,ep,hP1 _ r,y,z,t,(λx hx=>by cases hx),v⟩
end
noncomputable def K4(F:List (TK×D)):Ob:=match F with
 |[]=>.dct []
 |_=>.dcT F
noncomputable def wh:D->Option (TK×D)
 | .tup [k,v]=>(keyT k).map λk=>(k,v)
 |_=>Y
noncomputable def i7:List D->Option (List (TK×D))
 |[]=>Z []
 |x::xs=>(wh x).bind λp=>(i7 xs).map (p :: ·)
noncomputable def jX(ps:List (TK×D)):List (TK×D):=ps.foldl (λF p=>fi F p.1 p.2) []
noncomputable def jk:G1:=λd S=>match d4 S d with
 |some (M,xs)=>(i7 xs).bind λps=>if xs.length<=100000 then Z (.ref S.length,S++[K4 (jX ps)])else Y
 |_=>Y
section
variable{X:Cx}{ag:List (dE×Obj)}{σ:L2.St}{H:Hp}{s:dD}{mu:List dE}
theorem zW(I:Inv X ag σ H s){d:D}{v:V}{u:dB}{p:TK×D}(r:eH X.K H mu d v)(q:d5 v u)(h:wh d=some p):
  ∃w:uu TK,(p.1=w.1/\p.1.dep<=8/\eH X.K H mu (tkD p.1) (.ref w.2.1) /\ ∃v,d5 v w.2.2/\eH X.K H mu p.2 v) /\ ∃g:dE,u = .ref g/\s.heap.IsTuple g #[Value.ref w.2.1,w.2.2]/\(fP X.prog X.w).is s.heap w.1 w.2.1:=by
 unfold wh at h;split at h
 ·rename_i k x;obtain⟨m,l,e⟩:=oM1.mp h;subst e;cases r with
  | @tup _ a vs h1 h2=>
   cases q;obtain⟨i,z,y,_⟩:=I.tuple h1;cases h2 with
   |cons j c=>cases c with
    |cons r2 f=>
     cases f;cases z with
     |cons o c=>cases c with
      |cons n f=>
       cases f;obtain⟨b,rfl,rfl,rk,t,hi⟩:=jh I j o l;exact⟨(m,b,_),⟨O,t,rk,_,n,r2⟩,_,O,y,hi⟩
 ·cases h
theorem pL(I:Inv X ag σ H s):∀ {ds:List D} {vs:List V} {b:List dB} {ps:List (TK×D)},d2 X.K H mu ds vs->ee vs b->i7 ds=some ps ->
  ∃ws:List (uu TK),KT X.K H mu ps ws/\ws.length=b.length /\ ∀(i:Nat) (q:uu TK),ws[i]?=Z q -> ∃a:dE,b[i]?=Z (Value.ref a)/\s.heap.IsTuple a #[Value.ref q.2.1,q.2.2]/\(fP X.prog X.w).is s.heap q.1 q.2.1
 |[],_,_,ps,.nil,.nil,h=>by cases h;exact⟨[],.nil,O,λi q h=>by simp at h⟩
 |d::ds,_,_,ps,.cons r t,.cons q n,h=>by
  rw[i7]at h;obtain⟨p,l,h⟩:=oB1.mp h;obtain⟨k,g,h⟩:=oM1.mp h;subst h;obtain⟨w,j,a,c,m,f⟩:=zW I r q l;obtain⟨ws,h1,h2,e⟩:=pL I t n g;refine⟨w::ws,.cons j h1,by rw[lC1,lC1,h2],λi q h=>?_⟩;cases i with
  |zero=>simp at h;subst h;exact⟨a,by rw[c];rfl,m,f⟩
  |succ i=>exact e i q (by simpa using h)
theorem KT.fold{K:Fg1}:∀{ps:List (TK×D)} {ws:List (uu TK)} {as:List (TK×D)} {bs:List (uu TK)},KT K H mu ps ws->KT K H mu as bs->KT K H mu (ps.foldl (λF p=>fi F p.1 p.2) as) (ws.foldl (λa q=>storedH a q.1 q.2.1 q.2.2) bs):=by
 intro ps ws as bs h
 induction h generalizing as bs with
 |nil=>exact λg=>g
 | @cons p q ps ws r t ih=>
  intro g;obtain⟨e,c,rk,v,b,r2⟩:=r;rw[b9,b9,<- e];exact ih (g.put c rk b r2)
theorem yt(ps:List (TK×D)):(jX ps).length<=ps.length:=by
 have:∀(ps a:List (TK×D)),(ps.foldl (λF p=>fi F p.1 p.2) a).length<=a.length+ps.length:=by
  intro ps
  induction ps with
  |nil=>intro a;exact nR1 _
  |cons p ps ih=>
   intro a;rw[b9,lC1];have h1:=ih (fi a p.1 p.2);have h2:=my a p.1 p.2;lia
 have:=this ps [];simpa[jX]using this
theorem nU:∀{ds:List D} {ps:List (TK×D)},i7 ds=Z ps->ps.length=ds.length
 |[],ps,h=>by cases h;rfl
 |d::ds,ps,h=>by
  rw[i7]at h;obtain⟨p,c,h⟩:=oB1.mp h;obtain⟨a,b,h⟩:=oM1.mp h;subst h;rw[lC1,lC1,nU b]
theorem xb{k:Nat}(hr:fN k X.A):eZ X (.type "dict") (rN X.K (b1 jk)):=by
 intro ag s σ H xs us Q I r h;obtain⟨x,mu,S,d,r',S',rfl,r1,C,f,hc⟩:=Ci h;unfold jk at f;split at f
 ·rename_i ds en;obtain⟨ps,ep,f⟩:=oB1.mp f;split at f
  ·rename_i hl;cases f;obtain⟨a,vs,rfl,q,t⟩:=d6 r1 C en;obtain⟨u,rfl,r2⟩:=g0 r;cases r2;obtain⟨v,ao,ht,hz⟩:=I.list q;obtain⟨ws,kt,w,aq⟩:=pL I t ao ep;have B:v.length=ds.length:=by rw[<- ao.length,<- t.length]
   obtain⟨ol,n,N,E,D,c⟩:=ht;obtain⟨oc,od,oa,os⟩:=ol;dsimp only at E D c
   subst E D c
   have hu:=hr.un;refine vB (knd:=fP X.prog X.w) hr.hd N λA' h1 tk it G au keep W ne st hD R hR=>?_;have L:ws.length<=100000:=by rw[w,B];exact hl
   have big:ws.length<=dL:=aC L (by decide);refine yx (knd:=fP X.prog X.w) (h0:=s.heap) (its:=v.toArray) (ps:=ws) G (by show A'.units+1+8<cLine;lia) (by rw[sT1];exact w.symm) big ⟨_,N,O,n,O⟩ (Heap.get?_none_of_le (nR1 _)) W ne
    (λh k a e z=>⟨z.1.grows e,z.2⟩) (λi q e=>?_) _ 0 _ O (bi _) keep st (by simpa[gB]using hD) λh' l b g=>hR _ ?_
   ·obtain⟨pa,V,T,e3⟩:=aq i q e;exact⟨pa,by rw[cg];exact V,T,e3⟩
   ·have m:H s.heap.objs.size=none:=I.fresh;have j:KT X.K H mu (jX ps) (gB ws):=KT.fold kt .nil;have y:(s.heap.objs.size == sysModules)=false:=beq_eq_false_iff_ne.mpr (Ne.symm (nN1 I.big));have A:(gB ws).length<=dL:=by
     rw[<- j.length];have h1:=yt ps;have h2:=nU ep;exact aC (by lia:(jX ps).length<=100000) (by decide)
    cases ef:jX ps with
    |nil=>
     rw[ef]at j hc;generalize gB ws=fw at j g A;cases j;obtain⟨o,es,am,U,wq,g3,P,g5,g6⟩:=g;have K:es = #[]:=Array.toList_inj.mp (by simpa using P);subst K;refine⟨.ref s.heap.objs.size,upd H s.heap.objs.size (.dK []),I.laid (t':=l) (o:=.dK []) b (nR1 _) ⟨bi _,y,[],.nil,o,#[],am,U,wq,g3,?_,?_,bo⟩,O,hc _ _ (mu++[s.heap.objs.size]) (Ext.new_ m) (.ref (fQ C.len _)) (C.new m ⟨[],d8,.nil⟩)⟩
     ·intro e K;simp at K
     ·exact .nil
    |cons p F=>
     rw[ef]at j hc;refine⟨.ref s.heap.objs.size,upd H s.heap.objs.size (.ext (gf s.heap.objs.size (gB ws))),I.laid (t':=l) b (nR1 _) (rQ y g),O,hc _ _ (mu++[s.heap.objs.size]) (Ext.new_ m) (.ref (fQ C.len _)) (C.new m ⟨_,d8,j.ext (Ext.new_ m),A⟩)⟩
  ·cases f
 ·cases f
end
mutual
noncomputable def D.mv(h n:Nat):D->D
 | .tup xs=>.tup (D.mvs h n xs)
 | .rol xs=>.rol (D.mvs h n xs)
 | .ref 0=>.ref h
 | .ref (k+1)=>.ref (n+k)
 | .fn x=>.fn x
 | .non=>.non
 | .bl b=>.bl b
 | .int i=>.int i
 | .str x=>.str x
noncomputable def D.mvs(h n:Nat):List D->List D
 |[]=>[]
 |d::ds=>D.mv h n d::D.mvs h n ds
end
noncomputable def Ob.mv(h n:Nat):Ob->Ob
 | .lst xs=>.lst (D.mvs h n xs)
 | .dct kvs=>.dct (kvs.map λp=>(p.1,p.2.mv h n))
 | .dcT kvs=>.dcT (kvs.map λp=>(p.1,p.2.mv h n))
 | .iset xs=>.iset xs
 | .dcF kvs=>.dcF (kvs.map λp=>(p.1,p.2.mv h n))
 | .tst ks=>.tst ks
section
variable{K:Fg1}{H:Hp}{mu nu:List dE}{a:dE}{h:Nat}
theorem eH.mv(ha:mu[h]? = some a):∀ {d:D} {v:V},eH K H (a::nu) d v->eH K H (mu++nu) (d.mv h mu.length) v:=fun c=>c.rec (motive_1:=fun d v _=>eH K H (mu++nu) (d.mv h mu.length) v) (motive_2:=fun ds vs _=>d2 K H (mu++nu) (D.mvs h mu.length ds) vs)
  .non .bl .int .str (λh _ ih=>.tup h ih) (λh _ ih=>.rol h ih) (λ{n b} e=>by
   cases n with
   |zero=>
    have:a=b:=by simpa using e
    subst this;exact .ref (by rw[gL1 (gE1.mp ha).1];exact ha)
   |succ k=>exact .ref (by rw[gR1 (br _ _),bt];simpa using e)) (λh=>.fn h) .nil (λ_ _ a b=>.cons a b)
theorem d2.mv(ha:mu[h]?=Z a):∀{ds:List D} {vs:List V},d2 K H (a::nu) ds vs->d2 K H (mu++nu) (D.mvs h mu.length ds) vs:=λb=>b.ind (P:=λds vs _=>d2 K H (mu++nu) (D.mvs h mu.length ds) vs) .nil λr _ ih=>.cons (eH.mv ha r) ih
theorem KR.mv{κ:Type}(ha:mu[h]?=Z a):∀{ks:List (κ×D)} {ws:List (κ×V)},KR K H (a::nu) ks ws->KR K H (mu++nu) (ks.map λp=>(p.1,p.2.mv h mu.length)) ws:=by
 intro ks ws b
 induction b with
 |nil=>exact .nil
 |cons r t ih=>exact .cons ⟨r.1,r.2.mv ha⟩ ih
mutual
theorem D8(h n:Nat):∀k:TK,(tkD k).mv h n=tkD k
 | .non=>rfl
 | .int _=>rfl
 | .tup xs=>by rw[tkD,D.mv,zg h n xs]
theorem zg(h n:Nat):∀ks:List TK,D.mvs h n (hW ks)=hW ks
 |[]=>rfl
 |x::xs=>by rw[hW,D.mvs,D8 h n x,zg h n xs]
end
theorem KT.mv(ha:mu[h]?=Z a):∀{ks:List (TK×D)} {ws:List (TK×dE×dB)},KT K H (a::nu) ks ws->KT K H (mu++nu) (ks.map λp=>(p.1,p.2.mv h mu.length)) ws:=by
 intro ks ws c
 induction c with
 |nil=>exact .nil
 |cons r t ih=>
  obtain⟨z,d,k,v,b,r⟩:=r;exact .cons ⟨z,d,by have:=k.mv ha;rw[D8]at this;exact this,v,b,r.mv ha⟩ ih
theorem kk.mv{b:dE}(ha:mu[h]?=Z a):∀{o:Ob},kk K H (a::nu) b o->kk K H (mu++nu) b (o.mv h mu.length)
 | .lst _,⟨vs,e,r⟩=>⟨vs,e,r.mv ha⟩
 | .dct _,⟨ws,e,r⟩=>⟨ws,e,KR.mv ha r⟩
 | .dcT _,⟨ws,e,r,l⟩=>⟨ws,e,KT.mv ha r,l⟩
 | .iset _,q=>q
 | .dcF _,⟨ws,e,r,l⟩=>⟨ws,e,KT.mv ha r,l⟩
 | .tst ks,⟨ws,e,r⟩=>⟨ws,e,by have:=KT.mv ha r;rw[bu]at this;exact this⟩
end
noncomputable def apart(f:FN):FN:=λds S=>match ds with
 | .ref h::es=>if D.unds 0 es=true then (S[h]?).bind fun o=>if o.und 0=true then (mG f (.ref 0::es) [o]).bind fun p=>match p.2 with
   |o'::G=>if o'.und 0=M then(if p.1.und 0=M then Z (p.1,S.set h o')else Z (p.1.mv h S.length,S.set h o'++G.map (Ob.mv h S.length)))else Y
   |[]=>Y
  else Y
  else Y
 |_=>Y
theorem By{K:Fg1}{f:FN}{vs:List V}{H:Hp}{Q:VK}(q:rN K (apart f) vs H Q):rN K f vs H Q:=by
 obtain⟨mu,S,ds,d,S',X,j,g,hc⟩:=q;unfold apart at g;split at g
 ·rename_i h es;split at g
  ·rename_i A;obtain⟨o,I,g⟩:=oB1.mp g;split at g
   ·rename_i N;obtain⟨⟨T,F⟩,P,g⟩:=oB1.mp g;cases X with
    | @cons _ v _ vt r0 t0=>
    cases r0 with
    | @ref _ a p=>
    have i:∀{m1 m2:List dE} (k:Nat),k<0->m1[k]?=m2[k]?:=λk aq=>absurd aq (bw _);refine ub ⟨[a],[o],.ref 0::es,T,F,.cons (.ref O) (t0.cut (n:=0) i A),⟨O,by simp,λn o2 b h1 h2=>?_⟩,P,λv H' mu' x r s=>?_⟩
    ·cases n with
     |zero=>
      have ao:o=o2:=by simpa using h1
      have e3:a=b:=by simpa using h2
      subst ao e3;exact(j.ob h o a I p).cut (n:=0) i N
     |succ n=>simp at h1
    ·obtain⟨nu,B⟩:=x.pre;have y:mu'=a::nu:=B.symm;subst y;dsimp only at g;cases F with
     |nil=>cases g
     |cons o' G=>
      dsimp only at g;split at g
      ·rename_i E;have w:Ext mu mu H H':=⟨bn,fun b z e L=>x.old b z e (fun l=>L (by rw [cU.mp l];exact gM1 p)),x.tup,x.frz,fun _ z=>.inl z⟩;have m:∀ (n:Nat) (z:Ob) (b:dE),(S.set h o')[n]? = some z->mu[n]? = some b->kk K H' mu b z:=fun n z b h1 h2=>by
        by_cases e:h=n
        ·subst e;rw[aI (gE1.mp I).1]at h1;cases h1;rw[p]at h2;cases h2;exact(s.ob 0 o' a O O).cut (n:=0) i E
        ·rw[gS1 e]at h1;refine(j.ob n z b h1 h2).keep w λu eu=>x.old b u eu λl=>?_;have l:=cU.mp l;subst l;exact e ((List.getElem?_inj (gE1.mp p).1 j.nd).mp (p.trans h2.symm))
       split at g
       ·rename_i R;cases g;exact hc v H' mu w (r.cut (n:=0) i R) ⟨by rw[aW];exact j.len,j.nd,m⟩
       ·cases g;have snd:=s.nd;rw [aO] at snd;have am:∀ b∈nu,H b=none:=fun b l=>by
         rcases x.new b (mC1 _ l)with z|z
         ·rw[cU.mp z]at l;exact absurd l snd.1
         ·exact z
        have U:Ext mu (mu++nu) H H':=⟨bv _ _,w.old,w.tup,w.frz,λb z=>by
         rcases aG.mp z with z|z
         ·exact .inl z
         ·exact .inr (am b z)⟩
        refine hc v H' (mu++nu) U (by rw[<- j.len];exact r.mv p) ⟨?_,?_,λn z b h1 h2=>?_⟩
        ·have:=s.len;simp only[lC1]at this;rw[lA1,lA1,lM1,aW,j.len];lia
        ·refine bA.mpr ⟨j.nd,snd.2,λb l c C z=>?_⟩;subst z;obtain⟨o2,e⟩:=j.here l;rw[am b C]at e;cases e
        ·by_cases D:n<S.length
         ·rw[gL1 (by rw[aW];exact D)]at h1;rw[gL1 (by rw[j.len];exact D)]at h2;exact(m n z b h1 h2).mor nu
         ·have t:=a0 D;rw[gR1 (by rw[aW];exact t),aW]at h1;rw[gR1 (by rw[j.len];exact t),j.len]at h2;rw[gP1]at h1;obtain⟨wq,au,W⟩:=oM1.mp h1;subst W;have q:=s.ob (n-S.length+1) wq b (by rw[gC1];exact au) (by rw[gC1];exact h2);rw[<- j.len];exact q.mv p
      ·cases g
   ·cases g
  ·cases g
 ·cases g
theorem fg.ap{P:dF}{w:dH}{K:Fg1}{mg:Str->Option dB}{base:dP}{k:Nat}{x:Str}{n:Nat}{m:FN}(h:fg P w K mg base k x n m):fg P w K mg base k x n (apart m):=by
 obtain⟨f,fd,ps,F,b,a,c⟩:=h;exact⟨f,fd,ps,F.imp λvs H Q E q=>⟨q.1,By q.2⟩,b,a,c⟩
section
variable{X:Cx}
end
def W{α:Type}(o:Option α)(Q:α->Prop):Prop:=∃x,o=Z x/\Q x
section
variable{α β:Type}{Q:α->Prop}
theorem ej{x:α}:W (Z x) Q↔Q x:=⟨λ⟨_,e,h⟩=>(by cases e;exact h),λh=>⟨x,O,h⟩⟩
theorem kh:W (Y:Option α) Q↔False:=⟨λ⟨_,e,_⟩=>(by cases e),False.elim⟩
theorem ec{o:Option β}{f:β->Option α}:W (o.bind f) Q↔W o λx=>W (f x) Q:=by
 cases o with
 |none=>exact⟨λ⟨_,e,_⟩=>(by cases e),λ⟨_,e,_⟩=>(by cases e)⟩
 |some x=>exact⟨λh=>⟨x,O,h⟩,λ⟨_,e,h⟩=>by cases e;exact h⟩
theorem lC{o:Option β}{f:β->α}:W (o.map f) Q↔W o λx=>Q (f x):=by
 cases o with
 |none=>exact⟨λ⟨_,e,_⟩=>(by cases e),λ⟨_,e,_⟩=>(by cases e)⟩
 |some x=>exact⟨λ⟨_,e,h⟩=>(by cases e;exact⟨x,O,h⟩),λ⟨_,e,h⟩=>(by cases e;exact⟨_,O,h⟩)⟩
theorem qu{c:Prop}[Decidable c]{a b:Option α}:W (if c then a else b) Q↔if c then W a Q else W b Q:=by split<;>exact Iff.rfl
theorem W.mono{o:Option α}{Q':α->Prop}(h:W o Q)(k:∀x,Q x->Q' x):W o Q':=let ⟨x,e,q⟩:=h;⟨x,e,k x q⟩
theorem W.of{o:Option α}{x:α}(e:o=Z x)(h:Q x):W o Q:=⟨x,e,h⟩
end
theorem eW{a b:FS}{r:Ev}{S:Sto}{Q:Fl×Ev×Sto->Prop}(R:Ev->Sto->Prop)(h1:W (a r S) λp=>p.1 = .nx/\R p.2.1 p.2.2)(h2:∀r S,R r S->W (b r S) Q):W (et a b r S) Q:=by
 obtain⟨⟨f,h,g⟩,e,c,d⟩:=h1;dsimp only at c d;subst c;unfold et;rw[e];exact h2 h g d
theorem mQ{n:Nat}{b:FS}{ds:List D}{S:Sto}{Q:D×Sto->Prop}(h:W (b (gK n ds) S) fun p=>match p.1 with
  | .rt d=>Q (d,p.2.2)
  | .nx=>Q (.non,p.2.2)
  |_=>False):W (gW n b ds S) Q:=by
 obtain⟨⟨f,c,a⟩,e,q⟩:=h;unfold gW;rw[e];cases f with
 |rt d=>exact⟨_,O,q⟩
 |nx=>exact⟨_,O,q⟩
 |bk=>exact q.elim
 |ct=>exact q.elim
theorem oD{n:Nat}{f:FN}{ds:List D}{S:Sto}{Q:D×Sto->Prop}(hn:ds.length=n)(a:D.unds 0 ds=J)(h:W (f ds S) λp=>Q (gc S.length p)):W (dW n f ds S) Q:=by
 obtain⟨⟨d,b⟩,e,q⟩:=h;exact⟨_,qk e hn a,q⟩
theorem hH{n:Nat}{f:FN}{ds:List D}{S:Sto}{Q:D×Sto->Prop}(hn:ds.length=n)(b:D.unds 0 ds=M)(h:W (f ds []) λp=>p.1.und 0=M/\Q (p.1,S)):W (dW n f ds S) Q:=by
 obtain⟨⟨d,g⟩,e,c,a⟩:=h;exact⟨_,yH e hn b c,a⟩
mutual
theorem fC{n:Nat}:∀{d:D},d.und 0=M->d.und n=M
 | .non,_=>rfl
 | .bl _,_=>rfl
 | .int _,_=>rfl
 | .str _,_=>rfl
 | .tup xs,h=>by rw[D.und]at h ⊢;exact jx h
 | .rol xs,h=>by rw[D.und]at h ⊢;exact jx h
 | .fn _,_=>rfl
 | .ref k,h=>by simp[D.und]at h
theorem jx{n:Nat}:∀{ds:List D},D.unds 0 ds=M->D.unds n ds=M
 |[],_=>rfl
 |d::ds,h=>by
  rw[D.unds,bA1]at h ⊢;exact⟨fC h.1,jx h.2⟩
end
theorem w9{n:Nat}{f:FN}{ds:List D}{o:Ob}{T:Sto}{Q:D×Sto->Prop}(hn:ds.length=n)(g:D.unds 0 ds=J)(c:T.all (Ob.und (T.length+1))=M)(h:W (f ds (o::T)) λp=>∃d o' G,p=(d,o'::(T++G))/\d.und 0=M/\o'.und (T.length+1)=M/\Q (d,o'::T)):W (dW n f ds (o::T)) Q:=by
 refine oD hn g (h.mono ?_);rintro p ⟨d,o',G,rfl,b,a,q⟩;have e:(o'::(T++G)).take (T.length+1)=o'::T:=by simp
 unfold gc;dsimp only[lC1];rw[ak (by rw[e,fC b,bP,a,c];rfl),e];exact q
theorem gn{c:List (Nat×List D)}{g:FG}{b:FS}{Q:Fl×Ev×Sto->Prop}(I:Nat->Ev->Sto->Prop):∀ (items:List D) (k:Nat) (r:Ev) (S:Sto),I k r S ->
  (∀i r S,I i r S->pM S c=M) ->
  (∀i d,items[i]?=Z d -> ∀r S,I (k+i) r S->W (g d r S) λp=>W (b p.1 p.2) λq=>q.1 = .nx/\I (k+i+1) q.2.1 q.2.2) ->
  (∀r S,I (k+items.length) r S->Q (.nx,r,S))->W (k4 c g b items r S) Q
 |[],k,r,S,hi,hok,_,hq=>by rw[k4];dsimp only;rw[ak (hok _ _ _ hi),ej];exact hq r S (by simpa using hi)
 |d::ds,k,r,S,hi,hok,hs,hq=>by
  rw[k4];dsimp only;rw[ak (hok _ _ _ hi),ec];obtain⟨p,l,h1⟩:=hs 0 d O r S (by simpa using hi);refine⟨p,l,?_⟩;dsimp only;rw[ec];obtain⟨⟨f,h,o⟩,j,h2,e⟩:=h1;refine⟨_,j,?_⟩;dsimp only at h2 e ⊢;subst h2;refine gn I ds (k+1) h o (by simpa using e) hok (λi m n r S a=>?_) λr S a=>hq r S (by rw[lC1,show k+(ds.length+1)=k+1+ds.length by lia];exact a);have:=hs (i+1) m (by simpa using n) r S (by rw[show k+(i+1)=k+1+i by lia];exact a);rw[show k+(i+1)+1=k+1+i+1 by lia]at this;exact this
theorem jG{c:List (Nat×List D)}{g:FG}{t:FT}{e:FE}{Q:List D×Ev×Sto->Prop}(I:Nat->List D->Ev->Sto->Prop):∀ (items:List D) (k:Nat) (acc:List D) (r:Ev) (S:Sto),I k acc r S ->
  (∀i acc r S,I i acc r S->pM S c=M) ->
  (∀i d,items[i]?=Z d -> ∀acc r S,I (k+i) acc r S->W (g d r S) λp=>W (t p.1 p.2) λb=>if b.1=M then W (e p.1 b.2) λx=>I (k+i+1) (acc++[x.1]) p.1 x.2 else I (k+i+1) acc p.1 b.2) ->
  (∀xs r S,I (k+items.length) (acc++xs) r S->Q (xs,r,S))->W (fK c g t (eD e) items r S) Q
 |[],k,acc,r,S,hi,hok,_,hq=>by rw[fK];dsimp only;rw[ak (hok _ _ _ _ hi),ej];exact hq [] r S (by simpa using hi)
 |d::ds,k,acc,r,S,hi,hok,hs,hq=>by
  rw[fK];dsimp only;rw[ak (hok _ _ _ _ hi),ec];obtain⟨p,n,h1⟩:=hs 0 d O acc r S (by simpa using hi);refine⟨p,n,?_⟩;dsimp only;rw[ec];obtain⟨⟨b,q⟩,l,h2⟩:=h1;refine⟨_,l,?_⟩;have step:∀i f,ds[i]?=Z f -> ∀acc r S,I (k+1+i) acc r S->W (g f r S) λp=>W (t p.1 p.2) λb=>if b.1=M then W (e p.1 b.2) λx=>I (k+1+i+1) (acc++[x.1]) p.1 x.2 else I (k+1+i+1) acc p.1 b.2:=λi f o acc r S a=>by
   have:=hs (i+1) f (by simpa using o) acc r S (by rw[show k+(i+1)=k+1+i by lia];exact a);rw[show k+(i+1)+1=k+1+i+1 by lia]at this;exact this
  dsimp only at h2 ⊢;cases b with
  |true=>
   rw[ak O]at h2 ⊢;rw[ec,eD,lC];obtain⟨⟨x,m⟩,j,h⟩:=h2;refine⟨_,j,?_⟩;dsimp only at h ⊢;rw[lC];refine jG I ds (k+1) (acc++[x]) p.1 m (by simpa using h) hok step λxs r S a=>?_;refine hq _ r S ?_;rw[lC1,show k+(ds.length+1)=k+1+ds.length by lia];simpa using a
  |false=>
   rw[aj (by decide)]at h2 ⊢;refine jG I ds (k+1) acc p.1 q (by simpa using h2) hok step λxs r S a=>?_;refine hq _ r S ?_;rw[lC1,show k+(ds.length+1)=k+1+ds.length by lia];exact a
theorem EM{S:Sto}{b:Bool}:qB S (.bl b)=Z b:=rfl
theorem Jw{S:Sto}:qB S .non=Z J:=rfl
theorem Jx{S:Sto}{i:Int}:qB S (.int i)=Z (i != 0):=rfl
theorem DG{x y:Int}{S:Sto}:wT (.int x) (.int y) S=Z (.bl (x == y),S):=rfl
theorem JH{x y:Int}{S:Sto}:Hs (.int x) (.int y) S=Z (.bl (!(x == y)),S):=rfl
theorem DD{x y:Int}{S:Sto}:wS (.int x) (.int y) S=Z (.bl (decide (x<y)),S):=rfl
theorem JI{x y:Str}{S:Sto}:wT (.str x) (.str y) S=Z (.bl (x == y),S):=rfl
theorem DA{x y:Str}{S:Sto}:Hs (.str x) (.str y) S=Z (.bl (!(x == y)),S):=rfl
theorem ite_and'{c p:Prop}[Decidable c]:(if c then p else False)↔c/\p:=by split<;>simp[*]
noncomputable def yT(j:Int):Bool:=decide (-(2^62)<=j)&&decide (j<2^62)
theorem gt{n:Nat}(h:n<2^60):yT n=M:=by
 unfold yT;rw[bA1,al,al];lia
theorem Br{j:Int}(h: -(2^60)<=j)(h':j<2^60):yT j=M:=by
 unfold yT;rw[bA1,al,al];lia
def HZ(p:List D×Sto)(Q:BS×Sto->Prop):Prop:=match p.1 with
 |[.int j]=>yT j=M/\Q (⟨gM 0 j.toNat,[]⟩,p.2)
 |_=>False
def JA(p:List D×Sto)(Q:BS×Sto->Prop):Prop:=match p.1 with
 |[.int i,.int j]=>yT i=M/\yT j=M/\Q (⟨gM i (j-i).toNat,[]⟩,p.2)
 |_=>False
theorem Et{m:FA}{r:Ev}{S:Sto}{Q:BS×Sto->Prop}:W (vh m r S) Q↔W (m r S) λp=>HZ p Q:=by
 unfold vh;rw[ec];constructor
 ·refine λh=>h.mono λp q=>?_;unfold HZ;split at q
  ·rename_i j e
   try rw[e]
   rw[qu]at q;split at q
   ·rename_i hc;exact⟨by unfold yT;rw[bA1,al,al];exact hc,ej.mp q⟩
   ·exact(kh.mp q).elim
  ·exact(kh.mp q).elim
 ·refine λh=>h.mono λp q=>?_;unfold HZ at q;split at q
  ·rename_i j e;obtain⟨a,b⟩:=q;unfold yT at a;rw[bA1,al,al]at a
   try rw[e]
   try dsimp only
   rw[ak a];exact ej.mpr b
  ·exact q.elim
theorem Jl{m:FA}{r:Ev}{S:Sto}{Q:BS×Sto->Prop}:W (IM m r S) Q↔W (m r S) λp=>JA p Q:=by
 unfold IM;rw[ec];constructor
 ·refine λh=>h.mono λp q=>?_;unfold JA;split at q
  ·rename_i i j e
   try rw[e]
   rw[qu]at q;split at q
   ·rename_i hc;refine⟨?_,?_,ej.mp q⟩
    ·unfold yT;rw[bA1,al,al];exact⟨hc.1,hc.2.1⟩
    ·unfold yT;rw[bA1,al,al];exact hc.2.2
   ·exact(kh.mp q).elim
  ·exact(kh.mp q).elim
 ·refine λh=>h.mono λp q=>?_;unfold JA at q;split at q
  ·rename_i i j e;obtain⟨a,b,c⟩:=q;unfold yT at a b;rw[bA1,al,al]at a b
   try rw[e]
   try dsimp only
   rw[ak ⟨a.1,a.2,b⟩];exact ej.mpr c
  ·exact q.elim
noncomputable def fits(n:Nat):Bool:=decide (n<=dL)
theorem ea{n:Nat}(h:n<=100000):fits n=M:=by unfold fits;rw[al];exact aC h (by decide)
theorem tN{n:Nat}:fits n=M↔n<=dL:=by unfold fits;rw[al]
theorem LK:fits 0=M:=ea (by decide)
theorem LJ:fits 1=M:=ea (by decide)
theorem K2:fits 2=M:=ea (by decide)
theorem LI:fits 3=M:=ea (by decide)
theorem LH:fits 4=M:=ea (by decide)
theorem LV:fits 5=M:=ea (by decide)
theorem LU:fits 6=M:=ea (by decide)
theorem LG:fits 7=M:=ea (by decide)
theorem LS:fits 8=M:=ea (by decide)
theorem ij{α:Type}{n:Nat}{o:Option α}{Q:α->Prop}:W (if n<=dL then o else Y) Q↔fits n=M/\W o Q:=by
 rw[tN,qu];split
 ·rename_i h;exact⟨λq=>⟨h,q⟩,λq=>q.2⟩
 ·rename_i h;exact⟨λq=>(kh.mp q).elim,λq=>absurd q.1 h⟩
theorem BD{a:FA}{r:Ev}{S:Sto}{Q:D×Sto->Prop}:W (eP a r S) Q↔W (a r S) λp=>fits p.1.length=M/\Q (.tup p.1,p.2):=by
 unfold eP;rw[ec];exact⟨λh=>h.mono λp q=>(ij.mp q).imp_right ej.mp,λh=>h.mono λp q=>ij.mpr (q.imp_right ej.mpr)⟩
theorem G9{a:FA}{r:Ev}{S:Sto}{Q:D×Sto->Prop}:W (j8 a r S) Q↔W (a r S) λp=>fits p.1.length=M/\Q (.ref p.2.length,p.2++[.lst p.1]):=by
 unfold j8;rw[ec];exact⟨λh=>h.mono λp q=>(ij.mp q).imp_right ej.mp,λh=>h.mono λp q=>ij.mpr (q.imp_right ej.mpr)⟩
theorem rY{k:Nat}{keep:List Nat}{m:FI}{g:FG}{t:FT}{b:FV}{r:Ev}{S:Sto}{Q:D×Sto->Prop}:W (eS k keep m g t b r S) Q↔W (m r S) λp=>W (fK p.1.chk g t b p.1.items (rK k keep r) p.2) λq=>fits q.1.length=M/\Q (.ref q.2.2.length,q.2.2++[.lst q.1]):=by
 unfold eS;rw[ec];refine⟨λh=>h.mono λp q=>?_,λh=>h.mono λp q=>?_⟩
 ·rw[ec]at q;exact q.mono λz w=>(ij.mp w).imp_right ej.mp
 ·rw[ec];exact q.mono λz w=>ij.mpr (w.imp_right ej.mpr)
theorem Hc{xs ys:List D}{S:Sto}{Q:D×Sto->Prop}:W (gl (.tup xs) (.tup ys) S) Q↔fits (xs.length+ys.length)=M/\Q (.tup (xs++ys),S):=
 ⟨λq=>(ij.mp q).imp_right ej.mp,λq=>ij.mpr (q.imp_right ej.mpr)⟩
theorem He{x y:Int}{S:Sto}{Q:D×Sto->Prop}:W (gl (.int x) (.int y) S) Q↔Q (.int (x+y),S):=ej
theorem Hd{a b:Nat}{xs ys:List D}{S:Sto}{Q:D×Sto->Prop}(h1:S[a]?=Z (.lst xs))(h2:S[b]?=Z (.lst ys)):W (gl (.ref a) (.ref b) S) Q↔fits (xs.length+ys.length)=M/\Q (.ref S.length,S++[.lst (xs++ys)]):=by
 rw[gl];simp only[h1,h2];exact⟨λq=>(ij.mp q).imp_right ej.mp,λq=>ij.mpr (q.imp_right ej.mpr)⟩
theorem uh{n:Nat}{v:D}{xs:List D}{S:Sto}{Q:D×Sto->Prop}(h:S[n]?=Z (.lst xs)):W (lY (.ref n) v S) Q↔fits (xs.length+1)=M/\Q (.non,S.set n (.lst (xs++[v]))):=by
 rw[lY];simp only[h];rw[qu,tN];split
 ·rename_i a;exact⟨λq=>⟨a,ej.mp q⟩,λq=>ej.mpr q.2⟩
 ·rename_i a;exact⟨λq=>(kh.mp q).elim,λq=>absurd q.1 a⟩
theorem oO{n:Nat}{i:Nat}{xs:List D}{x:D}{S:Sto}{Q:D×Sto->Prop}(h:S[n]?=Z (.lst xs))(hx:xs[i]?=Z x)(q:Q (x,S)):W (dZ (.ref n) (.int i) S) Q:=by
 refine W.of (x:=(x,S)) ?_ q;have a:=(gE1.mp hx).1;simp only[dZ,mP,BQ,h,d4,vF,yd,oS1,ak (show(0:Int)<=i by lia)];rw[ak (by lia)];simp[hx]
theorem hM{i:Nat}{xs:List D}{x:D}{S:Sto}{Q:D×Sto->Prop}(hx:xs[i]?=Z x)(q:Q (x,S)):W (dZ (.tup xs) (.int i) S) Q:=by
 refine W.of (x:=(x,S)) ?_ q;have a:=(gE1.mp hx).1;simp only[dZ,mP,BQ,d4,vF,yd,oS1,ak (show(0:Int)<=i by lia)];rw[ak (by lia)];simp[hx]
theorem LA:aP 0 (Y:Option D)=[]:=rfl
theorem Lz:aP 1 (Y:Option D)=[Y]:=rfl
theorem Ln:aP 2 (Y:Option D)=[Y,Y]:=rfl
theorem Lk:aP 3 (Y:Option D)=[Y,Y,Y]:=rfl
theorem LQ:aP 4 (Y:Option D)=[Y,Y,Y,Y]:=rfl
theorem Lj:aP 5 (Y:Option D)=[Y,Y,Y,Y,Y]:=rfl
theorem LP:aP 6 (Y:Option D)=[Y,Y,Y,Y,Y,Y]:=rfl
theorem LO:aP 7 (Y:Option D)=[Y,Y,Y,Y,Y,Y,Y]:=rfl
theorem Li:aP 8 (Y:Option D)=[Y,Y,Y,Y,Y,Y,Y,Y]:=rfl
theorem KP:aP 9 (Y:Option D)=[Y,Y,Y,Y,Y,Y,Y,Y,Y]:=rfl
theorem Ly:aP 10 (Y:Option D)=[Y,Y,Y,Y,Y,Y,Y,Y,Y,Y]:=rfl
theorem Lx:aP 11 (Y:Option D)=[Y,Y,Y,Y,Y,Y,Y,Y,Y,Y,Y]:=rfl
theorem Lw:aP 12 (Y:Option D)=[Y,Y,Y,Y,Y,Y,Y,Y,Y,Y,Y,Y]:=rfl
theorem Lv:aP 13 (Y:Option D)=[Y,Y,Y,Y,Y,Y,Y,Y,Y,Y,Y,Y,Y]:=rfl
theorem Lu:aP 14 (Y:Option D)=[Y,Y,Y,Y,Y,Y,Y,Y,Y,Y,Y,Y,Y,Y]:=rfl
theorem Ls:aP 15 (Y:Option D)=[Y,Y,Y,Y,Y,Y,Y,Y,Y,Y,Y,Y,Y,Y,Y]:=rfl
theorem Lr:aP 16 (Y:Option D)=[Y,Y,Y,Y,Y,Y,Y,Y,Y,Y,Y,Y,Y,Y,Y,Y]:=rfl
theorem Lq:aP 17 (Y:Option D)=[Y,Y,Y,Y,Y,Y,Y,Y,Y,Y,Y,Y,Y,Y,Y,Y,Y]:=rfl
theorem Lp:aP 18 (Y:Option D)=[Y,Y,Y,Y,Y,Y,Y,Y,Y,Y,Y,Y,Y,Y,Y,Y,Y,Y]:=rfl
theorem Lo:aP 19 (Y:Option D)=[Y,Y,Y,Y,Y,Y,Y,Y,Y,Y,Y,Y,Y,Y,Y,Y,Y,Y,Y]:=rfl
theorem Ll:aP 20 (Y:Option D)=[Y,Y,Y,Y,Y,Y,Y,Y,Y,Y,Y,Y,Y,Y,Y,Y,Y,Y,Y,Y]:=rfl
theorem gD{α:Type}{T G:List α}{k:Nat}:(T++G)[T.length+k]?=G[k]?:=by rw[gR1 (by lia)];congr 1;lia
theorem eK{α:Type}{T G:List α}:(T++G)[T.length]?=G[0]?:=by rw[gR1 (by lia)];congr 1;lia
mutual
noncomputable def m4:D->Bool
 | .non=>M
 | .bl _=>M
 | .int i=>decide (i.natAbs<10^6)
 | .str x=>(PyData.str x).leavesShort 13&&decide ((PyData.str x).weight<=20)
 | .tup xs=>lK xs
 | .rol _=>J
 | .fn _=>J
 | .ref _=>J
noncomputable def lK:List D->Bool
 |[]=>M
 |d::ds=>m4 d&&lK ds
end
mutual
noncomputable def ig:D->Nat
 | .tup xs=>jl xs
 | .non=>0 | .bl _=>0 | .int _=>0 | .str _=>0 | .rol _=>0 | .fn _=>0 | .ref _=>0
noncomputable def jl:List D->Nat
 |[]=>0
 |d::ds=>ig d+1+jl ds
end
mutual
noncomputable def o5:D->Nat
 | .tup xs=>mS xs+1
 | .non=>0 | .bl _=>0 | .int _=>0 | .str _=>0 | .rol _=>0 | .fn _=>0 | .ref _=>0
noncomputable def mS:List D->Nat
 |[]=>0
 |d::ds=>max (o5 d) (mS ds)
end
mutual
theorem HU:∀{d:D},m4 d=M -> ∃p,pyD d=Z p/\p.showable=M/\p.leavesShort 13=M/\p.weight+1<=21*(ig d+1)/\p.depth=o5 d
 | .non,_=>⟨.none,by simp only[pyD],by simp only[PyData.showable],by simp only[PyData.leavesShort],by simp only[PyData.weight,ig];lia,by simp only[PyData.depth,o5]⟩
 | .bl b,_=>⟨.bool b,by simp only[pyD],by simp only[PyData.showable],by simp only[PyData.leavesShort],by simp only[PyData.weight,ig];lia,by simp only[PyData.depth,o5]⟩
 | .int i,h=>by
  have h':i.natAbs<10^6:=by simpa only[m4,al]using h
  have f:i.natAbs.log2<20:=by
   by_cases z:i.natAbs=0
   ·rw[z];decide
   ·exact(Nat.log2_lt z).mpr (by lia)
  refine⟨.int i,by simp only[pyD],by simp only[PyData.showable,al];lia,?_,?_,by simp only[PyData.depth,o5]⟩
  ·simp only[PyData.leavesShort,al];exact PyData.shown_int_le (by lia)
  ·simp only[PyData.weight,ig];split<;>lia
 | .str x,h=>by
  have h':(PyData.str x).leavesShort 13=M/\(PyData.str x).weight<=20:=by simpa only[m4,bA1,al]using h
  exact⟨.str x,by simp only[pyD],by simp only[PyData.showable],h'.1,by simp only[ig];have:=h'.2;lia,by simp only[PyData.depth,o5]⟩
 | .tup xs,h=>by
  obtain⟨ps,e,h1,h2,c,a⟩:=uO (ds:=xs) (by simpa only[m4]using h);exact⟨.tuple ps,by simp only[pyD,e,oP1],by simpa only[PyData.showable]using h1,by simpa only[PyData.leavesShort]using h2,by simp only[PyData.weight,ig];lia,by simp only[PyData.depth,o5,a]⟩
 | .rol _,h=>by simp only[m4]at h;cases h
 | .fn _,h=>by simp only[m4]at h;cases h
 | .ref _,h=>by simp only[m4]at h;cases h
theorem uO:∀{ds:List D},lK ds=M -> ∃ps,pyDs ds=Z ps/\PyData.showableAll ps=M/\PyData.leavesShortAll 13 ps=M/\PyData.weightAll ps<=21*jl ds/\PyData.depthAll ps=mS ds
 |[],_=>⟨[],by simp only[pyDs],by simp only[PyData.showableAll],by simp only[PyData.leavesShortAll],by simp only[PyData.weightAll];lia,by simp only[PyData.depthAll,mS]⟩
 |d::ds,h=>by
  simp only[lK,bA1]at h;obtain⟨p,e,h1,h2,j,i⟩:=HU h.1;obtain⟨ps,g,a,b,f,c⟩:=uO h.2;refine⟨p::ps,by simp only[pyDs,e,g,oS1,oP1],by simp only[PyData.showableAll,h1,a,da],by simp only[PyData.leavesShortAll,h2,b,da],?_,by simp only[PyData.depthAll,mS,i,c]⟩;simp only[PyData.weightAll,jl];lia
end
theorem Ck{xs:List D}(h:lK xs=M)(hc:jl xs<=40000)(hd:mS xs<=50):∃t,∀S,oo (.tup xs) S=Z (.str t,S):=by
 obtain⟨ps,e,h1,h2,c,b⟩:=uO h;refine⟨(PyData.tuple ps).shown,λS=>?_⟩;have a:(PyData.tuple ps).showable=M/\(PyData.tuple ps).shown.length<=dL/\(PyData.tuple ps).depth<=60:=
  ⟨by simpa only[PyData.showable]using h1,PyData.shown_fits (B:=13) (by decide) (by decide) (by simpa only[PyData.leavesShort]using h2) (by simp only[PyData.weight];lia),by simp only[PyData.depth];lia⟩
 simp only[oo,e,oS1,ak a]
theorem sv{α:Type}{f:α->D}:∀{l:List α},(∀x∈l,m4 (f x)=M)->lK (l.map f)=M
 |[],_=>by simp only[aZ,lK]
 |x::xs,h=>by simp only[mP1,lK,h x mS1,sv λy a=>h y (mC1 _ a),da]
theorem qj{α:Type}{f:α->D}{k:Nat}:∀{l:List α},(∀x∈l,ig (f x)<=k)->jl (l.map f)<=(k+1)*l.length
 |[],_=>by simp only[aZ,jl];lia
 |x::xs,h=>by
  have h1:=h x mS1;have h2:=qj (l:=xs) λy a=>h y (mC1 _ a);simp only[mP1,jl,lC1,Nat.mul_add];lia
theorem tU{α:Type}{f:α->D}{k:Nat}:∀{l:List α},(∀x∈l,o5 (f x)<=k)->mS (l.map f)<=k
 |[],_=>by simp only[aZ,mS];lia
 |x::xs,h=>by
  have h1:=h x mS1;have h2:=tU (l:=xs) λy a=>h y (mC1 _ a);simp only[mP1,mS];lia
theorem rA:∀(n:Nat) (lo:Int),gM lo n=(af n).map λi:Nat=>D.int (lo+i)
 |0,lo=>rfl
 |n+1,lo=>by
  rw[gM,rA n (lo+1),List.range_succ_eq_map,mP1,bu]
  congr 1
  ·simp
  ·apply db;intro i _;simp only[Function.comp_apply,Nat.succ_eq_add_one]
   congr 1
   push_cast
   lia
theorem mw(n:Nat):gM 0 n=(af n).map λi:Nat=>D.int i:=by
 rw[rA];apply db;intro i _;simp
theorem n0{α:Type}{c:List (Nat×List D)}{g:FG}{t:FT}{e:FE}{S:Sto}{f:α->D}{Q:List D×Ev×Sto->Prop}(F:α->D)(P:Ev->Prop)(d:pM S c=true):∀ (xs:List α) (r:Ev),P r ->
  (∀a∈xs,∀r,P r->W (g (f a) r S) λp=>W (t p.1 p.2) λb=>b.1=M/\W (e p.1 b.2) λx=>x.1=F a/\x.2=S/\P p.1) ->
  (∀i,P i->Q (xs.map F,i,S))->W (fK c g t (eD e) (xs.map f) r S) Q
 |[],r,hr,_,h=>by rw[aZ,fK];dsimp only;rw[ak d,ej];exact h r hr
 |a::xs,r,hr,hs,h=>by
  rw[mP1,fK];dsimp only;rw[ak d,ec];obtain⟨p,q,⟨b,l,o,⟨x,u,k,n,s⟩⟩⟩:=hs a mS1 r hr;refine⟨p,q,?_⟩;dsimp only;rw[ec];refine⟨b,l,?_⟩;dsimp only;rw[ak o,ec,eD,lC];refine⟨x,u,?_⟩;dsimp only;rw[n,lC];refine n0 F P d xs p.1 s (λa m=>hs a (mC1 _ m)) λi j=>?_;have:=h i j;rw[mP1,<- k]at this;exact this
theorem jK{α:Type}{c:List (Nat×List D)}{g:FG}{t:FT}{e:FE}{S:Sto}{f:α->D}{Q:List D×Ev×Sto->Prop}(k:α->Bool)(F:α->D)(P:Ev->Prop)(d:pM S c=true):∀ (xs:List α) (r:Ev),P r ->
  (∀a∈xs,∀r,P r->W (g (f a) r S) λp=>W (t p.1 p.2) λb=>b.1=k a/\b.2=S/\P p.1/\(k a=M->W (e p.1 S) λx=>x.1=F a/\x.2=S)) ->
  (∀j,P j->Q ((xs.filter k).map F,j,S))->W (fK c g t (eD e) (xs.map f) r S) Q
 |[],r,hr,_,h=>by rw[aZ,fK];dsimp only;rw[ak d,ej];exact h r hr
 |a::xs,r,hr,hs,h=>by
  rw[mP1,fK];dsimp only;rw[ak d,ec];obtain⟨p,v,⟨b,u,q,o,s,l⟩⟩:=hs a mS1 r hr;refine⟨p,v,?_⟩;dsimp only;rw[ec];refine⟨b,u,?_⟩;dsimp only;cases hk:k a with
  |true=>
   rw[q,hk,ak O,ec,eD,lC,o];obtain⟨x,w,l,n⟩:=l hk;refine⟨x,w,?_⟩;dsimp only;rw[n,lC];refine jK k F P d xs p.1 s (λa m=>hs a (mC1 _ m)) λj i=>?_;have:=h j i;rw[de,hk,ak O,mP1,<- l]at this;exact this
  |false=>
   rw[q,hk,aj (by decide),o];refine jK k F P d xs p.1 s (λa m=>hs a (mC1 _ m)) λj i=>?_;have:=h j i;rw[de,hk,aj (by decide)]at this;exact this
theorem uf{α:Type}{f:α->Bool}:∀xs:List α,Mi.BB (xs.map λx=>D.bl (f x))=Z (xs.all f)
 |[]=>rfl
 |x::xs=>by rw[mP1,Mi.BB,uf xs];rfl
mutual
theorem EF{n m:Nat}(h:n<=m):∀{d:D},d.und n=M->d.und m=M
 | .non,_=>rfl
 | .bl _,_=>rfl
 | .int _,_=>rfl
 | .str _,_=>rfl
 | .tup xs,q=>by rw[D.und]at q ⊢;exact iJ h q
 | .rol xs,q=>by rw[D.und]at q ⊢;exact iJ h q
 | .fn _,_=>rfl
 | .ref k,q=>by simp[D.und]at q ⊢;lia
theorem iJ{n m:Nat}(h:n<=m):∀{ds:List D},D.unds n ds=M->D.unds m ds=M
 |[],_=>rfl
 |d::ds,q=>by
  rw[D.unds,bA1]at q ⊢;exact⟨EF h q.1,iJ h q.2⟩
end
theorem kU{n m:Nat}(h:n<=m):∀{o:Ob},o.und n=M->o.und m=M
 | .lst xs,q=>by rw[Ob.und]at q ⊢;exact iJ h q
 | .dct xs,q=>by rw[Ob.und]at q ⊢;exact iJ h q
 | .dcT xs,q=>by rw[Ob.und]at q ⊢;exact iJ h q
 | .dcF xs,q=>by rw[Ob.und]at q ⊢;exact iJ h q
 | .iset _,_=>rfl
 | .tst _,_=>rfl
theorem eO{α:Type}{n:Nat}{f:α->D}:∀{xs:List α},(∀x∈xs,(f x).und n=M)->D.unds n (xs.map f)=M
 |[],_=>rfl
 |x::xs,h=>by rw[mP1,D.unds,h x mS1,eO λy a=>h y (mC1 _ a)];rfl
theorem LM{x:Nat}:x+1+1=x+2:=rfl
theorem L1{x:Nat}:x+2+1=x+3:=rfl
theorem L0{x:Nat}:x+3+1=x+4:=rfl
theorem LZ{x:Nat}:x+4+1=x+5:=rfl
theorem LY{x:Nat}:x+5+1=x+6:=rfl
theorem LX{x:Nat}:x+6+1=x+7:=rfl
theorem LL{x:Nat}:x+1+2=x+3:=rfl
theorem jH{xs:List D}{S:Sto}:fx (.tup xs) S=Z (.int xs.length,S):=rfl
theorem JG{xs:List D}{S:Sto}:fx (.rol xs) S=Z (.int xs.length,S):=rfl
theorem IF{S:Sto}:fx (.str "") S=Z (.int 0,S):=rfl
theorem q9{xs:List D}{S:Sto}:d4 S (.tup xs)=Z (J,xs):=rfl
theorem Jz{xs:List D}{S:Sto}:d4 S (.rol xs)=Z (M,xs):=rfl
theorem DO{xs:List D}{S:Sto}:jm S (.tup xs)=[]:=rfl
theorem JO{xs:List D}{S:Sto}:jm S (.rol xs)=[]:=rfl
theorem jy{n:Nat}{xs:List D}{S:Sto}(h:S[n]?=Z (.lst xs)):d4 S (.ref n)=Z (M,xs):=by simp only[d4,h]
theorem w8{n:Nat}{xs:List D}{S:Sto}(h:S[n]?=Z (.lst xs)):jm S (.ref n)=[(n,xs)]:=by simp only[jm,h]
def sW(S:Sto)(d:D)(Q:List D×List (Nat×List D)->Prop):Prop:=W (d4 S d) λq=>Q (q.2,jm S d)
theorem gL{xs:List D}{S:Sto}{Q:List D×List (Nat×List D)->Prop}:sW S (.tup xs) Q↔Q (xs,[]):=ej
theorem eI{n:Nat}{xs:List D}{S:Sto}{Q:List D×List (Nat×List D)->Prop}(h:S[n]?=Z (.lst xs))(q:Q (xs,[(n,xs)])):sW S (.ref n) Q:=by
 unfold sW;rw[jy h,w8 h,ej];exact q
theorem Hb{m:FE}{r:Ev}{S:Sto}{Q:BS×Sto->Prop}:W (gz m r S) Q↔W (m r S) λp=>sW p.2 p.1 λq=>Q (⟨q.1,q.2⟩,p.2):=by
 unfold gz;rw[ec];refine⟨λh=>h.mono λp q=>?_,λh=>h.mono λp q=>?_⟩
 ·rw[ec]at q;exact q.mono λz w=>ej.mp w
 ·rw[ec];exact W.mono (show W (d4 p.2 p.1) _ from q) λz w=>ej.mpr w
theorem BE{d:D}{S:Sto}{Q:D×Sto->Prop}:W (Mi.gTup d S) Q↔sW S d λq=>Q (.tup q.1,S):=by
 unfold Mi.gTup;rw[lC];exact Iff.rfl
theorem Jk{n:Nat}{S:Sto}{Q:D×Sto->Prop}:W (fx (.ref n) S) Q↔sW S (.ref n) λq=>Q (.int q.1.length,S):=by
 unfold fx sW;rw[lC]
noncomputable def pD(e:Nat×Nat):D:=.tup [.int e.1,.int e.2]
theorem GT{S:Sto}{n:Nat}{a b:Nat×Nat}:fU S (n+2) (pD a) (pD b)=Z (a == b):=by
 obtain⟨a1,a2⟩:=a;obtain⟨b1,b2⟩:=b;rw[fU];have c:∀x y:Nat,fU S (n+1) (.int x) (.int y)=Z ((x:Int) == (y:Int)):=λx y=>rfl;have d:∀x y:Nat,((x:Int) == (y:Int))=(x == y):=λx y=>by
  rw[bQ,beq_iff_eq,beq_iff_eq];lia
 simp[pD,d4,lj,c,d];rfl
theorem wV{S:Sto}{n:Nat}{e:Nat×Nat}:∀b:List (Nat×Nat),yw (fU S (n+2)) (pD e) (b.map pD)=Z (b.map λa=>a == e)
 |[]=>rfl
 |a::b=>by rw[mP1,yw,GT,wV b];rfl
theorem Ha{S:Sto}{n j:Nat}{row:List (Nat×Nat)}{e:Nat×Nat}{Q:D×Sto->Prop}(h:S[n]?=Z (.lst (row.map pD)))(b:row.length<1000)(a:row.findIdx? (· == e)=Z j)(q:Q (.int j,S)):W (AZ (.ref n) (pD e) S) Q:=by
 refine W.of ?_ q;unfold AZ eL;simp only[h,show(60:Nat)=58+2 from rfl,wV,oS1,lM1];rw[ak (by lia),List.findIdx?_map];simp[Function.comp_def,a]
theorem Es{S:Sto}{n k:Nat}{xs:List D}{v:D}{Q:D×Sto->Prop}(h:S[n]?=Z (.lst xs))(hk:k<=xs.length)(b:xs.length<1000)(q:Q (.non,S.set n (.lst (xs.take k++v::xs.drop k)))):W (yr (.ref n) (.int k) v S) Q:=by
 refine W.of ?_ q;have hi:rG xs.length k=k:=by
  unfold rG;rw[aj (by lia),Int.toNat_natCast];lia
 have a:xs.length<dL:=nL1 b (by decide);simp only[yr,h,hi];rw[ak ⟨by lia,by lia,a⟩]
theorem lD{f:FN}{o:FE}{a:FA}{r:Ev}{S:Sto}{Q:D×Sto->Prop}(h:W (o r S) λp=>∃n xs,p.1 = .ref n/\p.2[n]?=Z (.lst xs)/\W (a r p.2) λq=>W (f (.ref n::q.1) q.2) Q):W (tm f o a r S) Q:=by
 unfold tm;rw[ec];refine h.mono ?_;rintro⟨d,b⟩ ⟨n,xs,rfl,e,q⟩;dsimp only at e q ⊢;rw[e];dsimp only;rw[ec];exact q
noncomputable def sC(row:List (Nat×Nat)):Ob:=.lst (row.map pD)
structure WS (t m:Nat)(T:Sto)(E:List (List (Nat×Nat)))(P:List (Nat×Nat))(U:Sto):Prop where
 tl:T.length=t
 low:U.take t=T
 el:E.length=m
 row:∀i row,E[i]?=some row->U[t+i]?=some (sC row)
 ends:U[t+m]?=some (.lst (j6 (t+1) m))
 prs:U[t+m+1]?=some (.lst (P.map pD))
theorem WS.app{t m:Nat}{T:Sto}{E:List (List (Nat×Nat))}{P:List (Nat×Nat)}{U G:Sto}(w:WS t m T E P U):WS t m T E P (U++G):=by
 have b:t+m+1<U.length:=(gE1.mp w.prs).1;refine⟨w.tl,?_,w.el,λi a h=>?_,?_,?_⟩
 ·rw[List.take_append_of_le_length (by omega)];exact w.low
 ·have:=w.row i a h;rw[gL1 (gE1.mp this).1];exact this
 ·rw[gL1 (by omega)];exact w.ends
 ·rw[gL1 (by omega)];exact w.prs
theorem WS.setRow{t m i:Nat}{T:Sto}{E:List (List (Nat×Nat))}{P:List (Nat×Nat)}{U:Sto}{row:List (Nat×Nat)}(w:WS t m T E P U)(hi:i<m):WS t m T (E.set i row) P (U.set (t+i) (sC row)):=by
 have b:t+m+1<U.length:=(gE1.mp w.prs).1;refine⟨w.tl,?_,by rw[aW];exact w.el,λj a h=>?_,?_,?_⟩
 ·rw[List.take_set_of_le (by lia)];exact w.low
 ·by_cases e:i=j
  ·subst e;rw[aI (by rw[w.el];exact hi)]at h;cases h;rw[aI (by lia)]
  ·rw[gS1 e]at h;rw[gS1 (by lia)];exact w.row j a h
 ·rw[gS1 (by lia)];exact w.ends
 ·rw[gS1 (by lia)];exact w.prs
theorem WS.setPrs{t m:Nat}{T:Sto}{E:List (List (Nat×Nat))}{P P':List (Nat×Nat)}{U:Sto}(w:WS t m T E P U):WS t m T E P' (U.set (t+m+1) (.lst (P'.map pD))):=by
 have b:t+m+1<U.length:=(gE1.mp w.prs).1;refine⟨w.tl,?_,w.el,λj a h=>?_,?_,?_⟩
 ·rw[List.take_set_of_le (by lia)];exact w.low
 ·have c:j<m:=by rw[<- w.el];exact(gE1.mp h).1
  rw[gS1 (by lia)];exact w.row j a h
 ·rw[gS1 (by lia)];exact w.ends
 ·rw[aI (by lia)]
theorem WS.split{t m:Nat}{T:Sto}{E:List (List (Nat×Nat))}{P:List (Nat×Nat)}{U:Sto}(w:WS t m T E P U):U=T++U.drop t:=by
 conv=>lhs;rw[<- cG t U,w.low]
theorem rf:∀{k n i:Nat},i<k->(j6 n k)[i]?=Z (.ref (n+i))
 |k+1,n,0,_=>rfl
 |k+1,n,i+1,h=>by rw[j6,gC1,rf (Nat.lt_of_succ_lt_succ h),show n+1+i=n+(i+1) by lia]
theorem kP:∀k n:Nat,(j6 n k).length=k
 |0,_=>rfl
 |k+1,n=>by rw[j6,lC1,kP]
noncomputable def tot(E:List (List (Nat×Nat))):Nat:=(E.map List.length).sum
theorem qC:∀{E:List (List (Nat×Nat))} {i:Nat} {row row':List (Nat×Nat)},E[i]?=Z row->tot (E.set i row')+row.length=tot E+row'.length
 |[],i,_,_,h=>by simp at h
 |a::E,0,row,row',h=>by simp at h;subst h;simp[tot];lia
 |a::E,i+1,row,row',h=>by
  have:=qC (E:=E) (i:=i) (row:=row) (row':=row') (by simpa using h);simp[tot]at this ⊢;lia
theorem ze:∀{E:List (List (Nat×Nat))} {k:Nat},k<=E.length->(∀i b,i<k->E[i]?=Z b->4<=b.length)->4*k<=tot E
 |E,0,_,_=>by lia
 |[],k+1,h,_=>by simp at h
 |a::E,k+1,h,q=>by
  have h1:=q 0 a (by lia) O;have h2:=ze (E:=E) (k:=k) (by simpa using h) λi b hi c=>q (i+1) b (by lia) (by simpa using c);simp[tot]at h2 ⊢;lia
noncomputable def fy(rs:List Nat):List D:=rs.map λi:Nat=>D.int i
theorem lT(rs:List Nat):(fy rs).length=rs.length:=by simp[fy]
theorem u7(rs:List Nat):D.unds 0 (fy rs)=M:=eO λ_ _=>rfl
abbrev Wk:=Nat×Nat×Nat
noncomputable def gX(w:Wk):D:=.tup [.int w.1,.int w.2.1,.int w.2.2]
noncomputable def eQ(ws:List Wk):List D:=ws.map gX
theorem kr(ws:List Wk):(eQ ws).length=ws.length:=by simp[eQ]
theorem m3(ws:List Wk):D.unds 0 (eQ ws)=M:=eO λ_ _=>rfl
noncomputable def ed(ws:List Wk)(cs:List Nat):D:=.tup [.tup (eQ ws),.tup (fy cs)]
theorem lH{ws:List Wk}{cs:List Nat}:(ed ws cs).und 0=M:=by simp[ed,D.und,D.unds,m3,u7]
noncomputable def gj(a b c d:Bool):List D:=(if a then[.str "came"]else[])++(if b then[.str "chalk"]else[])++(if c then[.str "doors"]else[])++(if d then[.str "others"]else[])
theorem A5 {xs:List D}(h:xs.Sublist [.str "came",.str "chalk",.str "doors",.str "others"]):∃a b c d,xs=gj a b c d:=by
 have one:∀{x:D} {l ys:List D},ys.Sublist (x::l) -> ∃(a:Bool) (zs:List D),zs.Sublist l/\ys=(if a then[x]else[])++zs:=by
  intro x l ys h;cases h with
  |cons _ h=>exact⟨J,ys,h,O⟩
  |cons_cons _ h=>exact⟨M,_,h,O⟩
 obtain⟨a,i,h1,rfl⟩:=one h;obtain⟨b,k,h2,rfl⟩:=one h1;obtain⟨c,j,e,rfl⟩:=one h2;obtain⟨d,f,g,rfl⟩:=one e;have:f=[]:=List.eq_nil_of_sublist_nil g;subst this;exact⟨a,b,c,d,by simp[gj]⟩
theorem A6(a b c d:Bool):(gj a b c d).length<=4:=by cases a<;>cases b<;>cases c<;>cases d<;>decide
theorem ox(a b c d:Bool):D.unds 0 (gj a b c d)=M:=by cases a<;>cases b<;>cases c<;>cases d<;>rfl
theorem Dw{a b c d:Bool}{S:Sto}:iT (.str "came") (.tup (gj a b c d)) S=Z (.bl a,S):=by cases a<;>cases b<;>cases c<;>cases d<;>rfl
theorem AO{a b c d:Bool}{S:Sto}:iT (.str "chalk") (.tup (gj a b c d)) S=Z (.bl b,S):=by cases a<;>cases b<;>cases c<;>cases d<;>rfl
theorem AN{a b c d:Bool}{S:Sto}:iT (.str "doors") (.tup (gj a b c d)) S=Z (.bl c,S):=by cases a<;>cases b<;>cases c<;>cases d<;>rfl
theorem yo{a b c d:Bool}{S:Sto}:iT (.str "others") (.tup (gj a b c d)) S=Z (.bl d,S):=by cases a<;>cases b<;>cases c<;>cases d<;>rfl
theorem AQ{S:Sto}{n:Nat}{x:Nat}:∀a:List Nat,BP (fU S (n+1)) (.int x) (fy a)=Z (a.contains x)
 |[]=>rfl
 |c::a=>by
  have d:fU S (n+1) (.int c) (.int x)=Z ((c:Int) == (x:Int)):=rfl;have b:((c:Int) == (x:Int))=(x == c):=by
   rw[bQ,beq_iff_eq,beq_iff_eq];lia
  have ih:=AQ (S:=S) (n:=n) (x:=x) a;rw[fy,mP1,BP,d,b];rw[fy]at ih;rw[ih,List.contains_cons];rfl
theorem Eg{S:Sto}{x:Nat}{cs:List Nat}:iT (.int x) (.tup (fy cs)) S=Z (.bl (cs.contains x),S):=by
 simp only[iT,vn,Ht,d4,oS1,eL,show(60:Nat)=59+1 from rfl,AQ,oP1]
noncomputable def uP(a b c d:Bool)(came chalk doors others:Int):D:=.tup [if a then .int came else .non,if b then .int chalk else .non,if c then .int doors else .non,if d then .int others else .non]
theorem xH{a b c d:Bool}{w x y z:Int}:(uP a b c d w x y z).und 0=M:=by cases a<;>cases b<;>cases c<;>cases d<;>rfl
theorem AE{κ:Type}[DecidableEq κ]{k:κ}:d0 ([]:List (κ×D)) k=Y:=rfl
theorem e9{κ:Type}[DecidableEq κ]{k a:κ}{d:D}{r:List (κ×D)}:d0 ((a,d)::r) k=if a=k then Z d else d0 r k:=by
 unfold d0;rw[bc];by_cases h:a=k
 ·simp[h]
 ·simp[h]
theorem tw{κ:Type}[DecidableEq κ]{k:κ}{b:List (κ×D)}:∀{a:List (κ×D)},d0 (a++b) k=(d0 a k).or (d0 b k)
 |[]=>rfl
 |(x,d)::a=>by
  rw[bj,e9,e9,tw (a:=a)];split<;>rfl
theorem lV{κ:Type}[DecidableEq κ]{k:κ}:∀{a:List (κ×D)},(a.any λp=>decide (p.1=k))=J->d0 a k=Y
 |[],_=>rfl
 |(x,d)::a,h=>by
  simp only[bd,Bool.or_eq_false_iff,decide_eq_false_iff_not]at h;rw[e9,aj h.1];exact lV h.2
theorem lU{κ:Type}[DecidableEq κ]{k k':κ}{v:D}:∀{a:List (κ×D)},(a.any λp=>decide (p.1=k))=M->d0 (a.map λp=>if p.1=k then(p.1,v)else p) k'=if k'=k then Z v else d0 a k'
 |[],h=>by simp at h
 |(x,d)::a,h=>by
  rw[mP1];by_cases f:x=k
  ·subst f;rw[ak (show(x,d).1=x from rfl)];rw[e9,e9];by_cases c:k'=x
   ·subst c;simp
   ·rw[aj (Ne.symm c),aj (Ne.symm c),aj c];by_cases g:(a.any λp=>decide (p.1=x))=M
    ·rw[lU g,aj c]
    ·have:(a.map fun p=>if p.1=x then (p.1,v) else p)=a:=by
      have e:(a.any λp=>decide (p.1=x))=J:=Bool.eq_false_iff.mpr g;rw[List.any_eq_false]at e
      conv=>rhs;rw[<- List.map_id a]
      apply db;intro p i;have:=e p i;simp at this;simp[this]
     rw[this]
  ·simp only[bd,ai f,Bool.false_or]at h;rw[aj (show¬ (x,d).1=k from f)];rw[e9,e9,lU h];by_cases b:x=k'
   ·subst b;simp[f]
   ·simp[b]
theorem tu{κ:Type}[DecidableEq κ]{k k':κ}{v:D}{a:List (κ×D)}:d0 (fi a k v) k'=if k'=k then Z v else d0 a k':=by
 unfold fi;split
 ·rename_i h;exact lU h
 ·rename_i h;have h':(a.any λp=>decide (p.1=k))=J:=Bool.eq_false_iff.mpr h;rw[tw,e9,AE];by_cases b:k'=k
  ·subst b;rw[lV h',ak O];rfl
  ·rw[aj (Ne.symm b),aj b];cases d0 a k'<;>rfl
theorem v8{κ:Type}[DecidableEq κ]{k:κ}{v:D}{a:List (κ×D)}:(fi a k v).length<=a.length+1:=by
 unfold fi;split
 ·rw[lM1];lia
 ·rw[lA1];simp
theorem Ff{κ:Type}[DecidableEq κ]{k:κ}{v:D}{a:List (κ×D)}:fi a k v≠[]:=by
 unfold fi;split
 ·rename_i h;intro z;cases a with
  |nil=>simp at h
  |cons x xs=>simp at z
 ·simp
noncomputable def dO(F:List (TK×D)):Ob:=if F=[]then .dct []else .dcT F
theorem G7{U:Sto}{n i:Nat}{xs:List D}{x:D}{Q:D×Sto->Prop}(h:U[n]?=Z (.lst xs))(hx:xs[i]?=Z x)(hb:i<1000)(q:Q (x,U.set n (.lst (xs.eraseIdx i)))):W (AX (.ref n) (.int i) U) Q:=by
 have a:=(gE1.mp hx).1;refine W.of ?_ q;simp only[AX,h];rw[ak ⟨by lia,by lia⟩];simp only[yd,ak (show(0:Int)<=i by lia)];rw[ak (by lia)];simp[hx]
theorem vk{d:D}{S G:Sto}(hd:d.und 0=M)(a:S.all (Ob.und S.length)=M):gc S.length (d,S++G)=(d,S):=by
 unfold gc;dsimp only;rw[c9,ak (by rw[fC hd,a];rfl)]
theorem AW{d:D}{S V:Sto}(hd:d.und 0=M)(a:S.all (Ob.und S.length)=M)(hp:S <+: V):gc S.length (d,V)=(d,S):=by
 obtain⟨G,rfl⟩:=hp;exact vk hd a
theorem BC{m:FA}{r:Ev}{S:Sto}{xs ys:List D}{n:Nat}{Q:BS×Sto->Prop}(hm:m r S=Z ([.tup xs,.ref n],S))(hn:S[n]?=Z (.lst ys))(q:Q (⟨ux xs ys,[(n,ys)]⟩,S)):W (GO m r S) Q:=by
 refine W.of (x:=(⟨ux xs ys,[(n,ys)]⟩,S)) ?_ q;simp only[GO,hm,oS1,q9,jy hn,DO,w8 hn,cW]
theorem uw{α:Type}{f g:α->D}:∀l:List α,ux (l.map f) (l.map g)=l.map λx=>D.tup [f x,g x]
 |[]=>rfl
 |a::l=>by rw[mP1,mP1,ux,uw l];rfl
theorem Gj{ns:List Int}{k:Int}:k∈ddI ns↔k∈ns:=by
 have key:∀(ns a:List Int),k∈ns.foldl step_dedup a↔k∈a\/k∈ns:=by
  intro ns
  induction ns with
  |nil=>intro a;simp
  |cons n ns ih=>
   intro a;rw[b9,ih];have:k∈step_dedup a n↔k∈a\/k=n:=by
    unfold step_dedup;split
    ·rename_i h;obtain⟨x,b,e⟩:=bR.mp h;have e:=beq_iff_eq.mp e;subst e;constructor
     ·exact .inl
     ·rintro(z|z)
      ·exact z
      ·rw[z];exact b
    ·simp
   rw[this,aF,or_assoc]
 unfold ddI;rw[key];simp
theorem Cd{xs:List Nat}{m:Nat}{f:Nat->Bool}(h:∀r,r∈xs↔r<m/\f r=M):kC (ddI (xs.map λ(r:Nat)=>(r:Int)))=((af m).filter f).map λ(r:Nat)=>(r:Int):=by
 refine rh ?_ (nC _) ?_
 ·refine(iK _).trans ?_;refine(List.perm_ext_iff_of_nodup (tZ _ [] bo) ?_).mpr λk=>?_
  ·refine df.mpr ((List.nodup_range.filter f).imp λb z=>b (by lia))
  ·show k∈ddI _↔_;rw[Gj,cc,cc];constructor
   ·rintro⟨r,a,rfl⟩;exact⟨r,aA.mpr ⟨aB.mpr ((h r).mp a).1,((h r).mp a).2⟩,O⟩
   ·rintro⟨r,a,rfl⟩;obtain⟨h1,h2⟩:=aA.mp a;exact⟨r,(h r).mpr ⟨aB.mp h1,h2⟩,O⟩
 ·refine df.mpr ((List.pairwise_lt_range.sublist List.filter_sublist).imp λc=>by lia)
theorem Dt(xs:List Nat):oh (fy xs)=Z (xs.map λ(r:Nat)=>(r:Int)):=by
 induction xs with
 |nil=>rfl
 |cons x xs ih=>
  show(oh (fy xs)).map _=_;rw[ih];rfl
end Mi
end
local macro_rules | `(tactic| walk_at"w") => `(tactic| simp only[Mi.ej, Mi.kh, Mi.ite_and', Mi.ec, Mi.lC, Mi.qu, Mi.et, Mi.eA, Mi.gY, Mi.eX, Mi.fT, Mi.pT, Mi.mN, Mi.dU, Mi.dV, Mi.m2, Mi.mV, Mi.mC, Mi.BD, Mi.G9, Mi.mB, Mi.x9, Mi.Ef, Mi.oW, Mi.ge, Mi.ww, Mi.Az, Mi.fz, Mi.Da, Mi.EM, Mi.gN, Mi.gT, Mi.gh, Mi.lF, Mi.gS, Mi.b1, Mi.b2, Mi.b3, Mi.gW, Mi.gK, Mi.rY, Mi.Et, Mi.Jl, Mi.HZ, Mi.JA, Mi.je, Mi.rK, Mi.Hc, Mi.He, Mi.gSub, Mi.iC, Mi.oZ, Mi.DG, Mi.DD, Mi.DA, Mi.LK, Mi.LJ, Mi.K2, Mi.LI, Mi.LH, Mi.LG, true_and, Mi.gD, Mi.eK, bH, lA1, dg, gC1, List.getElem?_nil, c0, c6, lC1, bf, mP1, aZ, Mi.LA, Mi.Lz, Mi.Ln, Mi.Lk, Mi.Lj, Mi.Li, Mi.KP, cW, bj, aN, Nat.reduceAdd, Nat.reduceSub, Option.join_some, Option.join_none, oP1, Option.map_none, oS1, Option.bind_none, if_true, if_false, bF1, b5, ci, ite_true, ite_false, reduceIte, decide_true, decide_false, Mi.LM, Mi.LL, Mi.jH, Mi.q9, Mi.Hb, Mi.BE, Mi.Jk])
noncomputable section
namespace Law
open PySem PySem.Spec PyProof.Rows L2 Mi
noncomputable def top (i:Nat):dR:=PySem.Challenge.pw_ringmeet_k33_marking_first.main.body.getD i (.Pass ⟨0,0,0,0⟩)
abbrev BL:List Str:=["all","bool","dict","int","isinstance","len","list","max","min","range","repr","set","sorted","str","tuple","zip"]
noncomputable def hE:D:=(D.tup [(D.tup [(D.str "came"),(D.int 5)]),(D.tup [(D.str "chalk"),(D.int 2)]),(D.tup [(D.str "doors"),(D.int 5)]),(D.tup [(D.str "others"),(D.int 2)])])
noncomputable def rR:D:=(D.tup [(D.str "leave"),(D.str "mark"),(D.str "wipe")])
noncomputable def iV:D:=(D.int 4000)
noncomputable def hG:D:=(D.int 4000)
noncomputable def nh:D:=(D.int 4)
section
variable{P:dF}{w:dH}{K:Fg1}{mg:Str->Option dB}{base h:dP}(X:K.In h) (G:h.Ns dI mg) (B:Blt BL mg)
include X G B
abbrev nH:dR:=top 1
noncomputable def oG:FS:=(eX (ge (j9 .int (mV 0)) (ww (j9 .bool (mV 0)))))
noncomputable def iR:FN:=gW 1 oG
theorem sN {f:dE}(F:eB K "is_whole" nH f):
  fg P w K mg base 1 "is_whole" 1 iR:=xq ["thing"] X G F λa=>
 (qG (qU (fj (ii xv) (fO (BZ (ii xv))))))
abbrev jR:dR:=top 3
noncomputable def jZ:FS:=(eX (ge (j9 .tuple (mV 0)) (m2 (b2 wT) (mN (b1 fx) (dU (mV 0) dV)) (mV 1))))
noncomputable def ei:FN:=gW 2 jZ
theorem nW {f:dE}(F:eB K "is_tuple_of" jR f):
  fg P w K mg base 1 "is_tuple_of" 2 ei:=xq ["thing","many"] X G F λa=>
 (qG (qU (fj (ii xv) (fO (ce (oq sX) (cn fJ (a1 xv)) xv)))))
abbrev me:dR:=top 4
noncomputable def mH:FS:=(eX (mN (b1 vp) (dU (eS 1 [0] (vh (dU (m2 (b2 gSub) (mN (b1 fx) (dU (mV 0) dV)) (mC (D.int 1))) dV)) (gN 0) fz (eD (m2 (b2 wS) (m2 (b2 dZ) (mV 1) (mV 0)) (m2 (b2 dZ) (mV 1) (m2 (b2 gl) (mV 0) (mC (D.int 1))))))) dV)))
noncomputable def fE:FN:=gW 1 mH
theorem ro {f:dE}(F:eB K "is_rising" me f):
  fg P w K mg base 1 "is_rising" 1 fE:=xq ["things"] X G F λa=>
 (qG (qU (cn (xc O) (a1 (fk ["at"] (ir (a1 (qI wo (cn fJ (a1 xv)) qK))) ⟨gq,eJ,(ce (oq nX) (jq xv xv) (jq xv (qI gi xv qK)))⟩)))))
abbrev sB:dR:=top 13
noncomputable def Bw:FS:=(eX (ge (j9 .str (mV 0)) (m2 (b2 iT) (mV 0) (eS 2 [] (gz (mC hE)) (gT 2 (gh (gN 0) (gh (gN 1) lF))) fz (eD (mV 0))))))
noncomputable def n3:FN:=gW 1 Bw
theorem xS {f:dE}(F:eB K "is_eye" sB f)(a:CGl K mg "PARTS" hE):
  fg P w K mg base 1 "is_eye" 1 n3:=xq ["thing"] X G F λb=>
 (qG (qU (fj (ii xv) (fO (ce (oq ms) xv (fk ["eye","many"] (qd (fX a O)) ⟨(tg2 gq gq),eJ,xv⟩) (by with_unfolding_all rfl))))))
abbrev pB:dR:=top 19
noncomputable def yL:FS:=(eX (ge (j9 .str (mV 0)) (m2 (b2 iT) (mV 0) (mC rR))))
noncomputable def jF:FN:=gW 1 yL
theorem u4 {f:dE}(F:eB K "is_hand" pB f)(a:CGl K mg "HANDS" rR):
  fg P w K mg base 1 "is_hand" 1 jF:=xq ["thing"] X G F λb=>
 (qG (qU (fj (ii xv) (fO (ce (oq ms) xv (fX a O) (by with_unfolding_all rfl))))))
abbrev sw:dR:=top 20
noncomputable def uX:FS:=(et (eA (Az (mB (m2 (b2 iT) (mV 2) (mV 0))) (x4 (dU (mV 3) dV)) (j8 (dU (mC D.non) dV))) (gN 4))
  (eA (eS 2 [4] (gz (mV 1)) (gN 0) fz (A4 (gz (mV 2)) (gN 1) fz (eD (m2 (b2 gl) (mV 0) (eP (dU (mV 1) dV)))))) (gN 1)))
noncomputable def Bu:FS:=(et (eA (j8 (dU (eP dV) dV)) (gN 1))
  (et (je (gz (mC hE)) (gT 2 (gh (gN 2) (gh (gN 3) lF))) uX)
  (eX (mN (b1 gTup) (dU (mV 1) dV)))))
noncomputable def jc:FN:=gW 5 Bu
theorem xP {f:dE}(F:eB K "sights" sw f)(a:CGl K mg "PARTS" hE):
  fg P w K mg base 1 "sights" 1 jc:=xq ["eyes","found","eye","many","parts"] X G F λb=>
 (qF (sq (gC (a1 (d7 qN)))) (qF (fo (qd (fX a O)) (tg2 gq gq) (qF (sq (uC (ct (oq ms) xv xv (by with_unfolding_all rfl)) (nt O O (bz B) O (bz B) (a1 xv)) (gC (a1 fW)))) (qG (xt 1 O (T:=["sight","part"]) (keep:=[4]) ⟨O,by decide+kernel,(kc "parts" (cO _))⟩ O (qd xv) (λ_ _ _=>⟨gq,eJ,(qd xv),gq,eJ,(qI gi xv (d7 (a1 xv)))⟩) (ja O) O (by first|exact Or.inl rfl|exact Or.inr rfl))))) (qG (qU (cz fA (a1 xv))))))
abbrev nG:dR:=top 23
noncomputable def oF:FS:=(et (eA (mV 0) (gT 2 (gh (gT 2 (gh (gN 1) (gh (gN 2) lF))) (gh (gT 3 (gh (gN 3) (gh (gN 4) (gh (gN 5) lF)))) lF))))
  (eX (eP (dU (eP (dU (m2 (b2 gl) (mV 1) (mC (D.int 1))) (dU (mV 2) dV))) (dU (eP (dU (m2 (b2 gl) (mV 3) (mC (D.int 1))) (dU (mV 4) (dU (mV 5) dV)))) dV)))))
noncomputable def fR:FN:=gW 6 oF
theorem sM {f:dE}(F:eB K "moods_on" nG f):
  fg P w K mg base 1 "moods_on" 1 fR:=xq ["row","mood","sight","behind","hand","step"] X G F λa=>
 (qF (qR xv (tg2 (tg2 gq gq) (jv O (eE gq (eE gq (eE gq ik)))))) (qG (qU (d7 (a2 (d7 (a2 (qI gi xv qK) xv)) (d7 (a3 (qI gi xv qK) xv xv)))))))
abbrev mh:dR:=top 25
noncomputable def jr:FS:=(et (eA (mC (D.int 0)) (gN 2))
  (et (gY (mB (m2 (b2 wS) (mV 1) (mN (b1 fx) (dU (mV 0) dV)))) (eA (m2 (b2 dZ) (mV 0) (mV 1)) (gN 2)) pT)
  (et (eA (m2 (b2 jO) (m2 (b2 lf) (mV 2) (m2 (b2 jO) (m2 (b2 vm) (mC (D.int 10)) (mC (D.int 60))) (m2 (b2 vm) (mC (D.int 10)) (mC (D.int 30))))) (mN (b1 oZ) (dU (m2 (b2 (iC λi j=>decide (j<=i))) (mV 2) (m2 (b2 vm) (mC (D.int 10)) (mC (D.int 18)))) dV))) (gN 3))
  (eX (j8 (dU (mV 3) (dU (m2 (b2 lf) (m2 (b2 gl) (m2 (b2 gl) (m2 (b2 lf) (mV 2) (mC (D.int 2305843009213693951))) (m2 (b2 jO) (mC (D.int 7919)) (mV 1))) (mC (D.int 3))) (mC (D.int 2305843009213693951))) (dU (mC (D.int 0)) dV))))))))
noncomputable def fF:FN:=gW 4 jr
theorem rq {f:dE}(F:eB K "_law_hand" mh f):
  fg P w K mg base 1 "_law_hand" 2 fF:=xq ["_law_script","_law_k","_law_cell","_law_great"] X G F λa=>
 (qF (sq qK) (qF (qV (ct (oq nX) xv (cn fJ (a1 xv))) (qG (sq (jq xv xv))) qQ) (qF (sq (qI kW (qI mq xv (qI kW (qI z0 qK qK) (qI z0 qK qK))) (cz xa (a1 (ce Ko xv (qI z0 qK qK)))))) (qG (qU (gC (a3 xv (qI mq (qI gi (qI gi (qI mq xv qK) (qI kW qK xv)) qK) qK) qK)))))))
abbrev mf:dR:=top 26
noncomputable def jp:FS:=(et (gY (mB (m2 (b2 (iC fun i j=>decide (j<i))) (m2 (b2 dZ) (mV 0) (mC (D.int 0))) (mC (D.int 0)))) (et (eA (m2 (b2 lf) (m2 (b2 dZ) (mV 0) (mC (D.int 0))) (mV 1)) (gN 2))
  (et (eA (m2 (b2 vo) (m2 (b2 dZ) (mV 0) (mC (D.int 0))) (mV 1)) (gS (b3 jj) (mV 0) (mC (D.int 0))))
  (eX (mV 2)))) pT)
  (et (eA (m2 (b2 gl) (m2 (b2 dZ) (mV 0) (mC (D.int 2))) (mC (D.int 1))) (gS (b3 jj) (mV 0) (mC (D.int 2))))
  (et (eA (m2 (b2 lf) (m2 (b2 jO) (m2 (b2 gl) (m2 (b2 gl) (m2 (b2 dZ) (mV 0) (mC (D.int 1))) (m2 (b2 jO) (m2 (b2 jO) (mC (D.int 65537)) (m2 (b2 dZ) (mV 0) (mC (D.int 2)))) (m2 (b2 dZ) (mV 0) (mC (D.int 2))))) (mC (D.int 11))) (mC (D.int 48271))) (mC (D.int 2305843009213693921))) (gN 3))
  (et (eA (m2 (b2 lf) (m2 (b2 jO) (mV 3) (m2 (b2 gl) (m2 (b2 lf) (mV 3) (mC (D.int 1000003))) (m2 (b2 jO) (mC (D.int 99991)) (m2 (b2 dZ) (mV 0) (mC (D.int 2)))))) (mC (D.int 2305843009213693907))) (gN 3))
  (eX (m2 (b2 lf) (m2 (b2 gl) (m2 (b2 vo) (mV 3) (mC (D.int 97))) (m2 (b2 vo) (mV 3) (mC (D.int 1000033)))) (mV 1)))))))
noncomputable def dX:FN:=gW 4 jp
theorem rp {f:dE}(F:eB K "_law_take" mf f):
  fg P w K mg base 1 "_law_take" 2 dX:=xq ["_law_hand_here","_law_many","_law_digit","_law_mixed"] X G F λa=>
 (qF (qV (ct z8 (jq xv qK) qK) (qF (sq (qI mq (jq xv qK) xv)) (qF (qR (qI z9 (jq xv qK) xv) (mZ xv qK (re a.units))) (qG (qU xv)))) qQ) (qF (qR (qI gi (jq xv qK) qK) (mZ xv qK (re a.units))) (qF (sq (qI mq (qI kW (qI gi (qI gi (jq xv qK) (qI kW (qI kW qK (jq xv qK)) (jq xv qK))) qK) qK) qK)) (qF (sq (qI mq (qI kW xv (qI gi (qI mq xv qK) (qI kW qK (jq xv qK)))) qK)) (qG (qU (qI mq (qI gi (qI z9 xv qK) (qI z9 xv qK)) xv)))))))
abbrev nO:dR:=top 28
noncomputable def oM:FS:=(et (eA (m2 (b2 dZ) (m2 (b2 dZ) (mV 1) (m2 (b2 dZ) (mV 2) (mC (D.int 0)))) (m2 (b2 gSub) (mC (D.int 1)) (m2 (b2 dZ) (mV 2) (mC (D.int 1))))) (gN 3))
  (eX (eP (dU (mV 3) (dU (tm (b2 AZ) (m2 (b2 dZ) (mV 0) (mV 3)) (dU (eP (dU (m2 (b2 dZ) (mV 2) (mC (D.int 0))) (dU (m2 (b2 gSub) (mC (D.int 1)) (m2 (b2 dZ) (mV 2) (mC (D.int 1)))) dV))) dV)) dV)))))
noncomputable def gk:FN:=gW 4 oM
theorem sU {f:dE}(F:eB K "_law_far" nO f):
  fg P w K mg base 1 "_law_far" 3 gk:=xq ["_law_ends","_law_pairs","_law_end","_law_room"] X G F λa=>
 (qF (sq (jq (jq xv (jq xv qK)) (qI wo qK (jq xv qK)))) (qG (qU (d7 (a2 xv (qe PySem.F.slot_list_index PySem.F.type_list_index (HC a.units) (jq xv xv) (a1 (d7 (a2 (jq xv qK) (qI wo qK (jq xv qK)))))))))))
abbrev kI:dR:=top 32
noncomputable def lp:FS:=(et (eA (m2 (b2 dZ) (m2 (b2 dZ) (mV 2) (mC (D.int 0))) (mV 3)) (gT 3 (gh (gN 4) (gh (gN 5) (gh (gN 6) lF)))))
  (et (eA (mN (b1 fx) (dU (eS 1 [4] (gz (m2 (b2 dZ) (mV 2) (mC (D.int 0)))) (gN 0) (mB (m2 (b2 wT) (m2 (b2 dZ) (mV 0) (mC (D.int 0))) (mV 1))) (eD (mV 0))) dV)) (gN 7))
  (et (eA (wx [((mC (D.str "came")),(mV 5)),((mC (D.str "chalk")),(mN (b1 oZ) (dU (m2 (b2 iT) (mV 4) (m2 (b2 dZ) (mV 2) (mC (D.int 1)))) dV))),((mC (D.str "doors")),(mN (b1 fx) (dU (m2 (b2 dZ) (mV 0) (mV 4)) dV))),((mC (D.str "others")),(mN (b1 oZ) (dU (m2 (b2 (iC λi j=>decide (j<i))) (mV 7) (mC (D.int 1))) dV)))]) (gN 8))
  (eX (mN (b1 gTup) (dU (eS 1 [1,8] (gz (eP (dU (mC (D.str "came")) (dU (mC (D.str "chalk")) (dU (mC (D.str "doors")) (dU (mC (D.str "others")) dV)))))) (gN 0) fz (eD (Az (mB (m2 (b2 iT) (mV 0) (mV 1))) (m2 (b2 dZ) (mV 2) (mV 0)) (mC D.non)))) dV))))))
noncomputable def fc:FN:=gW 9 lp
theorem oS {f:dE}(F:eB K "_law_sight" kI f):
  fg P w K mg base 1 "_law_sight" 4 fc:=xq ["_law_web_here","_law_eyes","_law_whole","_law_k","_law_room","_law_came","_law_mood","_law_crowd","_law_parts"] X G F λa=>
 (qF (qR (jq (jq xv qK) xv) (jv O (eE gq (eE gq (eE gq ik))))) (qF (sq (cn fJ (a1 (fk ["_law_walker"] (qd (jq xv qK)) ⟨gq,(gI (ct (oq sX) (jq xv qK) xv)),xv⟩)))) (qF (sq (yZ (kq eM xv (kq eM (cz xa (a1 (ce (oq ms) xv (jq xv qK) (by with_unfolding_all rfl)))) (kq eM (cn fJ (a1 (jq xv xv))) (kq eM (cz xa (a1 (ce z8 xv qK))) BX)))))) (qG (qU (cz fA (a1 (fk ["_law_eye"] (qd (d7 (qA eM (a3 eM eM eM)))) ⟨gq,eJ,(uC (ct (oq ms) xv xv (by with_unfolding_all rfl)) (jq xv xv) fW)⟩))))))))
abbrev i5:dR:=top 33
noncomputable def iw:FS:=(et (eA (eS 2 [4] (GO (dU (m2 (b2 dZ) (mV 1) (mC (D.int 0))) (dU (mV 2) dV))) (gT 2 (gh (gN 0) (gh (gN 1) lF))) (mB (m2 (b2 wT) (m2 (b2 dZ) (mV 0) (mC (D.int 0))) (mV 2))) (eD (m2 (b2 dZ) (mV 1) (mC (D.int 1))))) (gN 5))
  (gY (Ef (mB (m2 (b2 iT) (mC (D.str "mark")) (mV 5))) (x9 (mB (m2 (b2 iT) (mV 4) (m2 (b2 dZ) (mV 1) (mC (D.int 1))))) (mB (m2 (b2 gp) (mC (D.str "wipe")) (mV 5))))) (fT (tm (b2 lY) (mV 3) (dU (mV 4) dV))) pT))
noncomputable def js:FS:=(et (eA (j8 dV) (gN 3))
  (et (je (vh (dU (mN (b1 fx) (dU (mV 0) dV)) dV)) (gN 4) iw)
  (eX (mN (b1 gTup) (dU (mV 3) dV)))))
noncomputable def fG:FN:=gW 6 js
theorem mM {f:dE}(F:eB K "_law_chalked" i5 f):
  fg P w K mg base 1 "_law_chalked" 3 fG:=xq ["_law_web_here","_law_whole","_law_dealt","_law_found","_law_room","_law_hands"] X G F λa=>
 (qF (sq (gC qN)) (qF (fo (ir (a1 (cn fJ (a1 xv)))) gq (qF (lG 5 O (T:=["_law_walker","_law_deed_here"]) (keep:=[4]) ⟨O,by decide+kernel,(kc "_law_room" (cO _))⟩ O (qw O (bz B) (a2 (jq xv qK) xv)) (λ_ _ _=>⟨(tg2 gq gq),(gI (ct (oq sX) (jq xv qK) xv)),(jq xv qK)⟩) (ja O) O (by first|exact Or.inl rfl|exact Or.inr rfl)) (qG (qV (nq (nl (ct (oq ms) eM xv (by with_unfolding_all rfl)) (mX (nq (qv (ct (oq ms) xv (jq xv qK) (by with_unfolding_all rfl)) (no (ct (oq sV) eM xv (by with_unfolding_all rfl)))))))) (qG (lq ap xv (a1 xv))) qQ)))) (qG (qU (cz fA (a1 xv))))))
abbrev kM:dR:=top 38
noncomputable def lA:FS:=(eX (ge (m2 (b2 wT) (eS 1 [] (gz (m2 (b2 dZ) (mV 0) (mC (D.int 0)))) (gN 0) fz (eD (Aw (mV 0) pO (pN (mC (D.int 2)))))) (eS 1 [] (gz (m2 (b2 dZ) (mV 1) (mC (D.int 0)))) (gN 0) fz (eD (Aw (mV 0) pO (pN (mC (D.int 2))))))) (m2 (b2 wT) (m2 (b2 dZ) (mV 0) (mC (D.int 1))) (m2 (b2 dZ) (mV 1) (mC (D.int 1))))))
noncomputable def gb:FN:=gW 2 lA
theorem oV {f:dE}(F:eB K "_law_alike" kM f):
  fg P w K mg base 1 "_law_alike" 2 gb:=xq ["_law_one","_law_other"] X G F λa=>
 (qG (qU (fj (ce (oq sX) (fk ["_law_walker"] (qd (jq xv qK)) ⟨gq,eJ,(nr xv sd (r9 qK))⟩) (fk ["_law_walker"] (qd (jq xv qK)) ⟨gq,eJ,(nr xv sd (r9 qK))⟩)) (fO (ce (oq sX) (jq xv qK) (jq xv qK))))))
abbrev nJ:dR:=top 2
noncomputable def oH:FS:=(eX (ge (mN (dW 1 iR) (dU (mV 0) dV)) (Gz (b2 (iC λi j=>decide (i<=j))) (b2 wS) (mC (D.int 0)) (mV 0) (mV 1))))
noncomputable def ff:FN:=gW 2 oH
theorem sP {f:dE}(F:eB K "is_below" nJ f)(a:fg P w K mg base 1 "is_whole" 1 iR):
  fg P w K mg base 2 "is_below" 2 ff:=xq ["thing","bound"] X G F λb=>
 (qG (qU (fj (wn a (a1 xv)) (fO (xr Km (oq nX) qK xv xv)))))
abbrev nL:dR:=top 12
noncomputable def vE:FS:=(eX (ge (j9 .tuple (mV 0)) (ge (mN (b1 vp) (dU (eS 1 [] (gz (mV 0)) (gN 0) fz (eD (mN (dW 1 n3) (dU (mV 0) dV)))) dV)) (mN (dW 1 fE) (dU (mV 0) dV)))))
noncomputable def gQ:FN:=gW 1 vE
theorem sR {f:dE}(F:eB K "are_eyes" nL f)(a:fg P w K mg base 1 "is_eye" 1 n3)(b:fg P w K mg base 1 "is_rising" 1 fE):
  fg P w K mg base 2 "are_eyes" 1 gQ:=xq ["thing"] X G F λc=>
 (qG (qU (fj (ii xv) (fj (cn (xc O) (a1 (fk ["eye"] (qd xv) ⟨gq,eJ,(wn a (a1 xv))⟩))) (fO (wn b (a1 xv)))))))
abbrev pA:dR:=top 22
noncomputable def qr:FS:=(et (eA (mV 0) (gT 2 (gh (gN 1) (gh (gN 2) lF))))
  (et (eA (eS 1 [] (gz (mN (dW 1 jc) (dU (mV 1) dV))) (gN 0) fz (eD (eP (dU (eP (dU (mC (D.int 0)) (dU (mV 0) dV))) (dU (eP (dU (mC (D.int 1)) (dU (mC (D.str "mark")) (dU (mC D.non) dV)))) dV))))) (gN 3))
  (eX (eP (dU (mV 1) (dU (mN (b1 gTup) (dU (m2 (b2 gl) (mV 3) (eS 1 [] (gz (mV 2)) (gN 0) fz (eD (mN (dW 1 fR) (dU (mV 0) dV))))) dV)) dV))))))
noncomputable def gH:FN:=gW 4 qr
theorem uZ {f:dE}(F:eB K "marking" pA f)(b:fg P w K mg base 1 "moods_on" 1 fR)(a:fg P w K mg base 1 "sights" 1 jc):
  fg P w K mg base 2 "marking" 1 gH:=xq ["machine","eyes","rows","first"] X G F λc=>
 (qF (qR xv (tg2 gq gq)) (qF (lG 3 O (T:=["sight"]) (keep:=[]) ⟨O,by decide+kernel,(cO _)⟩ O (qd (wn a (a1 xv))) (λ_ _ _=>⟨gq,eJ,(d7 (a2 (d7 (a2 qK xv)) (d7 (a3 qK eM fW))))⟩) (ja O) O (by first|exact Or.inl rfl|exact Or.inr rfl)) (qG (qU (d7 (a2 xv (cz fA (a1 (qI gi xv (fk ["row"] (qd xv) ⟨gq,eJ,(wn b (a1 xv))⟩))))))))))
abbrev nN:dR:=top 27
noncomputable def oK:FS:=(et (fT (tm (b3 yr) (m2 (b2 dZ) (mV 1) (mV 3)) (dU (mN (dW 2 dX) (dU (mV 0) (dU (m2 (b2 gl) (mN (b1 fx) (dU (m2 (b2 dZ) (mV 1) (mV 3)) dV)) (mC (D.int 1))) dV))) (dU (eP (dU (mN (b1 fx) (dU (mV 2) dV)) (dU (mC (D.int 0)) dV))) dV))))
  (et (fT (tm (b3 yr) (m2 (b2 dZ) (mV 1) (mV 4)) (dU (mN (dW 2 dX) (dU (mV 0) (dU (m2 (b2 gl) (mN (b1 fx) (dU (m2 (b2 dZ) (mV 1) (mV 4)) dV)) (mC (D.int 1))) dV))) (dU (eP (dU (mN (b1 fx) (dU (mV 2) dV)) (dU (mC (D.int 1)) dV))) dV))))
  (fT (tm (b2 lY) (mV 2) (dU (eP (dU (mV 3) (dU (mV 4) dV))) dV)))))
noncomputable def fS:FN:=gW 5 oK
theorem sT {f:dE}(F:eB K "_law_tie" nN f)(a:fg P w K mg base 1 "_law_take" 2 dX):
  fg P w K mg base 2 "_law_tie" 5 fS:=xq ["_law_hand_here","_law_ends","_law_pairs","_law_one","_law_other"] X G F (hb:=λ_ _ _ _ _ _ c b=>JF b λ_ _ _ _ _=>rfl) λd=>
 (qF (lq ⟨PySem.F.slot_list_insert,PySem.F.type_list_insert,D9⟩ (jq xv xv) (a2 (wn a (a2 xv (qI gi (cn fJ (a1 (jq xv xv))) qK))) (d7 (a2 (cn fJ (a1 xv)) qK)))) (qF (lq ⟨PySem.F.slot_list_insert,PySem.F.type_list_insert,D9⟩ (jq xv xv) (a2 (wn a (a2 xv (qI gi (cn fJ (a1 (jq xv xv))) qK))) (d7 (a2 (cn fJ (a1 xv)) qK)))) (qG (lq ap xv (a1 (d7 (a2 xv xv)))))))
abbrev iW:dR:=top 30
noncomputable def hB:FT:=(mB (m2 (b2 (iC λi j=>decide (j<i))) (mN (b1 fx) (dU (mV 3) dV)) (m2 (b2 gl) (mC (D.int 1)) (mN (dW 2 dX) (dU (mV 0) (dU (mV 2) dV))))))
noncomputable def hA:FS:=(fT (tm (b2 AX) (mV 3) (dU (mN (dW 2 dX) (dU (mV 0) (dU (mN (b1 fx) (dU (mV 3) dV)) dV))) dV)))
noncomputable def iX:FS:=(et (eA (x4 (dU (mV 1) dV)) (gN 3))
  (et (yS hB hA 100000)
  (et (eA (mN (dW 2 dX) (dU (mV 0) (dU (mC (D.int 2)) dV))) (gN 4))
  (eX (eP (dU (mN (b1 gTup) (dU (mV 3) dV)) (dU (mN (b1 gTup) (dU (eS 1 [4,0] (vh (dU (mV 1) dV)) (gN 0) (mB (m2 (b2 wT) (m2 (b2 jO) (mV 1) (mN (dW 2 dX) (dU (mV 2) (dU (mC (D.int 3)) dV)))) (mC (D.int 1)))) (eD (mV 0))) dV)) dV)))))))
noncomputable def fv:FN:=gW 5 iX
theorem lS {f:dE}(F:eB K "_law_standing" iW f)(a:fg P w K mg base 1 "_law_take" 2 dX):
  fg P w K mg base 2 "_law_standing" 3 fv:=xq ["_law_hand_here","_law_many","_law_most","_law_rooms","_law_some"] X G F λb=>
 (qF (sq (nt O O (bz B) O (bz B) (a1 xv))) (qF (xn 100000 PassesOwn.never (ct z8 (cn fJ (a1 xv)) (qI gi qK (wn a (a2 xv xv)))) (qG (lq ⟨PySem.F.slot_list_pop,PySem.F.type_list_pop,HB⟩ xv (a1 (wn a (a2 xv (cn fJ (a1 xv)))))))) (qF (sq (wn a (a2 xv qK))) (qG (qU (d7 (a2 (cz fA (a1 xv)) (cz fA (a1 (fk ["_law_room"] (ir (a1 xv)) ⟨gq,(gI (ct (oq sX) (qI kW xv (wn a (a2 xv qK))) qK)),xv⟩))))))))))
abbrev iq:dR:=top 31
noncomputable def iE:FS:=(eX (mN (b1 gTup) (dU (eS 1 [0] (gz (eP (dU (mC (D.str "came")) (dU (mC (D.str "chalk")) (dU (mC (D.str "doors")) (dU (mC (D.str "others")) dV)))))) (gN 0) (mB (m2 (b2 wT) (mN (dW 2 dX) (dU (mV 1) (dU (mC (D.int 2)) dV))) (mC (D.int 0)))) (eD (mV 0))) dV)))
noncomputable def fq:FN:=gW 1 iE
theorem kS {f:dE}(F:eB K "_law_some_eyes" iq f)(a:fg P w K mg base 1 "_law_take" 2 dX):
  fg P w K mg base 2 "_law_some_eyes" 1 fq:=xq ["_law_hand_here"] X G F λb=>
 (qG (qU (cz fA (a1 (fk ["_law_eye"] (qd (d7 (qA eM (a3 eM eM eM)))) ⟨gq,(gI (ct (oq sX) (wn a (a2 xv qK)) qK)),xv⟩)))))
abbrev mj:dR:=top 34
noncomputable def jU:FS:=(et (eA (m2 (b2 dZ) (m2 (b2 dZ) (m2 (b2 dZ) (mV 3) (mC (D.int 0))) (mV 6)) (mC (D.int 2))) (gN 7))
  (fT (tm (b2 lY) (mV 4) (dU (rD (mV 2) (eP (dU (mV 7) (dU (mN (dW 4 fc) (dU (mV 0) (dU (mV 1) (dU (mV 3) (dU (mV 6) dV))))) dV))) (eP (dU (mV 7) (dU (mC (D.str "leave")) (dU (mC D.non) dV))))) dV))))
noncomputable def jT:FS:=(et (gY (x9 (mB (m2 (b2 gE) (mV 12) (mC D.non))) (mB (m2 (b2 wS) (mV 12) (mN (b1 fx) (dU (m2 (b2 dZ) (mV 0) (mV 8)) dV))))) (eA (eP (dU (m2 (b2 dZ) (m2 (b2 dZ) (m2 (b2 dZ) (mV 0) (mV 8)) (mV 12)) (mC (D.int 0))) (dU (m2 (b2 gl) (mC (D.int 1)) (m2 (b2 dZ) (m2 (b2 dZ) (m2 (b2 dZ) (mV 0) (mV 8)) (mV 12)) (mC (D.int 1)))) dV))) (gT 2 (gh (gN 8) (gh (gN 9) lF)))) pT)
  (fT (tm (b2 lY) (mV 5) (dU (eP (dU (mV 8) (dU (mV 9) (dU (mV 10) dV)))) dV))))
noncomputable def mJ:FS:=(et (eA (eP (dU (j8 dV) (dU (j8 dV) dV))) (gT 2 (gh (gN 4) (gh (gN 5) lF))))
  (et (je (vh (dU (mN (b1 fx) (dU (m2 (b2 dZ) (mV 3) (mC (D.int 0))) dV)) dV)) (gN 6) jU)
  (et (je (GO (dU (m2 (b2 dZ) (mV 3) (mC (D.int 0))) (dU (mV 4) dV))) (gT 2 (gh (gT 3 (gh (gN 8) (gh (gN 9) (gh (gN 7) lF)))) (gh (gT 3 (gh (gN 10) (gh (gN 11) (gh (gN 12) lF)))) lF))) jT)
  (eX (eP (dU (mN (b1 gTup) (dU (mV 5) dV)) (dU (mN (dW 3 fG) (dU (mV 0) (dU (mV 3) (dU (mV 4) dV)))) dV)))))))
noncomputable def fH:FN:=gW 13 mJ
theorem rz {f:dE}(F:eB K "_law_beat" mj f)(b:fg P w K mg base 1 "_law_chalked" 3 fG)(a:fg P w K mg base 1 "_law_sight" 4 fc):
  fg P w K mg base 2 "_law_beat" 4 fH:=xq ["_law_web_here","_law_eyes","_law_rows","_law_whole","_law_dealt","_law_walkers","_law_k","_law_mood","_law_room","_law_came","_law_later","_law_hand_here","_law_step"] X G F λc=>
 (qF (mY 4 5 O (ja O) O O (by decide) O O (a2 (gC qN) (gC qN))) (qF (fo (ir (a1 (cn fJ (a1 (jq xv qK))))) gq (qF (sq (jq (jq (jq xv qK) xv) qK)) (qG (lq ap xv (a1 (xp c.units xv (d7 (a2 xv (wn a (qA xv (a3 xv xv xv))))) (d7 (a3 xv eM fW)))))))) (qF (fo (qw O (bz B) (a2 (jq xv qK) xv)) (tg2 (jv O (eE gq (eE gq (eE gq ik)))) (jv O (eE gq (eE gq (eE gq ik))))) (qF (qV (nq (qv (ct kX xv fW) (no (ct (oq nX) xv (cn fJ (a1 (jq xv xv))))))) (qG (mY 8 9 O (ja O) O O (by decide) O O (a2 (jq (jq (jq xv xv) xv) qK) (qI gi qK (jq (jq (jq xv xv) xv) qK))))) qQ) (qG (lq ap xv (a1 (d7 (a3 xv xv xv))))))) (qG (qU (d7 (a2 (cz fA (a1 xv)) (wn b (a3 xv xv xv)))))))))
abbrev mi:dR:=top 35
noncomputable def mI:FS:=(et (eA (m2 (b2 dZ) (eP (dU (mC (D.int 0)) (dU (mC (D.int 1)) (dU (mC (D.int 2)) (dU (mC (D.int 3998)) dV))))) (mN (dW 2 dX) (dU (mV 0) (dU (mC (D.int 4)) dV)))) (gN 1))
  (et (eA (m2 (b2 dZ) (eP (dU (mC D.non) (dU (mC (D.int 0)) (dU (mC (D.int 1)) (dU (mC (D.int 2)) (dU (mC (D.int 3)) (dU (mC (D.int 0)) (dU (mC (D.int 1)) dV)))))))) (mN (dW 2 dX) (dU (mV 0) (dU (mC (D.int 7)) dV)))) (gN 2))
  (eX (eP (dU (mV 1) (dU (m2 (b2 dZ) (eP (dU (mC (D.str "leave")) (dU (mC (D.str "leave")) (dU (mC (D.str "mark")) (dU (mC (D.str "wipe")) dV))))) (mN (dW 2 dX) (dU (mV 0) (dU (mC (D.int 4)) dV)))) (dU (mV 2) dV)))))))
noncomputable def gx:FN:=gW 3 mI
theorem rr {f:dE}(F:eB K "_law_deed" mi f)(a:fg P w K mg base 1 "_law_take" 2 dX):
  fg P w K mg base 2 "_law_deed" 1 gx:=xq ["_law_hand_here","_law_mood","_law_step"] X G F λb=>
 (qF (sq (jq (d7 (qA qK (a3 qK qK qK))) (wn a (a2 xv qK)))) (qF (sq (jq (d7 (qA fW (qA qK (qA qK (qA qK (a3 qK qK qK)))))) (wn a (a2 xv qK)))) (qG (qU (d7 (a3 xv (jq (d7 (qA eM (a3 eM eM eM))) (wn a (a2 xv qK))) xv))))))
abbrev nI:dR:=top 17
noncomputable def vD:FS:=(et (gY (oW (Da (mN (dW 2 ei) (dU (mV 1) (dU (mN (b1 fx) (dU (mC hE) dV)) dV))))) (eX (mC (D.bl false))) pT)
  (eX (mN (b1 vp) (dU (eS 3 [0] (GO (dU (mV 1) (dU (mC hE) dV))) (gT 2 (gh (gN 0) (gh (gT 2 (gh (gN 1) (gh (gN 2) lF))) lF))) fz (eD (Az (mB (m2 (b2 iT) (mV 1) (mV 3))) (mN (dW 2 ff) (dU (mV 0) (dU (mV 2) dV))) (m2 (b2 GQ) (mV 0) (mC D.non))))) dV))))
noncomputable def gO:FN:=gW 2 vD
theorem sO {f:dE}(F:eB K "is_sight" nI f)(a:CGl K mg "PARTS" hE)(b:fg P w K mg base 2 "is_below" 2 ff)(c:fg P w K mg base 1 "is_tuple_of" 2 ei):
  fg P w K mg base 3 "is_sight" 2 gO:=xq ["eyes","thing"] X G F λd=>
 (qF (qV (iH (iG (wn c (a2 xv (cn fJ (a1 (fX a O))))))) (qG (qU hU)) qQ) (qG (qU (cn (xc O) (a1 (fk ["part","eye","many"] (qw O (bz B) (a2 xv (fX a O))) ⟨(tg2 gq (tg2 gq gq)),eJ,(uC (ct (oq ms) xv xv (by with_unfolding_all rfl)) (wn b (a2 xv xv)) (ce Ee xv fW))⟩))))))
abbrev pC:dR:=top 18
noncomputable def qt:FS:=(et (gY (oW (Da (mN (dW 2 ei) (dU (mV 0) (dU (mC (D.int 3)) dV))))) (eX (mC (D.bl false))) pT)
  (et (eA (mV 0) (gT 3 (gh (gN 1) (gh (gN 2) (gh (gN 3) lF)))))
  (eX (ge (mN (dW 2 ff) (dU (mV 1) (dU (mC iV) dV))) (ge (mN (dW 1 jF) (dU (mV 2) dV)) (Dc (m2 (b2 GQ) (mV 3) (mC D.non)) (mN (dW 2 ff) (dU (mV 3) (dU (mC nh) dV)))))))))
noncomputable def ix:FN:=gW 4 qt
theorem u5 {f:dE}(F:eB K "is_deed" pC f)(d:CGl K mg "MOODS" iV)(e:CGl K mg "STEPS" nh)(b:fg P w K mg base 2 "is_below" 2 ff)(a:fg P w K mg base 1 "is_hand" 1 jF)(c:fg P w K mg base 1 "is_tuple_of" 2 ei):
  fg P w K mg base 3 "is_deed" 1 ix:=xq ["thing","mood","hand","step"] X G F λg=>
 (qF (qV (iH (iG (wn c (a2 xv qK)))) (qG (qU hU)) qQ) (qF (qR xv (jv O (eE gq (eE gq (eE gq ik))))) (qG (qU (fj (wn b (a2 xv (fX d O))) (fj (wn a (a1 xv)) (fO (BY (ce Ee xv fW) (fO (wn b (a2 xv (fX e O))))))))))))
abbrev nM:dR:=top 29
noncomputable def iO:FS:=(et (eA (eS 1 [3] (vh (dU (mV 5) dV)) (gN 0) (mB (m2 (b2 wS) (mN (b1 fx) (dU (m2 (b2 dZ) (mV 1) (mV 0)) dV)) (mC (D.int 4)))) (eD (mV 0))) (gN 6))
  (fT (mN (dW 5 fS) (dU (mV 0) (dU (mV 3) (dU (mV 4) (dU (m2 (b2 dZ) (mV 6) (mN (dW 2 dX) (dU (mV 0) (dU (mN (b1 fx) (dU (mV 6) dV)) dV)))) (dU (mV 5) dV))))))))
noncomputable def iN:FS:=(et (eA (eP (dU (mN (dW 2 dX) (dU (mV 0) (dU (mV 2) dV))) (dU (mN (dW 2 dX) (dU (mV 0) (dU (mV 2) dV))) dV))) (gT 2 (gh (gN 8) (gh (gN 9) lF))))
  (gY (x9 (mB (m2 (b2 wS) (mN (b1 fx) (dU (m2 (b2 dZ) (mV 3) (mV 8)) dV)) (mC (D.int 4)))) (mB (m2 (b2 wS) (mN (b1 fx) (dU (m2 (b2 dZ) (mV 3) (mV 9)) dV)) (m2 (b2 gSub) (mC (D.int 4)) (mN (b1 oZ) (dU (m2 (b2 wT) (mV 8) (mV 9)) dV)))))) (fT (mN (dW 5 fS) (dU (mV 0) (dU (mV 3) (dU (mV 4) (dU (mV 8) (dU (mV 9) dV))))))) pT))
noncomputable def oJ:FS:=(et (eA (m2 (b2 gl) (mC (D.int 1)) (mN (dW 2 dX) (dU (mV 0) (dU (mV 1) dV)))) (gN 2))
  (et (eA (eP (dU (eS 1 [] (vh (dU (mV 2) dV)) (gN 0) fz (eD (j8 dV))) (dU (j8 dV) dV))) (gT 2 (gh (gN 3) (gh (gN 4) lF))))
  (et (je (IM (dU (mC (D.int 1)) (dU (mV 2) dV))) (gN 5) iO)
  (et (je (vh (dU (mN (dW 2 dX) (dU (mV 0) (dU (mC (D.int 7)) dV))) dV)) (gN 7) iN)
  (eX (mN (b1 gTup) (dU (eS 1 [3,4] (gz (mV 3)) (gN 0) fz (eD (mN (b1 gTup) (dU (eS 1 [1,2] (gz (mV 0)) (gN 0) fz (eD (mN (dW 3 gk) (dU (mV 1) (dU (mV 2) (dU (mV 0) dV)))))) dV)))) dV)))))))
noncomputable def gR:FN:=gW 10 oJ
theorem sS {f:dE}(F:eB K "_law_web" nM f)(c:fg P w K mg base 1 "_law_far" 3 gk)(a:fg P w K mg base 1 "_law_take" 2 dX)(b:fg P w K mg base 2 "_law_tie" 5 fS):
  fg P w K mg base 3 "_law_web" 2 gR:=xq ["_law_hand_here","_law_most","_law_many","_law_ends","_law_pairs","_law_room","_law_some","_law_turn","_law_one","_law_other"] X G F λd=>
 (qF (sq (qI gi qK (wn a (a2 xv xv)))) (qF (qR (d7 (a2 (fk ["_law_room"] (ir (a1 xv)) ⟨gq,eJ,(gC qN)⟩) (gC qN))) (tg2 gq gq)) (qF (fo (uy O (bz B) (a2 qK xv)) gq (qF (lG 6 O (T:=["_law_one"]) (keep:=[3]) ⟨O,by decide+kernel,(kc "_law_ends" (cO _))⟩ O (ir (a1 xv)) (λ_ _ _=>⟨gq,(gI (ct (oq nX) (cn fJ (a1 (jq xv xv))) qK)),xv⟩) (ja O) O (by first|exact Or.inl rfl|exact Or.inr rfl)) (qG (kn (wn b (qA xv (qA xv (a3 xv (jq xv (wn a (a2 xv (cn fJ (a1 xv))))) xv)))))))) (qF (fo (ir (a1 (wn a (a2 xv qK)))) gq (qF (mY 8 9 rfl (ja rfl) rfl rfl (by decide) rfl rfl (a2 (wn a (a2 xv xv)) (wn a (a2 xv xv)))) (qG (qV (nq (qv (ct (oq nX) (cn fJ (a1 (jq xv xv))) qK) (no (ct (oq nX) (cn fJ (a1 (jq xv xv))) (qI wo qK (cz xa (a1 (ce (oq sX) xv xv)))))))) (qG (kn (wn b (qA xv (qA xv (a3 xv xv xv)))))) qQ)))) (qG (qU (cz fA (a1 (fk ["_law_row"] (qd xv) ⟨gq,eJ,(cz fA (a1 (fk ["_law_end"] (qd xv) ⟨gq,eJ,(wn c (a3 xv xv xv))⟩)))⟩)))))))))
abbrev kK:dR:=top 36
noncomputable def i9:FS:=(et (eA (eP (dU (m2 (b2 dZ) (m2 (b2 dZ) (m2 (b2 dZ) (mV 4) (mC (D.int 0))) (mV 5)) (mC (D.int 2))) (dU (mN (dW 4 fc) (dU (mV 1) (dU (mV 2) (dU (mV 4) (dU (mV 5) dV))))) dV))) (gN 6))
  (gY (mB (m2 (b2 jI) (mV 6) (mV 3))) (et (eA (mC D.non) (gS (b3 jj) (mV 3) (mV 6)))
  (gY (mB (m2 (b2 (iC λi j=>decide (j<i))) (mN (dW 2 dX) (dU (mV 0) (dU (mC (D.int 12)) dV))) (mC (D.int 0)))) (eA (mN (dW 1 gx) (dU (mV 0) dV)) (gS (b3 jj) (mV 3) (mV 6))) pT)) pT))
noncomputable def lz:FS:=(je (vh (dU (mN (b1 fx) (dU (m2 (b2 dZ) (mV 4) (mC (D.int 0))) dV)) dV)) (gN 5) i9)
noncomputable def ga:FN:=gW 7 lz
theorem oU {f:dE}(F:eB K "_law_grown" kK f)(a:fg P w K mg base 2 "_law_deed" 1 gx)(d:fg P w K mg base 1 "_law_sight" 4 fc)(c:fg P w K mg base 1 "_law_take" 2 dX):
  fg P w K mg base 3 "_law_grown" 5 ga:=xq ["_law_hand_here","_law_web_here","_law_eyes","_law_rows","_law_whole","_law_k","_law_asked"] X G F (hb:=λ_ _ _ _ _ _ g e=>JF e λ_ _ _ _ _=>rfl) λb=>
 (qG (fo (ir (a1 (cn fJ (a1 (jq xv qK))))) gq (qF (sq (d7 (a2 (jq (jq (jq xv qK) xv) qK) (wn d (qA xv (a3 xv xv xv)))))) (qG (qV (ct (oq z4) xv xv (by with_unfolding_all rfl)) (qF (qR fW (mZ xv xv (re b.units))) (qG (qV (ct z8 (wn c (a2 xv qK)) qK) (qG (qR (wn a (a1 xv)) (mZ xv xv (re b.units)))) qQ))) qQ)))))
abbrev sA:dR:=top 16
noncomputable def ud:FS:=(eX (ge (mN (dW 2 ei) (dU (mV 1) (dU (mC (D.int 2)) dV))) (ge (mN (dW 2 ff) (dU (m2 (b2 dZ) (mV 1) (mC (D.int 0))) (dU (mC iV) dV))) (mN (dW 2 gO) (dU (mV 0) (dU (m2 (b2 dZ) (mV 1) (mC (D.int 1))) dV))))))
noncomputable def k0:FN:=gW 2 ud
theorem xR {f:dE}(F:eB K "is_key" sA f)(c:CGl K mg "MOODS" iV)(d:fg P w K mg base 2 "is_below" 2 ff)(a:fg P w K mg base 3 "is_sight" 2 gO)(b:fg P w K mg base 1 "is_tuple_of" 2 ei):
  fg P w K mg base 4 "is_key" 2 k0:=xq ["eyes","thing"] X G F λe=>
 (qG (qU (fj (wn b (a2 xv qK)) (fj (wn d (a2 (jq xv qK) (fX c O))) (fO (wn a (a2 xv (jq xv qK))))))))
abbrev g9:dR:=top 37
noncomputable def gA:FS:=(et (fT (mN (dW 5 ga) (dU (mV 0) (dU (mV 1) (dU (mV 2) (dU (mV 5) (dU (m2 (b2 dZ) (mV 6) (mV 7)) dV)))))))
  (et (eA (mN (b1 jk) (dU (lZ 1 [5] (mV 5) (gN 0) (mB (m2 (b2 gE) (m2 (b2 dZ) (mV 1) (mV 0)) (mC D.non))) (eD (eP (dU (mV 0) (dU (m2 (b2 dZ) (mV 1) (mV 0)) dV))))) dV)) (gN 8))
  (fT (tm (b2 lY) (mV 6) (dU (mN (dW 4 fH) (dU (mV 1) (dU (mV 2) (dU (mV 8) (dU (m2 (b2 dZ) (mV 6) (mV 7)) dV))))) dV)))))
noncomputable def hK:FS:=(et (eA (eP (dU AA (dU (j8 (dU (eP (dU (mN (b1 gTup) (dU (eS 1 [] (gz (m2 (b2 dZ) (mV 3) (mC (D.int 0)))) (gN 0) fz (eD (eP (dU (mV 0) (dU (mC (D.int 0)) (dU (mC (D.int 0)) dV)))))) dV)) (dU (m2 (b2 dZ) (mV 3) (mC (D.int 1))) dV))) dV)) dV))) (gT 2 (gh (gN 5) (gh (gN 6) lF))))
  (et (je (vh (dU (mV 4) dV)) (gN 7) gA)
  (et (eA (eP (dU (mV 2) (dU (mN (b1 gTup) (dU (mN (b1 om) (dU (lZ 1 [5] (mV 5) (gN 0) (mB (m2 (b2 gE) (m2 (b2 dZ) (mV 1) (mV 0)) (mC D.non))) (eD (eP (dU (mV 0) (dU (m2 (b2 dZ) (mV 1) (mV 0)) dV))))) dV)) dV)) dV))) (gN 9))
  (eX (eP (dU (mV 9) (dU (mV 6) dV)))))))
noncomputable def eN:FN:=gW 10 hK
theorem j7 {f:dE}(F:eB K "_law_drawn_walk" g9 f)(b:fg P w K mg base 2 "_law_beat" 4 fH)(a:fg P w K mg base 3 "_law_grown" 5 ga):
  fg P w K mg base 4 "_law_drawn_walk" 5 eN:=xq ["_law_hand_here","_law_web_here","_law_eyes","_law_standing_here","_law_beats","_law_rows","_law_wholes","_law_turn","_law_there","_law_machine"] X G F (hb:=λ_ _ _ _ _ _ e d=>JF d λ_ _ _ _ _=>rfl) λc=>
 (qF (qR (d7 (a2 yY (gC (a1 (d7 (a2 (cz fA (a1 (fk ["_law_room"] (qd (jq xv qK)) ⟨gq,eJ,(d7 (a3 xv qK qK))⟩))) (jq xv qK))))))) (tg2 gq gq)) (qF (fo (ir (a1 xv)) gq (qF (kn (wn a (qA xv (qA xv (a3 xv xv (jq xv xv)))))) (qF (sq (cz (xb c) (a1 (pk O (T:=["_law_asked"]) (keep:=[5]) ⟨O,by decide+kernel,(kc "_law_rows" (cO _))⟩ O xv (λ_ _ _=>⟨gq,(gI (ct kX (jq xv xv) fW)),(d7 (a2 xv (jq xv xv)))⟩))))) (qG (lq ap xv (a1 (wn b (qA xv (a3 xv xv (jq xv xv)))))))))) (qF (sq (d7 (a2 xv (cz fA (a1 (cn (DS c.units) (a1 (pk O (T:=["_law_asked"]) (keep:=[5]) ⟨O,by decide+kernel,(kc "_law_rows" (cO _))⟩ O xv (λ_ _ _=>⟨gq,(gI (ct kX (jq xv xv) fW)),(d7 (a2 xv (jq xv xv)))⟩))))))))) (qG (qU (d7 (a2 xv xv)))))))
abbrev sy:dR:=top 15
noncomputable def uc:FS:=(eX (ge (mN (dW 2 ei) (dU (mV 1) (dU (mC (D.int 2)) dV))) (ge (mN (dW 2 k0) (dU (mV 0) (dU (m2 (b2 dZ) (mV 1) (mC (D.int 0))) dV))) (mN (dW 1 ix) (dU (m2 (b2 dZ) (mV 1) (mC (D.int 1))) dV)))))
noncomputable def jd:FN:=gW 2 uc
theorem xQ {f:dE}(F:eB K "is_row" sy f)(a:fg P w K mg base 3 "is_deed" 1 ix)(b:fg P w K mg base 4 "is_key" 2 k0)(c:fg P w K mg base 1 "is_tuple_of" 2 ei):
  fg P w K mg base 5 "is_row" 2 jd:=xq ["eyes","thing"] X G F λd=>
 (qG (qU (fj (wn c (a2 xv qK)) (fj (wn b (a2 xv (jq xv qK))) (fO (wn a (a1 (jq xv qK))))))))
abbrev nK:dR:=top 14
noncomputable def oI:FS:=(et (gY (Ef (oW (Da (j9 .tuple (mV 1)))) (mB (m2 (b2 (iC fun i j=>decide (j<i))) (mN (b1 fx) (dU (mV 1) dV)) (mC hG)))) (eX (mC (D.bl false))) pT)
  (et (gY (oW (Da (mN (b1 vp) (dU (eS 1 [0] (gz (mV 1)) (gN 0) fz (eD (mN (dW 2 jd) (dU (mV 1) (dU (mV 0) dV))))) dV)))) (eX (mC (D.bl J))) pT)
  (eX (mN (dW 1 fE) (dU (eS 2 [] (gz (mV 1)) (gT 2 (gh (gN 0) (gh (gN 1) lF))) fz (eD (mV 0))) dV)))))
noncomputable def gP:FN:=gW 2 oI
theorem sQ {f:dE}(F:eB K "are_rows" nK f)(c:CGl K mg "MOST_ROWS" hG)(b:fg P w K mg base 1 "is_rising" 1 fE)(a:fg P w K mg base 5 "is_row" 2 jd):
  fg P w K mg base 6 "are_rows" 2 gP:=xq ["eyes","thing"] X G F λd=>
 (qF (qV (nq (nl (iH (iG (ii xv))) (mX (ct z8 (cn fJ (a1 xv)) (fX c O))))) (qG (qU hU)) qQ) (qF (qV (iH (iG (cn (xc O) (a1 (fk ["row"] (qd xv) ⟨gq,eJ,(wn a (a2 xv xv))⟩))))) (qG (qU hU)) qQ) (qG (qU (wn b (a1 (fk ["key","deed"] (qd xv) ⟨(tg2 gq gq),eJ,xv⟩)))))))
abbrev kH:dR:=top 11
noncomputable def ln:FS:=(eX (ge (mN (dW 2 ei) (dU (mV 0) (dU (mC (D.int 2)) dV))) (ge (mN (dW 1 gQ) (dU (m2 (b2 dZ) (mV 0) (mC (D.int 0))) dV)) (mN (dW 2 gP) (dU (m2 (b2 dZ) (mV 0) (mC (D.int 0))) (dU (m2 (b2 dZ) (mV 0) (mC (D.int 1))) dV))))))
noncomputable def fZ:FN:=gW 1 ln
theorem oR {f:dE}(F:eB K "is_machine" kH f)(a:fg P w K mg base 2 "are_eyes" 1 gQ)(b:fg P w K mg base 6 "are_rows" 2 gP)(c:fg P w K mg base 1 "is_tuple_of" 2 ei):
  fg P w K mg base 7 "is_machine" 1 fZ:=xq ["thing"] X G F λd=>
 (qG (qU (fj (wn c (a2 xv qK)) (fj (wn a (a1 (jq xv qK))) (fO (wn b (a2 (jq xv qK) (jq xv qK))))))))
abbrev kJ:dR:=top 39
noncomputable def i8:FS:=(et (eA (mN (dW 4 fH) (dU (mV 0) (dU (mV 1) (dU (mV 5) (dU (mV 6) dV))))) (gN 6))
  (gY (oW (Da (mN (dW 2 gb) (dU (mV 6) (dU (mV 7) dV))))) (eX (mC (D.bl J))) pT))
noncomputable def lr:FS:=(et (gY (Ef (oW (Da (j9 .tuple (mV 3)))) (Ef (mB (m2 (b2 gE) (mN (dW 1 fZ) (dU (mV 3) dV)) (mC (D.bl true)))) (mB (m2 (b2 Hs) (m2 (b2 dZ) (mV 3) (mC (D.int 0))) (mV 1))))) (eX (mC (D.bl false))) pT)
  (et (eA (mN (b1 jk) (dU (mN (b1 AY) (dU (m2 (b2 dZ) (mV 3) (mC (D.int 1))) dV)) dV)) (gN 5))
  (et (eA (eP (dU (mN (b1 gTup) (dU (eS 1 [] (gz (m2 (b2 dZ) (mV 2) (mC (D.int 0)))) (gN 0) fz (eD (eP (dU (mV 0) (dU (mC (D.int 0)) (dU (mC (D.int 0)) dV)))))) dV)) (dU (m2 (b2 dZ) (mV 2) (mC (D.int 1))) dV))) (gN 6))
  (et (je (gz (mV 4)) (gN 7) i8)
  (eX (mC (D.bl M)))))))
noncomputable def f0:FN:=gW 8 lr
theorem oT {f:dE}(F:eB K "_law_right" kJ f)(a:fg P w K mg base 1 "_law_alike" 2 gb)(b:fg P w K mg base 2 "_law_beat" 4 fH)(c:fg P w K mg base 7 "is_machine" 1 fZ):
  fg P w K mg base 8 "_law_right" 5 f0:=xq ["_law_web_here","_law_eyes","_law_standing_here","_law_other","_law_wholes","_law_rows","_law_whole","_law_due"] X G F (hb:=λ_ _ _ _ _ _ g e=>JF e λ_ _ _ _ _=>rfl) λd=>
 (qF (qV (nq (nl (iH (iG (ii xv))) (nl (ct kX (wn c (a1 xv)) hU) (mX (ct (oq Ip) (jq xv qK) xv))))) (qG (qU hU)) qQ) (qF (sq (cz (xb d) (a1 (cz (DU O) (a1 (jq xv qK)))))) (qF (sq (d7 (a2 (cz fA (a1 (fk ["_law_room"] (qd (jq xv qK)) ⟨gq,eJ,(d7 (a3 xv qK qK))⟩))) (jq xv qK)))) (qF (fo (qd xv) gq (qF (sq (wn b (qA xv (a3 xv xv xv)))) (qG (qV (iH (iG (wn a (a2 xv xv)))) (qG (qU hU)) qQ)))) (qG (qU hU))))))
abbrev sx:dR:=top 40
noncomputable def rn:FS:=(et (eA (mN (dW 2 fF) (dU (mV 0) (dU (mV 1) dV))) (gN 2))
  (et (eA (eP (dU (mN (dW 2 (apart gR)) (dU (mV 2) (dU (mC (D.int 8)) dV))) (dU (mN (dW 1 (apart fq)) (dU (mV 2) dV)) dV))) (gT 2 (gh (gN 3) (gh (gN 4) lF))))
  (et (eA (mN (dW 3 (apart fv)) (dU (mV 2) (dU (mN (b1 fx) (dU (mV 3) dV)) (dU (mC (D.int 4)) dV)))) (gN 5))
  (et (eA (eP (dU (m2 (b2 dZ) (mV 5) (mC (D.int 0))) (dU (mN (b1 gTup) (dU (mN (b1 iB) (dU (m2 (b2 gl) (m2 (b2 dZ) (mV 5) (mC (D.int 0))) (m2 (b2 dZ) (mV 5) (mC (D.int 1)))) dV)) dV)) dV))) (gN 6))
  (et (eA (mN (dW 5 (apart eN)) (dU (mV 2) (dU (mV 3) (dU (mV 4) (dU (mV 6) (dU (mN (dW 2 (apart dX)) (dU (mV 2) (dU (mC (D.int 21)) dV))) dV)))))) (gT 2 (gh (gN 7) (gh (gN 8) lF))))
  (et (eA (mN (dW 1 gH) (dU (mV 7) dV)) (gN 9))
  (gY (Ef (oW (Da (mN (dW 5 f0) (dU (mV 3) (dU (mV 4) (dU (mV 5) (dU (mV 9) (dU (mV 8) dV)))))))) (mB (m2 (b2 Hs) (mN (b1 oo) (dU (mN (dW 1 gH) (dU (mV 7) dV)) dV)) (mN (b1 oo) (dU (mV 9) dV))))) (eX (mC (D.bl J))) pT)))))))
noncomputable def wj:FS:=(pS [M,M,J,J,J,J,J,J,J,J] [M,J,J,J,J,J,J,J,J,J] rn)
noncomputable def Bv:FS:=(et (je (vh (dU (mN (b2 DC) (dU (mC (D.int 1)) (dU (mN (b2 DB) (dU (mC (D.int 4)) (dU (mN (b1 fx) (dU (mV 0) dV)) dV))) dV))) dV)) (gN 1) wj)
  (eX (mC (D.bl M))))
noncomputable def m_law:FN:=gW 10 Bv
theorem FX {f:dE}{fd:dQ}(F:yU K "law" "law" sx f fd)(d:fg P w K mg base 4 "_law_drawn_walk" 5 eN)(j:fg P w K mg base 1 "_law_hand" 2 fF)(l:fg P w K mg base 8 "_law_right" 5 f0)(h:fg P w K mg base 2 "_law_some_eyes" 1 fq)(e:fg P w K mg base 2 "_law_standing" 3 fv)(m:fg P w K mg base 1 "_law_take" 2 dX)(i:fg P w K mg base 3 "_law_web" 2 gR)(c:fg P w K mg base 2 "marking" 1 gH):
  jQ P w K mg base uo 9 f fd ["_law_script"] (BO K 1 m_law):=Ez (k:=8) (n:=1) (N:=["_law_script","_law_k","_law_hand_here","_law_web_here","_law_eyes","_law_standing_here","_law_marked","_law_machine","_law_wholes","_law_other"]) (ps:=["_law_script"]) (b:=Bv) F sk O λo A g s H E a=>
 (qF (fo (ir (a1 (cn (Jd O) (a2 qK (cn (Jc O) (a2 qK (cn fJ (a1 xv)))))))) gq (xm [M,M,J,J,J,J,J,J,J,J] [M,J,J,J,J,J,J,J,J,J] (qF (sq (wn j (a2 xv xv))) (qF (mY 3 4 O (ja O) O O (by decide) O O (a2 (qH i.ap a (by first|decide|omega) rfl (a2 xv qK)) (qH h.ap a (by first|decide|omega) rfl (a1 xv)))) (qF (sq (qH e.ap a (by first|decide|omega) rfl (a3 xv (cn fJ (a1 xv)) qK))) (qF (sq (d7 (a2 (jq xv qK) (cz fA (a1 (uA rfl rfl (bz B) rfl (bz B) (qI gi (jq xv qK) (jq xv qK)))))))) (qF (qR (qH d.ap a (by first|decide|omega) rfl (qA xv (qA xv (a3 xv xv (qH m.ap a (by first|decide|omega) rfl (a2 xv qK)))))) (tg2 gq gq)) (qF (sq (wn c (a1 xv))) (qG (qV (nq (nl (iH (iG (wn l (qA xv (qA xv (a3 xv xv xv)))))) (mX (ct (oq Ip) (cn (Bn a) (a1 (wn c (a1 xv)))) (cn (Bn a) (a1 xv)))))) (qG (qU hU)) qQ)))))))))) (qG (qU hU)))
end
theorem all_mk {l:PySem.W.OpenLaw}{w:dH}{K:Fg1}{h:dP}{mg:Str->Option dB}{fa f1 f2 f3 f4 f5 f6 f7 f8 f9 f10 f11 aq f13 f14 f15 u V f18 f19 D f21 f22 f23 f24 f25 S f27 f28 f29 f30 f31 f32:dE}(X:K.In h)(G:h.Ns dI mg)(hfa:mg "law"=some (.ref fa))
  {g1 g7 g8 f c j:dE}
  {t2 t3 t4 t5 t6 t9 U x R t15 t16 t18 t19 W:Tok}
  {od1 od8 n g o od7:Option dE} {n1 n8 au F y n7:Nat} {sl1 sl8 d i k sl7:Array (Option dB)}
  (a1:eB K "is_whole" nH f1)
  (a2:eB K "is_tuple_of" jR f2)
  (a3:eB K "is_rising" me f3)
  (a4:eB K "is_eye" sB f4)
  (a5:eB K "is_hand" pB f5)
  (a6:eB K "sights" sw f6)
  (a7:eB K "moods_on" nG f7)
  (a8:eB K "_law_hand" mh f8)
  (a9:eB K "_law_take" mf f9)
  (a10:eB K "_law_far" nO f10)
  (E:eB K "_law_sight" kI f11)
  (a12:eB K "_law_chalked" i5 aq)
  (a13:eB K "_law_alike" kM f13)
  (C:eB K "is_below" nJ f14)
  (a15:eB K "are_eyes" nL f15)
  (H:eB K "marking" pA u)
  (a17:eB K "_law_tie" nN V)
  (A:eB K "_law_standing" iW f18)
  (a19:eB K "_law_some_eyes" iq f19)
  (a20:eB K "_law_beat" mj D)
  (a21:eB K "_law_deed" mi f21)
  (am:eB K "is_sight" nI f22)
  (a23:eB K "is_deed" pC f23)
  (ao:eB K "_law_web" nM f24)
  (a25:eB K "_law_grown" kK f25)
  (a26:eB K "is_key" sA S)
  (a27:eB K "_law_drawn_walk" g9 f27)
  (a28:eB K "is_row" sy f28)
  (a29:eB K "are_rows" nK f29)
  (I:eB K "is_machine" kH f30)
  (a31:eB K "_law_right" kJ f31)
  (p:eB K "law" sx f32)
  (e_HANDS:wN1 K dI "HANDS"=Z (Z (Value.ref g1)))
  (h1:K.lookup g1=Z ⟨.type "tuple",od1,.seq ([(Value.str "leave" t2),(Value.str "mark" t3),(Value.str "wipe" t4)]:List dB).toArray n1,sl1⟩)
  (e_MOODS:wN1 K dI "MOODS"=Z (Z (Value.int (4000) t5)))
  (e_MOST_ROWS:wN1 K dI "MOST_ROWS"=Z (Z (Value.int (4000) t6)))
  (e_PARTS:wN1 K dI "PARTS"=Z (Z (Value.ref g7)))
  (h7:K.lookup g7=Z ⟨.type "tuple",od7,.seq ([(Value.ref g8),(Value.ref f),(Value.ref c),(Value.ref j)]:List dB).toArray n7,sl7⟩)
  (h8:K.lookup g8=Z ⟨.type "tuple",od8,.seq ([(Value.str "came" t9),(Value.int (5) U)]:List dB).toArray n8,sl8⟩)
  (h11:K.lookup f=Z ⟨.type "tuple",n,.seq ([(Value.str "chalk" x),(Value.int (2) R)]:List dB).toArray au,d⟩)
  (h14:K.lookup c=Z ⟨.type "tuple",g,.seq ([(Value.str "doors" t15),(Value.int (5) t16)]:List dB).toArray F,i⟩)
  (h17:K.lookup j=Z ⟨.type "tuple",o,.seq ([(Value.str "others" t18),(Value.int (2) t19)]:List dB).toArray y,k⟩)
  (e_STEPS:wN1 K dI "STEPS"=Z (Z (Value.int (4) W)))
  (z:Jp K BL):∃fd:dQ,(∀(s:dD) (v:dB),BindsTo s fd ⟨[v],[]⟩ [("_law_script",v)]) /\ ∀base:dP,K.In base->base.Ns dI mg->jQ l.prog w K mg base uo 9 fa fd ["_law_script"] (BO K 1 m_law):=by
 have e:=hfa.symm.trans (wM1 X G p.ns);cases e;have B:Blt BL mg:=z.blt X G;have c1:CGl K mg "HANDS" rR:=oB (wM1 X G e_HANDS) (l5 h1 (by show 3<=dL;decide) (eU kf (eU kf (eU kf jL))));have c2:CGl K mg "MOODS" iV:=oB (wM1 X G e_MOODS) kg;have c4:CGl K mg "MOST_ROWS" hG:=oB (wM1 X G e_MOST_ROWS) kg;have wq:CGl K mg "PARTS" hE:=oB (wM1 X G e_PARTS) (l5 h7 (by show 4<=dL;decide) (eU (l5 h8 (by show 2<=dL;decide) (eU kf (eU kg jL))) (eU (l5 h11 (by show 2<=dL;decide) (eU kf (eU kg jL))) (eU (l5 h14 (by show 2<=dL;decide) (eU kf (eU kg jL))) (eU (l5 h17 (by show 2<=dL;decide) (eU kf (eU kg jL))) jL)))));have c3:CGl K mg "STEPS" nh:=oB (wM1 X G e_STEPS) kg;obtain⟨_,⟨⟨_,_,kV,dc,pm,an,cd,ct,_,rfl,lL,cL⟩,kL⟩⟩:=p.fn;refine⟨wF1 "law" "law" (hC sx) (fu sx) (d9 sx) .none kV dc pm an cd ct,λs v=>.of_eq O,λbase _ _=>?_⟩;have o0:=sN (P:=l.prog) (w:=w) (base:=base) X G B a1;have b:=nW (P:=l.prog) (w:=w) (base:=base) X G B a2;have o2:=ro (P:=l.prog) (w:=w) (base:=base) X G B a3;have o1:=xS (P:=l.prog) (w:=w) (base:=base) X G B a4 wq;have o10:=u4 (P:=l.prog) (w:=w) (base:=base) X G B a5 c1;have o4:=xP (P:=l.prog) (w:=w) (base:=base) X G B a6 wq;have o3:=sM (P:=l.prog) (w:=w) (base:=base) X G B a7;have o25:=rq (P:=l.prog) (w:=w) (base:=base) X G B a8;have a:=rp (P:=l.prog) (w:=w) (base:=base) X G B a9;have o11:=sU (P:=l.prog) (w:=w) (base:=base) X G B a10;have o7:=oS (P:=l.prog) (w:=w) (base:=base) X G B E;have o6:=mM (P:=l.prog) (w:=w) (base:=base) X G B a12;have o22:=oV (P:=l.prog) (w:=w) (base:=base) X G B a13;have o8:=sP X G B C o0;have o20:=sR X G B a15 o1 o2;have o30:=uZ X G B H o3 o4;have q:=sT X G B a17 a;have o28:=lS X G B A a;have r:=kS X G B a19 a;have m:=rz X G B a20 o6 o7;have o13:=rr X G B a21 a;have t:=sO X G B am wq o8 b;have L:=u5 X G B a23 c2 c3 o8 o10 b;have o29:=sS X G B ao o11 a q;have o16:=oU X G B a25 o13 o7 a;have T:=xR X G B a26 c2 o8 t b;have Q:=j7 X G B a27 m o16;have o19:=xQ X G B a28 L T b;have o21:=sQ X G B a29 c4 o2 o19;have o23:=oR X G B I o20 o21 b;have N:=oT X G B a31 o22 m o23;exact FX (P:=l.prog) (w:=w) (base:=base) X G B (A0 lL cL kL) Q o25 N r o28 a o29 o30
noncomputable def hnd(g m c:Int):Ob:=.lst [.int g,.int m,.int c]
noncomputable def Ge(m c:Int):Int:=(m+65537*c*c+11)*48271%2305843009213693921
noncomputable def Ap(m c:Int):Int:=Ge m c*(Ge m c%1000003+99991*c)%2305843009213693907
theorem Jf{a b c:D}:vF [a,b,c] 0=Z a:=by rfl
theorem KC{a b c:D}:vF [a,b,c] 1=Z b:=by rfl
theorem KB{a b c:D}:vF [a,b,c] 2=Z c:=by rfl
theorem EQ{T:Sto}{g m c k:Int}(hg:0<g)(hk:0<k)(a:k<1073741824):
  dX [.ref 0,.int k] (hnd g m c::T)=Z (.int (g%k),hnd (g/k) m c::T):=by
 simp[dX,gW,gK,jp,et,gY,mB,m2,b2,iC,mV,mC,dZ,mP,BQ,d4,hnd,hg,hk,a,eA,gN,lf,vo,gS,b3,jj,mz,kd,eX,Jf,yd]
theorem EO{T:Sto}{g m c k:Int}(hg:¬ 0<g)(hk:0<k)(a:k<1073741824)(hc:0<=c)(h:c<2^60):
  dX [.ref 0,.int k] (hnd g m c::T)=Z (.int ((Ap m (c+1)/97+Ap m (c+1)/1000033)%k),hnd g m (c+1)::T):=by
 have i:eV 65537 (c+1)=M:=pP (by decide) (by decide);have f:eV (65537*(c+1)) (c+1)=M:=wu (by omega) (by omega);have b:eV (m+65537*(c+1)*(c+1)+11) 48271=M:=wu (by decide) (by decide);have d:eV 99991 (c+1)=M:=pP (by decide) (by decide);have q:=Int.emod_lt_of_pos ((m+65537*(c+1)*(c+1)+11)*48271) (show(0:Int)<2305843009213693921 by decide);have j:=Int.emod_nonneg ((m+65537*(c+1)*(c+1)+11)*48271) (show(2305843009213693921:Int)≠0 by decide);have e:eV ((m+65537*(c+1)*(c+1)+11)*48271%2305843009213693921) ((m+65537*(c+1)*(c+1)+11)*48271%2305843009213693921%1000003+99991*(c+1))=M:=pP (by omega) (by omega);simp[dX,gW,gK,jp,et,gY,mB,m2,b2,iC,mV,mC,dZ,mP,BQ,d4,hnd,hg,hk,a,eA,gN,lf,vo,gS,b3,jj,mz,kd,eX,Jf,KC,KB,yd,pT,gl,jO,i,f,b,d,e,Ge,Ap]
def gy(o:Ob)(n:Nat):Prop:=∃g m c:Int,o=hnd g m c/\0<=c/\c<=n
theorem gy.und{o:Ob}{n k:Nat}(h:gy o n):o.und k=M:=by
 obtain⟨g,m,c,rfl,_⟩:=h;rfl
theorem gy.more{o:Ob}{n k:Nat}(h:gy o n)(hk:n<=k):gy o k:=by
 obtain⟨g,m,c,e,a,h1⟩:=h;exact⟨g,m,c,e,a,by lia⟩
theorem fD{o:Ob}{n:Nat}{k:Int}{T:Sto}{Q:D×Sto->Prop}(ho:gy o n)(hn:n<=2^50)(hk:0<k)(a:k<1073741824)(h:∀(d:Nat) o',gy o' (n+1)->(d:Int)<k->Q (.int d,o'::T)):W (dW 2 dX [.ref 0,.int k] (o::T)) Q:=by
 obtain⟨g,m,c,rfl,i,h1⟩:=ho;have call:∀d o',dX [.ref 0,.int k] (hnd g m c::T)=Z (d,o'::T)->dW 2 dX [.ref 0,.int k] (hnd g m c::T)=Z (d,o'::T):=λd o e=>l8 e O (by simp[D.unds,D.und]) (by simp);by_cases f:0<g
 ·have b:=Int.emod_nonneg g (show k≠0 by lia);obtain⟨d,e⟩:=Int.eq_ofNat_of_zero_le b;refine⟨_,call _ _ (EQ f hk a),?_⟩;rw[e];exact h d _ ⟨_,_,_,O,i,by lia⟩ (by rw[<- e];exact Int.emod_lt_of_pos _ hk)
 ·have b:=Int.emod_nonneg (Ap m (c+1)/97+Ap m (c+1)/1000033) (show k≠0 by lia);obtain⟨d,e⟩:=Int.eq_ofNat_of_zero_le b;refine⟨_,call _ _ (EO f hk a i (by lia)),?_⟩;rw[e];exact h d _ ⟨_,_,_,O,by lia,by push_cast;lia⟩ (by rw[<- e];exact Int.emod_lt_of_pos _ hk)
theorem AV(ns:List Int)(k:Int)(h0:0<=k)(hk:k<63):∃g m,fF [.rol (ns.map D.int),.int k] []=Z (.ref 0,[hnd g m 0]):=by
 have h:eV (10^60) (10^30)=M:=by decide+kernel
 have c:eV 7919 k=M:=pP (by decide) (by decide);have e:eV 0 0=M:=pP (by decide) (by decide);have d:∀(x:Int) (b:Prop) [Decidable b],eV x (if b then 1 else 0)=M:=λx b _=>by
  split
  ·exact wu (by decide) (by decide)
  ·exact wu (by decide) (by decide)
 have lt:wS (.int k) (.int ns.length) []=Z (.bl (decide (k<ns.length)),[]):=by rfl
 by_cases f:k<ns.length
 ·have a:vF (ns.map D.int) k=some (.int (ns[k.toNat]'(by lia))):=by
   unfold vF yd;rw[ak h0,ak (by simpa using f)];simp[show k.toNat<ns.length by lia]
  generalize i:ns[k.toNat]'(by lia)=x at a
  simp[fF,gW,gK,jr,et,gY,mB,m2,b2,b1,mN,dU,dV,iC,mV,mC,dZ,mP,BQ,fx,d4,eA,gN,lf,jO,gl,vm,oZ,eX,j8,lt,f,a,c,d,dL,hnd,pT];simp[show eV 1000000000000000000000000000000000000000000000000000000000000 1000000000000000000000000000000=M from h,c,d]
 ·simp[fF,gW,gK,jr,et,gY,mB,m2,b2,b1,mN,dU,dV,iC,mV,mC,dZ,mP,BQ,fx,d4,eA,gN,lf,jO,gl,vm,oZ,eX,j8,lt,f,c,d,dL,hnd,pT];simp[show eV 1000000000000000000000000000000000000000000000000000000000000 1000000000000000000000000000000=M from h,e,c,d]
theorem Dy(ns:List Int)(k:Int)(h0:0<=k)(hk:k<63):∃o,dW 2 fF [.rol (ns.map D.int),.int k] []=Z (.ref 0,[o])/\gy o 0:=by
 have key:=AV ns k h0 hk;obtain⟨g,m,e⟩:=key;refine⟨hnd g m 0,?_,_,_,_,O,Int.le_refl _,Int.le_refl _⟩;rw[Bm (n:=2) e O (by rw[D.unds,D.und,lI];rfl) (by simp[D.und])];simp[D.sh,Ob.sh,D.shs,hnd]
noncomputable def ins(k:Nat)(e:Nat×Nat)(row:List (Nat×Nat)):List (Nat×Nat):=row.take k++e::row.drop k
theorem k9{k:Nat}{e:Nat×Nat}{row:List (Nat×Nat)}:(ins k e row).length=row.length+1:=by
 unfold ins;rw[lA1,lC1,aR,aV];lia
theorem mem_ins{k:Nat}{e x:Nat×Nat}{row:List (Nat×Nat)}:x∈ins k e row↔x=e\/x∈row:=by
 unfold ins;rw[aG,aF]
 conv=>rhs;rhs;rw[<- cG k row,aG]
 constructor
 ·rintro(h|h|h)
  ·exact .inr (.inl h)
  ·exact .inl h
  ·exact .inr (.inr h)
 ·rintro(h|h|h)
  ·exact .inr (.inl h)
  ·exact .inl h
  ·exact .inr (.inr h)
theorem wL{k:Nat}{e:Nat×Nat}{row:List (Nat×Nat)}:(row.map pD).take k++pD e::(row.map pD).drop k=(ins k e row).map pD:=by
 unfold ins;rw[cu,mP1,List.map_take,List.map_drop]
theorem jt{t m i:Nat}{T:Sto}{E:List (List (Nat×Nat))}{P:List (Nat×Nat)}{U:Sto}{o:Ob}{Q:D×Sto->Prop}(w:WS t m T E P U)(hi:i<m)(q:Q (.ref (t+i+1),o::U)):W (dZ (.ref (t+m+1)) (.int i) (o::U)) Q:=
 oO (xs:=j6 (t+1) m) (x:=.ref (t+i+1)) (by rw[gC1];exact w.ends) (by rw[rf hi];congr 2;lia) q
theorem zj{t m a b n:Nat}{T:Sto}{E:List (List (Nat×Nat))}{P:List (Nat×Nat)}{U:Sto}{o:Ob}{Q:D×Sto->Prop}(w:WS t m T E P U)(ho:gy o n)(hn:n<=2^45)(ha:a<m)(hb:b<m){c:List (Nat×Nat)}(s:E[a]? = some c)(L:c.length<100)(C:∀ rb,E[b]? = some rb->rb.length<100)(am:P.length<500)(h:∀g i rb o' z,gy o' (n+2)->(E.set a (ins g (P.length,0) c))[b]?=some rb->WS t m T ((E.set a (ins g (P.length,0) c)).set b (ins i (P.length,1) rb)) (P++[(a,b)]) z->Q (.non,o'::z)):
  W (dW 5 fS [.ref 0,.ref (t+m+1),.ref (t+m+2),.int a,.int b] (o::U)) Q:=by
 have key:W (fS [.ref 0,.ref (t+m+1),.ref (t+m+2),.int a,.int b] (o::U)) λp=>p.2.length=(o::U).length/\Q p:=by
  unfold fS;refine mQ ?_;unfold oK;refine eW (λr S=>∃g o',gy o' (n+1)/\r=[Z (.ref 0),Z (.ref (t+m+1)),Z (.ref (t+m+2)),Z (.int a),Z (.int b)]/\S=o'::U.set (t+a) (sC (ins g (P.length,0) c))) ?_ ?_
  ·walk_at"w";refine lD ?_;walk_at"w";refine jt w ha ?_;refine⟨t+a+1,c.map pD,O,by rw[gC1];exact w.row a c s,?_⟩;walk_at"w";refine jt w ha ?_;walk_at"w";refine eI (xs:=c.map pD) (by rw[gC1];exact w.row a c s) ?_;walk_at"w";rw[lM1,show((c.length:Int)+1)=((c.length+1:Nat):Int) by push_cast;rfl];refine fD ho (by lia) (by lia) (by lia) λg A l F=>?_;walk_at"w";refine eI (xs:=P.map pD) (by rw[gC1];exact w.prs) ?_;walk_at"w";rw[lM1];refine Es (xs:=c.map pD) (v:=pD (P.length,0)) (k:=g) (by rw[gC1];exact w.row a c s) (by rw[lM1];lia) (by rw[lM1];lia) ?_;refine⟨g,A,l,?_⟩;rw[wL,c6];rfl
  rintro r S ⟨g,A,l,rfl,rfl⟩;have j:=w.setRow (row:=ins g (P.length,0) c) ha;obtain⟨rb,f⟩:∃rb,(E.set a (ins g (P.length,0) c))[b]?=some rb:=by
   have:b<(E.set a (ins g (P.length,0) c)).length:=by rw[j.el];exact hb
   exact⟨_,gG1 this⟩
  have B:rb.length<200:=by
   by_cases e:a=b
   ·subst e;rw[aI (by rw[w.el];exact ha)]at f;cases f;rw[k9];lia
   ·rw[gS1 e]at f;have:=C rb f;lia
  refine eW (λr S=>∃i o',gy o' (n+2)/\r=[Z (.ref 0),Z (.ref (t+m+1)),Z (.ref (t+m+2)),Z (.int a),Z (.int b)]/\S=o'::(U.set (t+a) (sC (ins g (P.length,0) c))).set (t+b) (sC (ins i (P.length,1) rb))) ?_ ?_
  ·walk_at"w";refine lD ?_;walk_at"w";refine jt j hb ?_;refine⟨t+b+1,rb.map pD,O,by rw[gC1];exact j.row b rb f,?_⟩;walk_at"w";refine jt j hb ?_;walk_at"w";refine eI (xs:=rb.map pD) (by rw[gC1];exact j.row b rb f) ?_;walk_at"w";rw[lM1,show((rb.length:Int)+1)=((rb.length+1:Nat):Int) by push_cast;rfl];refine fD l (by lia) (by lia) (by lia) λi y u H=>?_;walk_at"w";refine eI (xs:=P.map pD) (by rw[gC1];exact j.prs) ?_;walk_at"w";rw[lM1];refine Es (xs:=rb.map pD) (v:=pD (P.length,1)) (k:=i) (by rw[gC1];exact j.row b rb f) (by rw[lM1];lia) (by rw[lM1];lia) ?_;refine⟨i,y,u,?_⟩;rw[wL,c6];rfl
  rintro r S ⟨i,y,u,rfl,rfl⟩;have x:=j.setRow (row:=ins i (P.length,1) rb) hb;walk_at"w";refine lD ?_;walk_at"w";refine⟨t+m+2,P.map pD,O,by rw[gC1];exact x.prs,?_⟩
  try walk_at"w"
  rw[uh (xs:=P.map pD) (by rw[gC1];exact x.prs)];refine⟨ea (by rw[lM1];lia),?_,?_⟩
  ·simp
  ·have I:=x.setPrs (P':=P++[(a,b)]);rw[c6];have e:P.map pD++[D.tup [D.int ↑a,D.int ↑b]]=(P++[(a,b)]).map pD:=by simp[pD]
   rw[e];exact h g i rb y _ u f I
 obtain⟨⟨d,K⟩,e,G,q⟩:=key;exact⟨_,l8 e O O G,q⟩
abbrev ev:=List (List (Nat×Nat))
structure WI (m:Nat)(E:ev)(P:List (Nat×Nat)):Prop where
 len:E.length=m
 pr:∀(i:Nat) (p:Nat×Nat),P[i]?=some p->(∃r0,E[p.1]?=some r0/\(i,0)∈r0) /\ ∃r1,E[p.2]?=some r1/\(i,1)∈r1
 en:∀(i:Nat) (row:List (Nat×Nat)),E[i]?=some row -> ∀e∈row,e.1<P.length/\e.2<=1
 le:∀(i:Nat) (row:List (Nat×Nat)),E[i]?=some row->row.length<=4
 tt:tot E=2*P.length
theorem nF{E:ev}{i k:Nat}{e:Nat×Nat}{row:List (Nat×Nat)}(h:E[i]?=Z row){j:Nat}{r:List (Nat×Nat)}(b:E[j]?=Z r):∃r',(E.set i (ins k e row))[j]?=Z r' /\ ∀x∈r,x∈r':=by
 by_cases z:i=j
 ·subst z;rw[h]at b;cases b;exact⟨_,aI (gE1.mp h).1,λx a=>mem_ins.mpr (.inr a)⟩
 ·exact⟨r,by rw[gS1 z];exact b,λx a=>a⟩
theorem kG{E:ev}{i k:Nat}{e:Nat×Nat}{row:List (Nat×Nat)}(h:E[i]?=Z row){j:Nat}{b:List (Nat×Nat)}(a:(E.set i (ins k e row))[j]?=Z b):(i=j/\b=ins k e row)\/(i≠j/\E[j]?=Z b):=by
 by_cases z:i=j
 ·subst z;rw[aI (gE1.mp h).1]at a;cases a;exact .inl ⟨O,O⟩
 ·rw[gS1 z]at a;exact .inr ⟨z,a⟩
theorem WI.tie{m a b h n:Nat}{E:ev}{P:List (Nat×Nat)}{f q:List (Nat×Nat)}(w:WI m E P)(ha:E[a]? = some f)(ao:f.length<4)(hb:(E.set a (ins h (P.length,0) f))[b]? = some q)(am:q.length<4):
  WI m ((E.set a (ins h (P.length,0) f)).set b (ins n (P.length,1) q)) (P++[(a,b)]):=by
 have a1:(E.set a (ins h (P.length,0) f))[a]?=Z (ins h (P.length,0) f):=aI (gE1.mp ha).1;refine⟨by rw[aW,aW];exact w.len,λi p t=>?_,λj c d e g=>?_,λj c d=>?_,?_⟩
 ·by_cases hi:i<P.length
  ·rw[gL1 hi]at t;obtain⟨⟨L,G,I⟩,K,h1,m1⟩:=w.pr i p t;obtain⟨v,l,y⟩:=nF (k:=h) (e:=(P.length,0)) ha G;obtain⟨o,r,A⟩:=nF (k:=n) (e:=(P.length,1)) hb l;obtain⟨H,z,D⟩:=nF (k:=h) (e:=(P.length,0)) ha h1;obtain⟨u,s,x⟩:=nF (k:=n) (e:=(P.length,1)) hb z;exact⟨⟨o,r,A _ (y _ I)⟩,u,s,x _ (D _ m1)⟩
  ·have B:i=P.length:=by
    have:=(gE1.mp t).1;simp at this;lia
   subst B;rw[List.getElem?_concat_length]at t;cases t;obtain⟨v,l,y⟩:=nF (k:=n) (e:=(P.length,1)) hb a1;exact⟨⟨v,l,y _ (mem_ins.mpr (.inl O))⟩,_,aI (gE1.mp hb).1,mem_ins.mpr (.inl O)⟩
 ·rw [lA1,aY];have old:∀ (j:Nat) (c:List (Nat×Nat)),(E.set a (ins h (P.length,0) f))[j]? = some c -> ∀ e∈c,e.1<P.length+1/\e.2<=1:=fun j c d e g=>by
   rcases kG ha d with⟨_,rfl⟩|⟨_,d⟩
   ·rcases mem_ins.mp g with rfl|g
    ·exact⟨by simp,by simp⟩
    ·have:=w.en a f ha e g;exact⟨by lia,this.2⟩
   ·have:=w.en j c d e g;exact⟨by lia,this.2⟩
  rcases kG hb d with⟨_,rfl⟩|⟨_,d⟩
  ·rcases mem_ins.mp g with rfl|g
   ·exact⟨by simp,by simp⟩
   ·exact old b q hb e g
  ·exact old j c d e g
 ·rcases kG hb d with⟨_,rfl⟩|⟨_,d⟩
  ·rw[k9];lia
  ·rcases kG ha d with⟨_,rfl⟩|⟨_,d⟩
   ·rw[k9];lia
   ·exact w.le j c d
 ·have C:=qC (row':=ins h (P.length,0) f) ha;have F:=qC (row':=ins n (P.length,1) q) hb;have:=w.tt;rw[k9]at C F;rw[lA1,aY];lia
noncomputable def webD(w:ev):D:=.tup (w.map λrow=>.tup (row.map pD))
structure oN (m:Nat)(w:ev):Prop where
 len:w.length=m
 le:∀row∈w,row.length<=4
 to:∀row∈w,∀e∈row,∃r,w[e.1]?=some r/\e.2<r.length
theorem ku(w:ev):(webD w).und 0=M:=by
 unfold webD;rw[D.und];exact eO λa _=>by rw[D.und];exact eO λ_ _=>rfl
noncomputable def vr(E:ev)(P:List (Nat×Nat))(e:Nat×Nat):Nat×Nat:=
 let p:=P.getD e.1 (0,0)
 let room:=if e.2=0 then p.2 else p.1
 (room,((E.getD room []).findIdx? (· == (e.1,1-e.2))).getD 0)
theorem A3{m:Nat}{E:ev}{P:List (Nat×Nat)}(w:WI m E P){i:Nat}{row:List (Nat×Nat)}(hr:E[i]? = some row){e:Nat×Nat}(he:e∈row):
  ∃p a r j,P[e.1]?=Z p/\e.2<=1/\a=(if e.2=0 then p.2 else p.1)/\E[a]?=Z r/\r.findIdx? (· == (e.1,1-e.2))=Z j/\j<r.length/\vr E P e=(a,j):=by
 obtain⟨h1,h2⟩:=w.en i row hr e he;obtain⟨p,f⟩:∃p,P[e.1]?=some p:=⟨_,gG1 h1⟩;obtain⟨⟨o,l,t⟩,n,q,m1⟩:=w.pr _ p f;have b:∀(r:List (Nat×Nat)) (x:Nat×Nat),x∈r -> ∃j,r.findIdx? (· == x)=Z j/\j<r.length:=λr x s=>by
  cases h:r.findIdx? (· == x)with
  |none=>
   rw[List.findIdx?_eq_none_iff]at h;have:=h x s;simp at this
  |some j=>exact⟨j,O,(b6.mp h).1⟩
 by_cases g:e.2=0
 ·obtain⟨j,d,k⟩:=b n (e.1,1) m1;refine⟨p,p.2,n,j,f,h2,by rw[ak g],q,by rw[g];exact d,k,?_⟩;simp[vr,bK,f,q,g,d]
 ·have c:e.2=1:=by lia
  obtain⟨j,d,k⟩:=b o (e.1,0) t;refine⟨p,p.1,o,j,f,h2,by rw[aj g],l,by rw[c];exact d,k,?_⟩;simp[vr,bK,f,l,c,d]
theorem EC{m:Nat}{E:ev}{P:List (Nat×Nat)}(w:WI m E P):oN m (E.map λa=>a.map (vr E P)):=by
 refine⟨by rw[lM1];exact w.len,?_,?_⟩
 ·intro a c;obtain⟨r,b,rfl⟩:=cc.mp c;obtain⟨i,hi⟩:=bq b;rw[lM1];exact w.le i r hi
 ·intro a c e n;obtain⟨r,b,rfl⟩:=cc.mp c;obtain⟨i,hi⟩:=bq b;obtain⟨x,f,rfl⟩:=cc.mp n;obtain⟨p,d,l,j,_,_,_,k,o,g,h⟩:=A3 w hi f;rw[h];exact⟨l.map (vr E P),by rw[gP1,k];rfl,by rw[lM1];exact g⟩
theorem pF:∀(k n:Nat),j6 n (k+1)=j6 n k++[.ref (n+k)]
 |0,n=>rfl
 |k+1,n=>by
  rw[j6,pF k (n+1),j6,bj,show n+1+k=n+(k+1) by lia]
theorem y0{t m:Nat}{T:Sto}(tl:T.length=t):WS t m T (aP m []) [] (T++(aP m (.lst [])++[.lst (j6 (t+1) m),.lst []])):=by
 refine⟨tl,by rw[<- tl,c9],by simp,λi a h=>?_,?_,?_⟩
 ·have hi:i<m:=by have:=(gE1.mp h).1;simpa using this
  rw[aS,ak hi]at h;cases h;rw[<- tl,gD,gL1 (by simpa using hi),aS,ak hi];rfl
 ·rw[<- tl,gD,gR1 (by simp)];simp
 ·rw[<- tl,bm,gD,gR1 (by simp)];simp
theorem y1(m:Nat):WI m (aP m []) []:=by
 refine⟨by simp,λi p h=>by simp at h,λi a h=>?_,λi a h=>?_,by simp[tot]⟩
 ·rw[aS]at h;split at h
  ·cases h;intro e b;simp at b
  ·cases h
 ·rw[aS]at h;split at h
  ·cases h;simp
  ·cases h
theorem EN{t m i n:Nat}{T U:Sto}{E:ev}{P:List (Nat×Nat)}{o:Ob}{x6:Option D}{Q:Fl×Ev×Sto->Prop}(w:WS t m T E P U)(v:WI m E P)(ho:gy o n)(hn:n<=2^44)(hP:P.length=i)(hi:i+1<m)(hm:m<=8)(he:∀j row,i+1<=j->E[j]?=some row->row=[])(h:∀ao K o' V S,WS t m T ao K V->WI m ao K->gy o' (n+3)->K.length=i+1->(∀j row,i+2<=j->ao[j]?=some row->row=[]) ->
   Q (.nx,[Z (.ref 0),Z (.int 8),Z (.int m),Z (.ref (t+m+1)),Z (.ref (t+m+2)),Z (.int ((i+1:Nat):Int)),S,Y,Y,Y],o'::V)):
  W (iO [Z (.ref 0),Z (.int 8),Z (.int m),Z (.ref (t+m+1)),Z (.ref (t+m+2)),Z (.int ((i+1:Nat):Int)),x6,Y,Y,Y] (o::U)) Q:=by
 have e:∀j,j<m -> ∃row,E[j]?=Z row:=λj g=>⟨_,gG1 (by rw[v.len];exact g)⟩
 let k:Nat->Bool:=λj=>decide ((E.getD j []).length<4)
 unfold iO;walk_at"w";rw[mw,Int.toNat_natCast];refine⟨gt (by lia),?_⟩;refine jK k (λj:Nat=>.int j) (λr=>∃x,r=[x,Z (.ref (t+m+1))]) O (af (i+1)) _ ⟨_,O⟩ ?_ ?_
 ·rintro j g r ⟨x,rfl⟩;have p:j<m:=by have:=aB.mp g;lia
  obtain⟨row,c⟩:=e j p;walk_at"w";refine jt w p ?_;walk_at"w";refine eI (xs:=row.map pD) (by rw[gC1];exact w.row j row c) ?_;walk_at"w";refine⟨?_,⟨_,O⟩,λ_=>trivial⟩;simp only[k,bK,c,b7,lM1];rw[bQ,al,al];lia
 ·rintro r' _;walk_at"w";have F:(List.range (i+1)).filter k≠[]:=by
   intro z;have A:∀j row,j<i+1->E[j]?=Z row->4<=row.length:=λj row g hr=>by
    have:=List.filter_eq_nil_iff.mp z j (aB.mpr g);simp only[k,bK,hr,b7,al]at this;lia
   have:=ze (E:=E) (k:=i+1) (by rw[v.len];lia) A;have:=v.tt;lia
  generalize aq:(af (i+1)).filter k=L at F;have R:∀j∈L,j<i+1/\k j=M:=λj g=>by
   rw[<- aq,aA]at g;exact⟨aB.mp g.1,g.2⟩
  have hLl:L.length<=8:=by
   rw[<- aq];have:=di k (af (i+1));simp at this;lia
  refine⟨ea (by rw[lM1];lia),?_⟩;refine eI (xs:=L.map λj:Nat=>D.int j) (by rw[gC1,eK];rfl) ?_;walk_at"w";rw[lM1];have hL0:0<L.length:=c7.mpr F;refine fD ho (by lia) (by lia) (by lia) λd o1 am hd=>?_;have s:d<L.length:=by lia
  refine oO (i:=d) (xs:=L.map λj:Nat=>D.int j) (x:=.int (L[d]:Nat)) (by rw[gC1,eK];rfl) (by rw[gP1,gG1 s];rfl) ?_;generalize g:L[d]=j;obtain⟨hj1,q⟩:=R j (by rw[<- g];exact bS s);obtain⟨row,c⟩:=e j (by lia);have au:row.length<4:=by
   simp only[k,bK,c,b7,al]at q;exact q
  obtain⟨I,l⟩:=e (i+1) hi;have C:=he (i+1) I (nR1 _) l;subst C;walk_at"w";refine zj (a:=j) (b:=i+1) (w.app (G:=[Ob.lst (L.map λj:Nat=>D.int j)])) am (by lia) (by lia) hi c (by lia) (λI X=>by rw[l]at X;cases X;simp) (by lia) λk1 k2 I o2 U2 N f wq=>?_;have B:j≠i+1:=by lia
  have y:I=[]:=by
   rw[gS1 B,l]at f;cases f;rfl
  walk_at"w";refine h _ _ o2 U2 _ wq (v.tie c au f (by rw[y];simp)) (N.more (by lia)) (by simp[hP]) λj' u p H=>?_;rw[gS1 (by lia),gS1 (by lia)]at H;exact he j' u (by lia) H
theorem Gb{t m n:Nat}{T U:Sto}{E:ev}{P:List (Nat×Nat)}{o:Ob}{G z y aq X:Option D}{Q:Fl×Ev×Sto->Prop}(w:WS t m T E P U)(v:WI m E P)(ho:gy o n)(hn:n<=2^44)(hP:P.length<100)(S:0<m)(hm:m<=8)(h:∀ao B o' K A u,WS t m T ao B K->WI m ao B->gy o' (n+4)->B.length<=P.length+1 ->
   Q (.nx,[Z (.ref 0),Z (.int 8),Z (.int m),Z (.ref (t+m+1)),Z (.ref (t+m+2)),G,z,y,A,u],o'::K)):
  W (iN [Z (.ref 0),Z (.int 8),Z (.int m),Z (.ref (t+m+1)),Z (.ref (t+m+2)),G,z,y,aq,X] (o::U)) Q:=by
 have e:∀j,j<m -> ∃row,E[j]?=Z row:=λj V=>⟨_,gG1 (by rw[v.len];exact V)⟩;unfold iN;walk_at"w";refine fD ho (by lia) (by lia) (by lia) λa o1 x ha=>?_;walk_at"w";refine fD x (by lia) (by lia) (by lia) λb L l q=>?_;obtain⟨N,d⟩:=e a (by lia);obtain⟨r,g⟩:=e b (by lia);walk_at"w";refine jt w (by lia) ?_;walk_at"w";refine eI (xs:=N.map pD) (by rw[gC1];exact w.row a N d) ?_;walk_at"w";rw[lM1];have f:Q (.nx,[Z (.ref 0),Z (.int 8),Z (.int m),Z (.ref (t+m+1)),Z (.ref (t+m+2)),G,z,y,Z (.int a),Z (.int b)],L::U):=
  h E P L U _ _ w v (l.more (by lia)) (by lia)
 split
 ·rename_i C;rw [decide_eq_true_eq] at C;refine jt w (by lia) ?_;walk_at"w";refine eI (xs:=r.map pD) (by rw [gC1];exact w.row b r g) ?_;walk_at"w";rw [lM1];have R:((a:Int) == (b:Int))=decide (a=b):=by
   rw[bQ,beq_iff_eq,al];lia
  rw[R];by_cases k:a=b
  ·subst k;rw[d]at g;cases g;walk_at"w";split
   ·rename_i p;simp at p;refine zj w l (by lia) (by lia) (by lia) d (by lia) (fun r q=>by rw [d] at q;cases q;lia) (by lia) fun wq au r H am i c I=>?_;have F:r.length<4:=by
     rw[aI (by rw[v.len];lia)]at c;cases c;rw[k9];lia
    exact h _ _ H am _ _ I (v.tie d (by lia) c F) (i.more (by lia)) (by simp)
   ·exact f
  ·simp only[ai k];walk_at"w";split
   ·rename_i p;simp at p;refine zj w l (by lia) (by lia) (by lia) d (by lia) (fun s q=>by rw [g] at q;cases q;lia) (by lia) fun wq au s H am i c I=>?_;have F:s.length<4:=by
     rw[gS1 k,g]at c;cases c;lia
    exact h _ _ H am _ _ I (v.tie d (by lia) c F) (i.more (by lia)) (by simp)
   ·exact f
 ·try walk_at"w"
  exact f
theorem IW{t m i:Nat}{T U:Sto}{E:ev}{P:List (Nat×Nat)}{o:Ob}{row:List (Nat×Nat)}{e:Nat×Nat}{Q:D×Sto->Prop}(w:WS t m T E P U)(v:WI m E P)(hr:E[i]? = some row)(he:e∈row)(q:Q (pD (vr E P e),o::U)):
  W (dW 3 gk [.ref (t+m+1),.ref (t+m+2),pD e] (o::U)) Q:=by
 obtain⟨p,a,r,j,h1,h2,n,c,z,A,u⟩:=A3 v hr he;have key:W (gk [.ref (t+m+1),.ref (t+m+2),pD e] (o::U)) λp=>p.2=o::U/\Q p:=by
  unfold gk;refine mQ ?_;unfold oM;have b:a<m:=by rw[<- v.len];exact(gE1.mp c).1
  have l:∀Q:D×Sto->Prop,Q (.int e.1,o::U)->W (dZ (pD e) (.int 0) (o::U)) Q:=λQ q=>hM (i:=0) O q;have h:∀Q:D×Sto->Prop,Q (.int e.2,o::U)->W (dZ (pD e) (.int 1) (o::U)) Q:=λQ q=>hM (i:=1) O q;have g:((1:Int)-(e.2:Int))=((1-e.2:Nat):Int):=by lia
  walk_at"w";refine l _ ?_;refine oO (i:=e.1) (xs:=P.map pD) (x:=pD p) (by rw[gC1];exact w.prs) (by rw[gP1,h1];rfl) ?_;refine h _ ?_;walk_at"w";rw[g];refine hM (i:=1-e.2) (x:=.int a) ?_ ?_
  ·rw[n];by_cases k:e.2=0
   ·rw[k,ak O];rfl
   ·rw[aj k,show e.2=1 by lia];rfl
  walk_at"w";refine lD ?_;walk_at"w";refine jt w b ?_;refine⟨t+a+1,r.map pD,O,by rw[gC1];exact w.row a r c,?_⟩;walk_at"w";refine l _ ?_;refine h _ ?_;walk_at"w";rw[g];refine Ha (e:=(e.1,1-e.2)) (row:=r) (j:=j) (by rw[gC1];exact w.row a r c) (by have:=v.le a r c;lia) z ?_;refine⟨O,?_⟩;rw[u]at q;exact q
 obtain⟨⟨d,B⟩,s,f,y⟩:=key;dsimp only at f;subst f;exact⟨_,l8 s O O O,y⟩
theorem Hx{o:Ob}{n:Nat}{T:Sto}{Q:D×Sto->Prop}(ho:gy o n)(hn:n<=2^40)(hT:T.all (Ob.und (T.length+1))=M)(h:∀m w o',0<m->m<=8->oN m w->gy o' (n+100)->Q (webD w,o'::T)):W (dW 2 gR [.ref 0,.int 8] (o::T)) Q:=by
 refine w9 O O hT ?_;unfold gR;refine mQ ?_;unfold oJ;generalize aq:T.length=t;refine eW (λr S=>∃(m:Nat) (s:Ob),0<m/\m<=8/\gy s (n+1)/\r=[Z (.ref 0),Z (.int 8),Z (.int m),Y,Y,Y,Y,Y,Y,Y]/\S=s::T) ?_ ?_
 ·walk_at"w";refine fD ho (by lia) (by lia) (by lia) λc s y hc=>?_;walk_at"w";exact⟨c+1,s,by lia,by lia,y,by simp[Int.add_comm],O⟩
 rintro r S ⟨m,s,H,wq,y,rfl,rfl⟩;refine eW (λr S=>∃U,WS t m T (aP m []) [] U/\r=[Z (.ref 0),Z (.int 8),Z (.int m),Z (.ref (t+m+1)),Z (.ref (t+m+2)),Y,Y,Y,Y,Y]/\S=s::U) ?_ ?_
 ·walk_at"w";refine⟨gt (by lia),?_⟩;rw[Int.toNat_natCast];refine jG (λi p r S=>p=j6 (t+1) i/\S=s::(T++aP i (.lst [])) /\ ∃x,r=[x]) (gM 0 m) 0 [] _ _ ⟨O,by simp,_,O⟩ (λ_ _ _ _ _=>rfl) ?_ ?_
  ·rintro i d q p r S ⟨rfl,rfl,x,rfl⟩;walk_at"w";rw[cY];refine⟨?_,?_,_,O⟩
   ·rw[pF,aq,lR1]
    congr 3
    lia
   ·rw[List.replicate_succ']
  ·rintro xs r S ⟨e,rfl,_⟩;rw[cW,cY,fY]at e;subst e;rw[cY,fY];walk_at"w";rw[kP];refine⟨ea (by lia),_,y0 aq,?_,O⟩;simp[aq]
 rintro r S ⟨U0,w0,rfl,rfl⟩;refine eW (λr S=>∃E P b U k g,WS t m T E P U/\WI m E P/\P.length<=8/\gy b (n+40)/\r=[Z (.ref 0),Z (.int 8),Z (.int m),Z (.ref (t+m+1)),Z (.ref (t+m+2)),k,g,Y,Y,Y]/\S=b::U) ?_ ?_
 ·walk_at"w";refine⟨Br (by decide) (by decide),gt (by lia),?_⟩;refine gn (λi r S=>i<=m-1 /\ ∃E P b U k g,WS t m T E P U/\WI m E P/\P.length=i/\(∀j row,i+1<=j->E[j]?=Z row->row=[])/\gy b (n+1+3*i)/\r=[Z (.ref 0),Z (.int 8),Z (.int m),Z (.ref (t+m+1)),Z (.ref (t+m+2)),k,g,Y,Y,Y]/\S=b::U) _ 0 _ _ ?_ (λ_ _ _ _=>rfl) ?_ ?_
  ·refine⟨by lia,_,_,s,U0,Y,Y,w0,y1 m,O,λj row _ K=>?_,y,O,O⟩;rw[aS]at K;split at K
   ·cases K;rfl
   ·cases K
  ·rintro i d q r S ⟨hi,E,P,b,U,k,g,w,v,am,L,a,rfl,rfl⟩;have l:=(gE1.mp q).1;rw [fY] at l;have ao:d = .int ((i+1:Nat):Int):=by
    rw[rA,gP1,cI l]at q;simp at q;rw[<- q]
    push_cast
    congr 1
    lia
   subst ao;rw[cY]at *
   walk_at"w";refine EN w v a (by lia) am (by lia) wq L λX V o' au x6' A v' z I R=>?_;exact⟨O,by lia,X,V,o',au,_,_,A,v',I,R,z.more (by lia),O,O⟩
  ·rintro r S ⟨hi,E,P,b,U,k,g,w,v,am,L,a,rfl,rfl⟩;exact⟨O,E,P,b,U,k,g,w,v,by lia,a.more (by lia),O,O⟩
 rintro r S ⟨E,P,b,U,k,g,w,v,am,a,rfl,rfl⟩;refine eW (λr S=>∃E P b U k g B F C,WS t m T E P U/\WI m E P/\gy b (n+100)/\r=[Z (.ref 0),Z (.int 8),Z (.int m),Z (.ref (t+m+1)),Z (.ref (t+m+2)),k,g,B,F,C]/\S=b::U) ?_ ?_
 ·walk_at"w";refine fD a (by lia) (by lia) (by lia) λc o3 N hc=>?_;walk_at"w";refine⟨gt (by lia),?_⟩;rw[Int.toNat_natCast];refine gn (λi r S=>i<=c /\ ∃E P b U k g B F C,WS t m T E P U/\WI m E P/\P.length<=8+i/\gy b (n+41+4*i)/\r=[Z (.ref 0),Z (.int 8),Z (.int m),Z (.ref (t+m+1)),Z (.ref (t+m+2)),k,g,B,F,C]/\S=b::U) _ 0 _ _ ⟨by lia,E,P,o3,U,k,g,Y,Y,Y,w,v,by lia,N,O,O⟩ (λ_ _ _ _=>rfl) ?_ ?_
  ·rintro i d q r S ⟨hi,E,P,b,U,k,g,B,F,C,w,v,am,a,rfl,rfl⟩;have l:=(gE1.mp q).1;rw[fY]at l;rw[cY]at *
   walk_at"w";refine Gb w v a (by lia) (by lia) H wq λX V o' au x8' x9' A v' z I=>?_;exact⟨O,by lia,X,V,o',au,_,_,_,_,_,A,v',by lia,z.more (by lia),O,O⟩
  ·rintro r S ⟨hi,E,P,b,U,k,g,B,F,C,w,v,am,a,rfl,rfl⟩;rw[fY,cY]at a;exact⟨O,E,P,b,U,_,_,_,_,_,w,v,a.more (by lia),O,O⟩
 rintro r S ⟨E,P,b,U,k,g,B,F,C,w,v,a,rfl,rfl⟩;walk_at"w";refine eI (S:=b::U) (xs:=j6 (t+1) m) (by rw[gC1];exact w.ends) ?_;have u:∀j,j<m -> ∃row,E[j]?=Z row:=λj hj=>⟨_,gG1 (by rw[v.len];exact hj)⟩;refine jG (λi p r S=>∃G x,S=b::(U++G)/\r=[x,Z (.ref (t+m+1)),Z (.ref (t+m+2))]/\p=((E.take i).map λrow=>.tup ((row.map (vr E P)).map pD))) (j6 (t+1) m) 0 [] _ _ ⟨[],Y,by simp,O,O⟩ ?_ ?_ ?_
 ·rintro i p r S ⟨G,x,rfl,_⟩;exact kT (by rw[gC1];exact(w.app (G:=G)).ends)
 ·rintro i d q p r S ⟨G,x,rfl,rfl,rfl⟩;have hi:=(gE1.mp q).1;rw[kP]at hi;rw[rf hi]at q;cases q;obtain⟨row,f⟩:=u i hi;have A:=w.app (G:=G);walk_at"w";refine eI (S:=b::(U++G)) (xs:=row.map pD) (by rw[show t+1+i=t+i+1 by lia,gC1];exact A.row i row f) ?_;refine n0 (λe=>pD (vr E P e)) (λr=>∃x,r=[x,Z (.ref (t+m+1)),Z (.ref (t+m+2))]) (kT (by rw[show t+1+i=t+i+1 by lia,gC1];exact A.row i row f)) row _ ⟨_,O⟩ ?_ ?_
  ·rintro e L r ⟨x,rfl⟩;walk_at"w";refine IW A v f L ?_;exact⟨O,O,_,O⟩
  ·rintro r' _;walk_at"w";have hl:=v.le i row f;refine⟨ea (by rw[lM1];lia),?_⟩;refine eI (xs:=row.map λe=>pD (vr E P e)) (by rw[<- bH,gC1,<- lA1,eK];rfl) ?_;refine⟨G++[Ob.lst (row.map λe=>pD (vr E P e))],_,O,O,?_⟩;rw[cY,cr,f];simp[Function.comp_def]
 ·rintro xs r S ⟨G,x,rfl,rfl,e⟩;rw [cW,cY,kP,<- v.len,bY] at e;subst e;walk_at"w";have hlE:=v.len;refine ⟨ea (by rw [lM1];lia),?_⟩;refine eI (xs:=E.map fun row=>.tup ((row.map (vr E P)).map pD)) (by rw [<- bH,gC1,<- lA1,eK];rfl) ?_;have e:D.tup (E.map fun row=>.tup ((row.map (vr E P)).map pD))=webD (E.map fun row=>row.map (vr E P)):=by
   simp[webD,Function.comp_def]
  refine⟨webD (E.map λrow=>row.map (vr E P)),b,U.drop t++(G++[Ob.lst (E.map λrow=>.tup ((row.map (vr E P)).map pD))]),?_,ku _,a.und,?_⟩
  ·rw[e,<- bH T,<- w.split]
  ·exact h m _ b H wq (EC v) a
theorem Fo{items:List D}{k:Int}{n:Nat}{o:Ob}{T:Sto}{l:Option D}{Q:List D×Ev×Sto->Prop}(ho:gy o n)(hn:n+items.length<=2^50)(hk:0<k)(f:k<1073741824)(h:∀xs o' m,gy o' (n+items.length)->xs.Sublist items->Q (xs,[m,some (.ref 0)],o'::T)):
  W (fK [] (gN 0) (mB (m2 (b2 wT) (mN (dW 2 dX) (dU (mV 1) (dU (mC (D.int k)) dV))) (mC (D.int (0))))) (eD (mV 0)) items [l,Z (.ref 0)] (o::T)) Q:=by
 refine jG (λi b r S=>∃o x,S=o::T/\r=[x,Z (.ref 0)]/\gy o (n+i)/\i<=items.length/\b.Sublist (items.take i)) items 0 [] _ _ ⟨o,l,O,O,by simpa using ho,by lia,by simp⟩ (λ_ _ _ _ _=>rfl) ?_ ?_
 ·rintro i d j b r S ⟨o,x,rfl,rfl,ho,hi,a⟩;have p:i<items.length:=(gE1.mp j).1;have g:items.take (i+1)=items.take i++[d]:=by rw[cr,j];rfl
  walk_at"w";refine fD ho (by lia) hk f λe o' c q=>?_;walk_at"w";split
  ·exact⟨o',Z d,O,O,c.more (by lia),by lia,by rw[cY,g];simp at a;exact a.append (List.Sublist.refl _)⟩
  ·exact⟨o',Z d,O,O,c.more (by lia),by lia,by rw[cY,g];simp at a;exact a.trans (List.sublist_append_left _ _)⟩
 ·rintro xs r S ⟨o,x,rfl,rfl,ho,_,a⟩;refine h _ _ _ (by simpa using ho) (by simpa using a)
theorem GR{o:Ob}{n:Nat}{T:Sto}{Q:D×Sto->Prop}(ho:gy o n)(hn:n<=2^45)(i:T.all (Ob.und (T.length+1))=M)(h:∀a b c d o',gy o' (n+4)->Q (.tup (gj a b c d),o'::T)):W (dW 1 fq [.ref 0] (o::T)) Q:=by
 refine w9 O O i ?_;unfold fq;refine mQ ?_;unfold iE;walk_at"w";rw[gL];refine Fo ho (by simp;lia) (by decide) (by decide) λxs f k e g=>?_;obtain⟨a,b,c,d,rfl⟩:=A5 g;walk_at"w";have j:=A6 a b c d;refine⟨ea (by lia),?_⟩;refine eI (xs:=gj a b c d) (by rw[gC1,eK];rfl) ?_;exact⟨_,f,_,O,by rw[D.und];exact ox a b c d,e.und,h a b c d f e⟩
theorem Er{w:ev}{i:Nat}{row:List (Nat×Nat)}{S:Sto}{Q:D×Sto->Prop}(h:w[i]?=Z row)(q:Q (.tup (row.map pD),S)):W (dZ (webD w) (.int i) S) Q:=
 hM (x:=.tup (row.map pD)) (by rw[gP1,h];rfl) q
theorem wB{w:ev}{S:Sto}:fx (webD w) S=Z (.int w.length,S):=by simp[webD,fx,d4]
noncomputable def crowd(ws:List Wk)(rm:Nat):Nat:=(ws.filter λu=>u.1 == rm).length
noncomputable def zx(a b c d:Bool)(ws:List Wk)(cs:List Nat)(u:Wk)(row:List (Nat×Nat)):D:=
 uP a b c d u.2.1 (if cs.contains u.1 then 1 else 0) row.length (if 1<crowd ws u.1 then 1 else 0)
theorem yv{ws:List Wk}{a:Nat}{S:Sto}{c:Option D}{Q:List D×Ev×Sto->Prop}(h:∀ b,Q ((ws.filter fun u=>u.1 == a).map gX,b,S)):
  W (fK [] (gN 0) (mB (m2 (b2 wT) (m2 (b2 dZ) (mV 0) (mC (D.int (0)))) (mV 1))) (eD (mV 0)) (eQ ws) [c,Z (.int a)] S) Q:=by
 refine jK (λu:Wk=>u.1 == a) gX (λr=>∃x,r=[x,Z (.int a)]) O ws _ ⟨_,O⟩ ?_ λb _=>h b;rintro u d r ⟨x,rfl⟩;walk_at"w";refine hM (i:=0) O ?_;walk_at"w";refine⟨?_,⟨_,O⟩,λ_=>trivial⟩;rw[bQ,beq_iff_eq,beq_iff_eq];lia
theorem I7 {w x y z:D}{S:Sto}{r:Ev}{m1 m2 a b:FE}{Q:D×Sto->Prop}(h1:m1 r S=some (w,S))(h2:m2 r S=some (x,S))(d:a r S=some (y,S))(c:b r S=some (z,S))
  (q:Q (.ref S.length,S++[.dct [(.inr "came",w),(.inr "chalk",x),(.inr "doors",y),(.inr "others",z)]])):
  W (wx [(mC (.str "came"),m1),(mC (.str "chalk"),m2),(mC (.str "doors"),a),(mC (.str "others"),b)] r S) Q:=by
 refine W.of ?_ q;simp only[wx,Db,mC,h1,h2,d,c,oS1,oP1,wI,tz];rfl
theorem Dq {w x y z:D}{S:Sto}{n:Nat}(h:S[n]? = some (.dct [(.inr "came",w),(.inr "chalk",x),(.inr "doors",y),(.inr "others",z)])):
  dZ (.ref n) (.str "came") S=Z (w,S)/\dZ (.ref n) (.str "chalk") S=Z (x,S)/\dZ (.ref n) (.str "doors") S=Z (y,S)/\dZ (.ref n) (.str "others") S=Z (z,S):=by
 refine⟨?_,?_,?_,?_⟩<;>(simp only[dZ,h,mP,tz,oS1];rfl)
noncomputable def vv:Nat->D
 |0=>.str "came" |1=>.str "chalk" |2=>.str "doors" |_=>.str "others"
noncomputable def jS(a b c d:Bool)(w x y z:Int):Nat->D
 |0=>if a then .int w else .non
 |1=>if b then .int x else .non
 |2=>if c then .int y else .non
 |_=>if d then .int z else .non
theorem CJ {a b c d:Bool}{w x y z:Int}{S:Sto}{n:Nat}(h:S[n]? = some (.dct [(.inr "came",.int w),(.inr "chalk",.int x),(.inr "doors",.int y),(.inr "others",.int z)])){i:Nat}(hi:i∈[0,1,2,3]){r:Ev}{f j g:Nat}
  (h1:r[f]?=Z (Z (vv i))) (h2:r[j]?=Z (Z (.tup (gj a b c d)))) (e:r[g]?=Z (Z (.ref n))):
  Az (mB (m2 (b2 iT) (mV f) (mV j))) (m2 (b2 dZ) (mV g) (mV f)) (mC D.non) r S=Z (jS a b c d w x y z i,S):=by
 obtain⟨k,l,m,o⟩:=Dq h;simp only[aF,bM,or_false]at hi;rcases hi with rfl|rfl|rfl|rfl
 ·cases a<;>simp only[Az,mB,m2,b2,mV,h1,h2,e,vv,oS1,Dw,k,jS,mC]<;>rfl
 ·cases b<;>simp only[Az,mB,m2,b2,mV,h1,h2,e,vv,oS1,AO,l,jS,mC]<;>rfl
 ·cases c<;>simp only[Az,mB,m2,b2,mV,h1,h2,e,vv,oS1,AN,m,jS,mC]<;>rfl
 ·cases d<;>simp only[Az,mB,m2,b2,mV,h1,h2,e,vv,oS1,yo,o,jS,mC]<;>rfl
theorem tq{w:ev}{ws:List Wk}{cs:List Nat}{a b c d:Bool}{k:Nat}{u:Wk}{row:List (Nat×Nat)}{S:Sto}{Q:D×Sto->Prop}(n:ws[k]? = Z u)(hr:w[u.1]? = Z row)(t:ws.length<=1000)(q:Q (zx a b c d ws cs u row,S)):W (dW 4 fc [webD w,.tup (gj a b c d),ed ws cs,.int k] S) Q:=by
 refine hH O (by simp[D.unds,ku,lH];rw[D.und];exact⟨ox a b c d,O⟩) ?_;unfold fc;refine mQ ?_;unfold lp;have g:∀(S:Sto) (Q:D×Sto->Prop),Q (.tup (eQ ws),S)->W (dZ (ed ws cs) (.int 0) S) Q:=λS Q q=>hM (i:=0) O q;have m:∀(S:Sto),dZ (ed ws cs) (.int 1) S=Z (.tup (fy cs),S):=λS=>by
  obtain⟨p,e,h⟩:W (dZ (ed ws cs) (.int 1) S) λp=>p=(.tup (fy cs),S):=hM (i:=1) O O;rw[e,h]
 refine eW (λr S=>S=[]/\r=[Z (webD w),Z (.tup (gj a b c d)),Z (ed ws cs),Z (.int k),Z (.int u.1),Z (.int u.2.1),Z (.int u.2.2),Y,Y]) ?_ ?_
 ·walk_at"w";refine g _ _ ?_;refine hM (i:=k) (x:=gX u) (by rw[eQ,gP1,n];rfl) ?_;rw[gX];walk_at"w"
 rintro r S ⟨rfl,rfl⟩;refine eW (λr S=>r=[Z (webD w),Z (.tup (gj a b c d)),Z (ed ws cs),Z (.int k),Z (.int u.1),Z (.int u.2.1),Z (.int u.2.2),Z (.int (crowd ws u.1)),Y]) ?_ ?_
 ·walk_at"w";refine g _ _ ?_;rw[gL];refine yv λj=>?_;walk_at"w";have:=di (λv:Wk=>v.1 == u.1) ws;have h2:((ws.filter λv:Wk=>v.1 == u.1).map gX).length<=100000:=by rw[lM1];lia
  refine⟨ea h2,?_⟩;refine eI (xs:=(ws.filter λv:Wk=>v.1 == u.1).map gX) O ?_;rw[lM1];rfl
 rintro r f rfl;refine eW (λr S=>S=f++[.dct [(.inr "came",.int u.2.1),(.inr "chalk",.int (if cs.contains u.1 then 1 else 0)),(.inr "doors",.int row.length),(.inr "others",.int (if 1<crowd ws u.1 then 1 else 0))]]/\r=[Z (webD w),Z (.tup (gj a b c d)),Z (ed ws cs),Z (.int k),Z (.int u.1),Z (.int u.2.1),Z (.int u.2.2),Z (.int (crowd ws u.1)),Z (.ref f.length)]) ?_ ?_
 ·unfold eA;rw[ec];refine I7 (w:=.int u.2.1) (x:=.int (if cs.contains u.1 then 1 else 0)) (y:=.int row.length) (z:=.int (if 1<crowd ws u.1 then 1 else 0)) O ?_ ?_ ?_ ?_
  ·simp only[mN,dU,dV,b1,m2,b2,mV,gC1,dg,oS1,m,Eg,mC,oZ]
  ·obtain⟨p,e,rfl⟩:W (dZ (webD w) (.int u.1) f) λp=>p=(.tup (row.map pD),f):=Er hr O;simp only[mN,dU,dV,m2,b1,b2,mV,gC1,dg,oS1,e,jH,lM1]
  ·simp only[mN,dU,dV,m2,b1,b2,mV,mC,gC1,dg,oS1,iC,oZ];by_cases h1:1<crowd ws u.1
   ·rw[ak h1,ak (by rw[al];lia)]
   ·rw[aj h1,aj (by rw[al];lia)]
  ·walk_at"w"
 rintro r S ⟨rfl,rfl⟩;generalize l:f++[Ob.dct [(.inr "came",.int u.2.1),(.inr "chalk",.int (if cs.contains u.1 then 1 else 0)),(.inr "doors",.int row.length),(.inr "others",.int (if 1<crowd ws u.1 then 1 else 0))]]=S2;have o:S2[f.length]?=Z (Ob.dct [(.inr "came",.int u.2.1),(.inr "chalk",.int (if cs.contains u.1 then 1 else 0)),(.inr "doors",.int row.length),(.inr "others",.int (if 1<crowd ws u.1 then 1 else 0))]):=by rw[<- l,eK];rfl
 walk_at"w";have s:([D.str "came",D.str "chalk",D.str "doors",D.str "others"]:List D)=[0,1,2,3].map vv:=rfl;rw[gL,s];refine n0 (jS a b c d u.2.1 (if cs.contains u.1 then 1 else 0) row.length (if 1<crowd ws u.1 then 1 else 0)) (λr=>∃x,r=[x,Z (.tup (gj a b c d)),Z (.ref f.length)]) O _ _ ⟨_,O⟩ ?_ ?_
 ·rintro i hi r ⟨x,rfl⟩;refine⟨([Z (vv i),Z (.tup (gj a b c d)),Z (.ref f.length)],S2),O,?_⟩;refine⟨(M,S2),O,O,?_⟩;exact⟨_,CJ o hi O O O,O,O,_,O⟩
 ·rintro j _;walk_at"w";refine eI (xs:=[jS a b c d u.2.1 (if cs.contains u.1 then 1 else 0) row.length (if 1<crowd ws u.1 then 1 else 0) 0,jS a b c d u.2.1 (if cs.contains u.1 then 1 else 0) row.length (if 1<crowd ws u.1 then 1 else 0) 1,jS a b c d u.2.1 (if cs.contains u.1 then 1 else 0) row.length (if 1<crowd ws u.1 then 1 else 0) 2,jS a b c d u.2.1 (if cs.contains u.1 then 1 else 0) row.length (if 1<crowd ws u.1 then 1 else 0) 3]) (by rw[eK];rfl) ?_;exact⟨xH,q⟩
noncomputable def pt(b:Bool)(x:Nat):D:=if b=M then .int x else .non
noncomputable def Jy(a b c d:Bool)(x y z w:Nat):D:=.tup [pt a x,pt b y,pt c z,pt d w]
noncomputable def iA:List D:=[.str "leave",.str "mark",.str "wipe"]
noncomputable def im:List D:=[.non,.int 0,.int 1,.int 2,.int 3]
structure gm (x:D):Prop where
 is:∃m h t,x = .tup [.int (m:Nat),h,t]/\m<4000/\h∈iA/\t∈im
theorem gm.und{x:D}(h:gm x):x.und 0=M:=by
 obtain⟨m,x,t,rfl,_,h1,h2⟩:=h.is;have a:x.und 0=M:=by simp[iA]at h1;rcases h1 with z|z|z<;>subst z<;>rfl
 have b:t.und 0=M:=by simp[im]at h2;rcases h2 with z|z|z|z|z<;>subst z<;>rfl
 simp[D.und,D.unds,a,b]
noncomputable def cx(b:Bool)(x:Nat):Nat:=if b=M then x else 0
noncomputable def kl:List Bool->List Nat->Nat
 |b::bs,x::xs=>cx b x*8^bs.length+kl bs xs
 |_,_=>0
theorem l7:∀{bs:List Bool} {xs:List Nat},(∀x∈xs,x<=7)->kl bs xs<8^bs.length
 |[],_,_=>by rw[kl];simp;simp
 |b::bs,[],_=>by
  rw[kl]
  ·exact Nat.pos_of_ne_zero (by simp)
  ·simp
 |b::bs,x::xs,h=>by
  have h1:=l7 (bs:=bs) λy a=>h y (mC1 _ a);have h2:cx b x<=7:=by unfold cx;split;exact h x mS1;lia
  rw[kl,lC1,Nat.pow_succ];have c:cx b x*8^bs.length<=7*8^bs.length:=dj _ h2;lia
theorem Hu{S:Sto}{n:Nat}{xs ys:List D}:fU S (n+1) (.tup xs) (.tup ys)=lj (fU S n) xs ys:=by
 rw[fU];simp[d4]
theorem Kq{S:Sto}{n:Nat}{xs ys:List D}:ka S (n+1) (.tup xs) (.tup ys)=oX (fU S n) (ka S n) xs ys:=by
 rw[ka];simp[JE,d4]
theorem El{S:Sto}{n:Nat}{b:Bool}{x y:Nat}:fU S (n+1) (pt b x) (pt b y)=Z (decide (cx b x=cx b y)):=by
 cases b with
 |false=>rfl
 |true=>
  show Z ((x:Int) == (y:Int))=Z (decide (x=y))
  congr 1
  rw[bQ,beq_iff_eq,al];lia
theorem IE{S:Sto}{n:Nat}{b:Bool}{x y:Nat}(h:cx b x≠cx b y):ka S (n+1) (pt b x) (pt b y)=Z (decide (cx b x<cx b y)):=by
 cases b with
 |false=>exact absurd O h
 |true=>
  show Z (decide ((x:Int)<(y:Int)))=Z (decide (x<y))
  congr 1
  rw[bQ,al,al];omega
theorem JN{A B P u v:Nat}(a:u<P)(hv:v<P):(A*P+u=B*P+v↔A=B/\u=v)/\(A*P+u<B*P+v↔A<B\/(A=B/\u<v)):=by
 rcases Nat.lt_trichotomy A B with h|h|h
 ·have:=dj P (show A+1<=B from h);rw[Nat.succ_mul]at this;constructor<;>lia
 ·subst h;constructor<;>lia
 ·have:=dj P (show B+1<=A from h);rw[Nat.succ_mul]at this;constructor<;>lia
theorem vw{S:Sto}{n:Nat}:∀ {bs:List Bool} {xs ys:List Nat},xs.length=bs.length->ys.length=bs.length->(∀ x∈xs,x<=7)->(∀ y∈ys,y<=7) ->
  lj (fU S (n+1)) (dk pt bs xs) (dk pt bs ys)=Z (decide (kl bs xs=kl bs ys))
 |[],xs,ys,_,_,_,_=>by simp[lj,kl]
 |b::bs,[],ys,h,_,_,_=>by simp at h
 |b::bs,x::xs,[],_,h,_,_=>by simp at h
 |b::bs,x::xs,y::ys,h1,h2,hx,hy=>by
  have ih:=vw (S:=S) (n:=n) (bs:=bs) (xs:=xs) (ys:=ys) (by simpa using h1) (by simpa using h2) (λz a=>hx z (mC1 _ a)) (λz a=>hy z (mC1 _ a));have b1:=l7 (bs:=bs) (xs:=xs) λz a=>hx z (mC1 _ a);have b2:=l7 (bs:=bs) (xs:=ys) λz a=>hy z (mC1 _ a);rw[dq,dq,lj,El,ih,kl,kl];have c:=(JN (A:=cx b x) (B:=cx b y) b1 b2).1;rw[oS1,oP1]
  congr 1
  rw[bQ,bA1,al,al,al];exact c.symm
theorem AB{S:Sto}{n:Nat}:∀ {bs:List Bool} {xs ys:List Nat},xs.length=bs.length->ys.length=bs.length->(∀ x∈xs,x<=7)->(∀ y∈ys,y<=7) ->
  oX (fU S (n+1)) (ka S (n+1)) (dk pt bs xs) (dk pt bs ys)=Z (decide (kl bs xs<kl bs ys))
 |[],xs,ys,_,_,_,_=>by simp[oX,kl]
 |b::bs,[],ys,h,_,_,_=>by simp at h
 |b::bs,x::xs,[],_,h,_,_=>by simp at h
 |b::bs,x::xs,y::ys,h1,h2,hx,hy=>by
  have ih:=AB (S:=S) (n:=n) (bs:=bs) (xs:=xs) (ys:=ys) (by simpa using h1) (by simpa using h2) (λz a=>hx z (mC1 _ a)) (λz a=>hy z (mC1 _ a));have b1:=l7 (bs:=bs) (xs:=xs) λz a=>hx z (mC1 _ a);have b2:=l7 (bs:=bs) (xs:=ys) λz a=>hy z (mC1 _ a);have c:=(JN (A:=cx b x) (B:=cx b y) b1 b2).2;rw[dq,dq,oX,El,oS1,kl,kl];by_cases z:cx b x=cx b y
  ·rw[ak (ah z),ih]
   congr 1
   rw[bQ,al,al];lia
  ·rw[aj (by rw[al];exact z),IE z]
   congr 1
   rw[bQ,al,al];lia
structure Ky where
 m:Nat
 x:Nat
 y:Nat
 z:Nat
 w:Nat
structure Ky.Ok (k:Ky):Prop where
 m:k.m<4000
 x:k.x<=4
 y:k.y<=4
 z:k.z<=4
 w:k.w<=4
abbrev E4:=Bool×Bool×Bool×Bool
noncomputable def E4.bs(e:E4):List Bool:=[e.1,e.2.1,e.2.2.1,e.2.2.2]
noncomputable def Ky.xs(k:Ky):List Nat:=[k.x,k.y,k.z,k.w]
noncomputable def Ed(b:Bool)(x:Nat):TK:=if b=M then .int x else .non
noncomputable def Ky.sg(k:Ky)(e:E4):D:=Jy e.1 e.2.1 e.2.2.1 e.2.2.2 k.x k.y k.z k.w
noncomputable def Ky.d(k:Ky)(e:E4):D:=.tup [.int k.m,k.sg e]
noncomputable def Ky.tk(k:Ky)(e:E4):TK:=.tup [.int k.m,.tup [Ed e.1 k.x,Ed e.2.1 k.y,Ed e.2.2.1 k.z,Ed e.2.2.2 k.w]]
noncomputable def Ky.code(k:Ky)(e:E4):Nat:=k.m*4096+kl e.bs k.xs
theorem Ky.keyT(k:Ky)(e:E4):Mi.keyT (k.d e)=Z (k.tk e):=by
 obtain⟨a,b,c,d⟩:=e;cases a<;>cases b<;>cases c<;>cases d<;>rfl
theorem Ky.tkD(k:Ky)(e:E4):Mi.tkD (k.tk e)=k.d e:=(wJ (k.keyT e)).1
theorem Ky.sg_zip(k:Ky)(e:E4):k.sg e = .tup (dk pt e.bs k.xs):=rfl
theorem Ky.Ok.all{k:Ky}(h:k.Ok):∀x∈k.xs,x<=7:=by
 intro x a;have:=h.x;have:=h.y;have:=h.z;have:=h.w
 simp[Ky.xs]at a;lia
theorem jn{k:Ky}(h:k.Ok)(e:E4):kl e.bs k.xs<4096:=l7 (bs:=e.bs) h.all
theorem Ky.eq{k l:Ky}{e:E4}{S:Sto}{n:Nat}(hk:k.Ok)(a:l.Ok):fU S (n+3) (k.d e) (l.d e)=Z (decide (k.code e=l.code e)):=by
 have b:fU S (n+2) (.int k.m) (.int l.m)=Z ((k.m:Int) == (l.m:Int)):=rfl;have c:fU S (n+2) (k.sg e) (l.sg e)=Z (decide (kl e.bs k.xs=kl e.bs l.xs)):=by rw[Ky.sg_zip,Ky.sg_zip,Hu,vw O O hk.all a.all]
 unfold Ky.d Ky.code;rw[Hu,lj,b,oS1,lj,c,lj];have d:=(JN (A:=k.m) (B:=l.m) (jn hk e) (jn a e)).1;show Z (((k.m:Int) == (l.m:Int))&&(decide (kl e.bs k.xs=kl e.bs l.xs)&&M))=_
 congr 1
 rw[bQ,bN,bA1,al,al,beq_iff_eq,d];lia
theorem Ky.lt{k l:Ky}{e:E4}{S:Sto}{n:Nat}(hk:k.Ok)(a:l.Ok):ka S (n+3) (k.d e) (l.d e)=Z (decide (k.code e<l.code e)):=by
 have f:fU S (n+2) (.int k.m) (.int l.m)=Z ((k.m:Int) == (l.m:Int)):=rfl;have g:ka S (n+2) (.int k.m) (.int l.m)=Z (decide ((k.m:Int)<(l.m:Int))):=rfl;have c:fU S (n+2) (k.sg e) (l.sg e)=Z (decide (kl e.bs k.xs=kl e.bs l.xs)):=by rw[Ky.sg_zip,Ky.sg_zip,Hu,vw O O hk.all a.all]
 have d:ka S (n+2) (k.sg e) (l.sg e)=Z (decide (kl e.bs k.xs<kl e.bs l.xs)):=by rw[Ky.sg_zip,Ky.sg_zip,Kq,AB O O hk.all a.all]
 unfold Ky.d Ky.code;have h:=(JN (A:=k.m) (B:=l.m) (jn hk e) (jn a e)).2;rw[Kq,oX,f,oS1];by_cases z:k.m=l.m
 ·rw[ak (by rw[beq_iff_eq];lia),oX,c,oS1];by_cases b:kl e.bs k.xs=kl e.bs l.xs
  ·rw[ak (ah b),oX]
   congr 1
   rw[eq_comm,decide_eq_false_iff_not];lia
  ·rw[aj (by rw[al];exact b),d]
   congr 1
   rw[bQ,al,al];lia
 ·rw[aj (by rw[beq_iff_eq];lia),g]
  congr 1
  rw[bQ,al,al];lia
theorem Ky.und(k:Ky)(e:E4)(n:Nat):(k.d e).und n=M:=by
 rw[<- k.tkD e];exact uF _
theorem Ky.sgu(k:Ky)(e:E4)(n:Nat):(k.sg e).und n=M:=by
 have:=k.und e n;unfold Ky.d at this;simp only[D.und,D.unds,bN,Bool.true_and]at this;exact this
noncomputable def dO(F:List (TK×D)):Ob:=match F with
 |[]=>.dct []
 |_=>.dcT F
theorem Ja{F:List (TK×D)}(h:F≠[]):dO F = .dcT F:=by
 cases F with
 |nil=>exact absurd O h
 |cons _ _=>rfl
structure RW (e:E4)(F:List (TK×D)):Prop where
 row:∀p∈F,∃k:Ky,k.Ok/\p.1=k.tk e/\gm p.2
 nd:(F.map (·.1)).Nodup
theorem RW.und{e:E4}{F:List (TK×D)}(h:RW e F)(n:Nat):(dO F).und n=M:=by
 have:D.unds n (F.map (·.2))=M:=Mi.eO λp a=>by
  obtain⟨_,_,_,b⟩:=h.row p a;exact fC b.und
 cases F with
 |nil=>rfl
 |cons _ _=>exact this
theorem HV{e:E4}{F:List (TK×D)}{k:Ky}{x:D}{n:Nat}{S:Sto}(b:S[n]?=Z (dO F))(c:F.length<=100000):jj (.ref n) (k.d e) x S=Z (.non,S.set n (dO (fi F (k.tk e) x))):=by
 cases F with
 |nil=>
  have a:S[n]?=Z (.dct []):=b;simp only[jj,a,k.keyT e];rfl
 |cons p F=>
  have a:S[n]?=Z (.dcT (p::F)):=b;rw[Ja Ff];simp only[jj,a,k.keyT e,oS1];rw[ak (bI c (by decide))]
abbrev Rw:=Ky×D
noncomputable def eF(e:E4)(p:Rw):D:=.tup [p.1.d e,p.2]
def gZ(p:Rw):Prop:=p.1.Ok/\gm p.2
theorem RW.list{e:E4}:∀{F:List (TK×D)},(∀p∈F,∃k:Ky,k.Ok/\p.1=k.tk e/\gm p.2) -> ∃L:List Rw,L.map (λp=>(p.1.tk e,p.2))=F /\ ∀p∈L,gZ p
 |[],_=>⟨[],O,λp a=>by cases a⟩
 |x::F,h=>by
  obtain⟨L,h1,h2⟩:=RW.list (F:=F) λp a=>h p (mC1 _ a);obtain⟨k,d,b,c⟩:=h x mS1;refine⟨(k,x.2)::L,by rw[mP1,h1,<- b],λp a=>?_⟩;rcases aF.mp a with z|z
  ·subst z;exact⟨d,c⟩
  ·exact h2 p z
theorem Fh(b:Bool)(x:Nat):Ed b x=if b=M then .int (cx b x)else .non:=by unfold Ed cx;cases b<;>rfl
theorem qi{b:Bool}{x y:Nat}(h:Ed b x=Ed b y):cx b x=cx b y:=by
 cases b with
 |false=>rfl
 |true=>
  have h':TK.int (x:Int)=TK.int (y:Int):=h;injection h' with h';exact(by lia:x=y)
theorem Jb(a b c d x y z w:_):kl [a,b,c,d] [x,y,z,w]=((cx a x*8+cx b y)*8+cx c z)*8+cx d w:=by
 simp only[kl,lC1,bf];lia
theorem kA{k l:Ky}{e:E4}(hk:k.Ok)(g:l.Ok):k.tk e=l.tk e↔k.code e=l.code e:=by
 obtain⟨a,b,c,d⟩:=e;have o:k.code (a,b,c,d)=k.m*4096+(((cx a k.x*8+cx b k.y)*8+cx c k.z)*8+cx d k.w):=by unfold Ky.code;rw[<- Jb];rfl
 have n:l.code (a,b,c,d)=l.m*4096+(((cx a l.x*8+cx b l.y)*8+cx c l.z)*8+cx d l.w):=by unfold Ky.code;rw[<- Jb];rfl
 have f:∀(b:Bool) (x:Nat),x<=4->cx b x<=4:=λb x h=>by unfold cx;split<;>lia
 rw[o,n];constructor
 ·intro h;unfold Ky.tk at h;injection h with h;injection h with h1 h2;injection h1 with h1;injection h2 with h2 _;injection h2 with h2;injection h2 with q h2;injection h2 with p2 h2;injection h2 with j h2;injection h2 with i _;rw[qi q,qi p2,qi j,qi i,show k.m=l.m by lia]
 ·intro h;have v:=f a _ hk.x;have w:=f b _ hk.y;have z:=f c _ hk.z;have u:=f d _ hk.w
  have A:=f a _ g.x;have r2:=f b _ g.y;have y:=f c _ g.z;have B:=f d _ g.w
  have r:k.m=l.m:=by lia
  have t:cx a k.x=cx a l.x:=by lia
  have s:cx b k.y=cx b l.y:=by lia
  have m:cx c k.z=cx c l.z:=by lia
  have p:cx d k.w=cx d l.w:=by lia
  unfold Ky.tk;simp only[Fh,r,t,s,m,p]
def BK(e:E4)(L:List Rw):Prop:=L.Pairwise λp q=>p.1.code e<q.1.code e
theorem iU{α:Type}{p q:α->Bool}:∀{l:List α},(∀x∈l,p x=q x)->l.find? p=l.find? q
 |[],_=>rfl
 |a::l,h=>by
  rw[bc,bc,h a mS1,iU λx b=>h x (mC1 _ b)]
theorem iD{α:Type}{f:α->Nat}{c:Nat}{a:α}:∀{l:List α},(l.map f).Nodup->((l.find? λx=>decide (f x=c))=Z a↔a∈l/\f a=c)
 |[],_=>by simp
 |b::l,nd=>by
  rw[mP1,aO]at nd;rw[bc];by_cases z:f b=c
  ·rw[ah z];constructor
   ·intro h;cases h;exact⟨mS1,z⟩
   ·rintro⟨h1,h2⟩;rcases aF.mp h1 with y|y
    ·rw[y]
    ·exact absurd (cc.mpr ⟨a,y,h2.trans z.symm⟩) nd.1
  ·rw[ai z];show(l.find? λx=>decide (f x=c))=Z a↔_;rw[iD nd.2];constructor
   ·rintro⟨h1,h2⟩;exact⟨mC1 _ h1,h2⟩
   ·rintro⟨h1,h2⟩;rcases aF.mp h1 with y|y
    ·rw[y]at h2;exact absurd h2 z
    ·exact⟨y,h2⟩
theorem yu{α:Type}{f:α->Nat}{c:Nat}{l m:List α}(p:l.Perm m)(nd:(m.map f).Nodup):(l.find? λx=>decide (f x=c))=m.find? λx=>decide (f x=c):=by
 have b:(l.map f).Nodup:=(p.map f).nodup_iff.mpr nd;apply Option.ext;intro a;rw[iD b,iD nd,p.mem_iff]
theorem i6{e:E4}{L:List Rw}(ok:∀p∈L,gZ p)(n:Nat):(D.tup (L.map (eF e))).und n=M:=by
 rw[D.und];refine Mi.eO λp a=>?_;have h1:=p.1.und e n;have h2:=fC (n:=n) (ok p a).2.und;simp[eF,D.und,D.unds,h1,h2]
theorem BK.nd{e:E4}:∀{L:List Rw},BK e L->(L.map λp=>p.1.code e).Nodup:=λh=>
 df.mpr (List.Pairwise.imp (λz=>nN1 z) h)
noncomputable def Bf(k:Ky):D:=.tup [.int k.m,.str "leave",.non]
noncomputable def mR(e:E4)(L:List Rw)(k:Ky):D:=((L.find? λp=>decide (p.1.code e=k.code e)).map (·.2)).getD (Bf k)
noncomputable def dm:D->Nat
 | .tup [.int m,_,_]=>m.toNat
 |_=>0
noncomputable def dh:D->Str
 | .tup [_,.str h,_]=>h
 |_=>""
noncomputable def dt:D->Option Nat
 | .tup [_,_,.int t]=>Z t.toNat
 |_=>Y
noncomputable def tD:Option Nat->D
 |none=>.non
 |some t=>.int (t:Nat)
theorem gm.eta{x:D}(h:gm x):x = .tup [.int (dm x:Nat),.str (dh x),tD (dt x)]/\dm x<4000:=by
 obtain⟨m,y,t,rfl,a,h1,h2⟩:=h.is;simp only[iA,aF,bM,or_false]at h1;simp only[im,aF,bM,or_false]at h2;rcases h1 with e|e|e<;>subst e<;>rcases h2 with e|e|e|e|e<;>subst e<;>exact⟨O,a⟩
noncomputable def eY(w:ev)(u:Wk)(x:D):Wk:=match dt x with
 |some t=>match (w[u.1]?).bind (·[t]?)with
  |some p=>(p.1,p.2+1,dm x)
  |none=>(u.1,u.2.1,dm x)
 |none=>(u.1,u.2.1,dm x)
theorem Dp{x:D}(h:gm x)(S:Sto):dZ x (.int 1) S=Z (.str (dh x),S):=by
 have e:=h.eta.1;generalize dm x=a at e;generalize dt x=c at e;generalize dh x=b at *
 subst e;rfl
theorem Dn{u:Wk}{S:Sto}:dZ (gX u) (.int 0) S=Z (.int u.1,S):=rfl
theorem wK{u:Wk}{S:Sto}:dZ (gX u) (.int 2) S=Z (.int u.2.2,S):=rfl
noncomputable def ie(ws:List Wk)(dd:Wk->D)(h:Str)(r:Nat):Bool:=ws.any λu=>u.1 == r&&dh (dd u) == h
noncomputable def eh(m:Nat)(ws:List Wk)(dd:Wk->D)(cs:List Nat):List Nat:=(af m).filter λr=>ie ws dd "mark" r||(cs.contains r && !ie ws dd "wipe" r)
theorem F1(a b:List Nat):fy a++fy b=fy (a++b):=by simp[fy]
noncomputable def eyD(e:E4):D:=.tup (gj e.1 e.2.1 e.2.2.1 e.2.2.2)
theorem gF(e:E4):(eyD e).und 0=M:=by unfold eyD;rw[D.und];exact ox _ _ _ _
noncomputable def mcD(e:E4)(L:List Rw):D:=.tup [eyD e,.tup (L.map (eF e))]
theorem ng{e:E4}{L:List Rw}(ok:∀p∈L,gZ p):(mcD e L).und 0=M:=by
 have h1:=gF e;have h2:=i6 (e:=e) ok 0;unfold mcD;rw[D.und,D.unds,D.unds,h1,h2];rfl
theorem GU{e:E4}{L:List Rw}{k:Ky}(ok:∀p∈L,gZ p)(hk:k.Ok):gm (mR e L k):=by
 unfold mR;cases h:L.find? λp=>decide (p.1.code e=k.code e)with
 |none=>exact⟨k.m,_,_,O,hk.m,by simp[iA],by simp[im]⟩
 |some p=>exact(ok p (dr h)).2
noncomputable def ky(w:ev)(ws:List Wk)(cs:List Nat)(u:Wk):Ky:=⟨u.2.2,u.2.1,if cs.contains u.1 then 1 else 0,((w[u.1]?).getD []).length,if 1<crowd ws u.1 then 1 else 0⟩
theorem vZ{w:ev}{ws:List Wk}{cs:List Nat}{u:Wk}{row:List (Nat×Nat)}{e:E4}(h:w[u.1]?=Z row):zx e.1 e.2.1 e.2.2.1 e.2.2.2 ws cs u row=(ky w ws cs u).sg e:=by
 have a:∀b:Bool,((if b=M then 1 else 0:Nat):Int)=if b=M then(1:Int)else 0:=λb=>by cases b<;>rfl
 have c:((if 1<crowd ws u.1 then 1 else 0:Nat):Int)=if 1<crowd ws u.1 then(1:Int)else 0:=by split<;>rfl
 unfold zx uP Ky.sg Jy ky pt;rw[h];dsimp only;rw[a,c];rfl
structure iZ (m:Nat)(w:ev)(ws:List Wk)(cs:List Nat):Prop where
 web:oN m w
 m8:m<=8
 few:ws.length<=8
 cl:cs.length<=8
 wk:∀u∈ws,∃row,w[u.1]?=some row/\u.2.1<=row.length/\u.2.2<4000
 ch:∀r∈cs,r<m
theorem iZ.ky{m:Nat}{w:ev}{ws:List Wk}{cs:List Nat}(h:iZ m w ws cs):∀u∈ws,(ky w ws cs u).Ok:=λu b=>by
 obtain⟨a,e,h1,h2⟩:=h.wk u b;have c:=h.web.le a (gM1 e);refine⟨h2,?_,?_,?_,?_⟩
 ·show u.2.1<=4;lia
 ·show(if cs.contains u.1 then 1 else 0)<=4;split<;>lia
 ·show((w[u.1]?).getD []).length<=4;rw[e];exact c
 ·show(if 1<crowd ws u.1 then 1 else 0)<=4;split<;>lia
noncomputable def ddW(w:ev)(ws:List Wk)(cs:List Nat)(e:E4)(L:List Rw)(u:Wk):D:=mR e L (ky w ws cs u)
noncomputable def jo(m:Nat)(w:ev)(ws:List Wk)(cs:List Nat)(e:E4)(L:List Rw):D:=ed (ws.map λu=>eY w u (ddW w ws cs e L u)) (eh m ws (ddW w ws cs e L) cs)
theorem rJ{S:Sto}{n:Nat}{x:Str}:∀a:List Str,BP (fU S (n+1)) (.str x) (a.map D.str)=Z (a.contains x)
 |[]=>rfl
 |c::a=>by
  have d:fU S (n+1) (.str c) (.str x)=Z (c == x):=rfl;have b:(c == x)=(x == c):=by rw[bQ,beq_iff_eq,beq_iff_eq];exact eq_comm
  rw[mP1,BP,d,b,rJ a,List.contains_cons];rfl
theorem Dv{S:Sto}{x:Str}{n:Nat}{cs:List Str}(h:S[n]?=Z (.lst (cs.map D.str))):iT (.str x) (.ref n) S=Z (.bl (cs.contains x),S):=by
 simp only[iT,vn,Ht,h,d4,oS1,eL,show(60:Nat)=59+1 from rfl,rJ,oP1]
theorem u6{S:Sto}{x:Str}{n:Nat}{cs:List Str}(h:S[n]?=Z (.lst (cs.map D.str))):gp (.str x) (.ref n) S=Z (.bl (!cs.contains x),S):=by
 simp only[gp,jJ,ot,h,d4,oS1,eL,show(60:Nat)=59+1 from rfl,rJ,oP1]
noncomputable def oY(ws:List Wk)(dd:Wk->D)(r:Nat):List Str:=(ws.filter λu=>u.1 == r).map λu=>dh (dd u)
theorem Dx{ws:List Wk}{dd:Wk->D}{r:Nat}{h:Str}:(oY ws dd r).contains h=ie ws dd h r:=by
 unfold oY ie;rw[bQ,cN,cc,bR];constructor
 ·rintro⟨u,b,e⟩;obtain⟨h1,h2⟩:=aA.mp b;exact⟨u,h1,by rw[h2,e];simp⟩
 ·rintro⟨u,b,e⟩;rw[bA1,beq_iff_eq (a:=dh (dd u))]at e;exact⟨u,aA.mpr ⟨b,e.1⟩,e.2⟩
theorem nv{ws:List Wk}{cs:List Nat}{S:Sto}:dZ (ed ws cs) (.int 0) S=Z (.tup (eQ ws),S):=rfl
theorem y2{ws:List Wk}{cs:List Nat}{S:Sto}:dZ (ed ws cs) (.int 1) S=Z (.tup (fy cs),S):=rfl
theorem yE{m:Nat}{w:ev}{ws:List Wk}{cs:List Nat}{dd:Wk->D}{n:Nat}{S:Sto}{Q:D×Sto->Prop}(z:w.length=m)(hm:m<=8)(hd:∀ u∈ws,gm (dd u))(U:ws.length<=8)(F:S[n]? = Z (.lst (ws.map dd)))(A:S.all (Ob.und S.length)=M)(q:Q (.tup (fy (eh m ws dd cs)),S)):W (dW 3 fG [webD w,ed ws cs,.ref n] S) Q:=by
 refine oD O (by simp[D.unds,D.und]) ?_;unfold fG;refine mQ ?_;unfold js;have au:=(gE1.mp F).1;refine eW (λr V=>V=S++[.lst (fy [])]/\r=[Z (webD w),Z (ed ws cs),Z (.ref n),Z (.ref S.length),Y,Y]) ?_ ?_
 ·walk_at"w";exact⟨O,trivial⟩
 rintro r V ⟨P,rfl⟩;refine eW (λr V=>∃G c a,V=S ++ .lst (fy (eh m ws dd cs))::G/\r=[Z (webD w),Z (ed ws cs),Z (.ref n),Z (.ref S.length),c,a]) ?_ ?_
 ·((try walk_at"w");repeat(simp only[wB];try walk_at"w"))
  rw[mw,Int.toNat_natCast,z];refine⟨gt (by lia),?_⟩;refine gn (λi r V=>∃G c a,i<=m/\V=S ++ .lst (fy (eh i ws dd cs))::G/\r=[Z (webD w),Z (ed ws cs),Z (.ref n),Z (.ref S.length),c,a]) _ 0 _ _ ⟨[],_,_,by lia,P,O⟩ (λ_ _ _ _=>rfl) ?_ ?_
  ·rintro i d j r B ⟨G,c,a,hi,rfl,rfl⟩;have t:=(gE1.mp j).1;rw[lM1,dw]at t;rw[cY]at *
   have v:d = .int (i:Nat):=by
    rw[gP1,cI t]at j;exact(Option.some.inj j).symm
   subst v;walk_at"w";unfold iw;have H:(S++Ob.lst (fy (eh i ws dd cs))::G)[n]?=Z (.lst (ws.map dd)):=by rw[gL1 au];exact F
   have I:(S++Ob.lst (fy (eh i ws dd cs))::G)[S.length]?=Z (.lst (fy (eh i ws dd cs))):=by rw[eK];rfl
   refine eW (λr V=>V=S ++ .lst (fy (eh i ws dd cs))::G++[.lst ((oY ws dd i).map D.str)]/\r=[Z (webD w),Z (ed ws cs),Z (.ref n),Z (.ref S.length),Z (.int (i:Nat)),Z (.ref (S++Ob.lst (fy (eh i ws dd cs))::G).length)]) ?_ ?_
   ·unfold eA;rw[ec,rY];refine BC (xs:=eQ ws) (ys:=ws.map dd) (n:=n) O H ?_;dsimp only;rw[eQ,uw];refine jK (λu:Wk=>u.1 == i) (λu:Wk=>D.str (dh (dd u))) (λr=>∃x y,r=[x,y,Z (.int (i:Nat))]) (kT H) ws _ ⟨_,_,O⟩ ?_ λT _=>?_
    ·rintro u R r ⟨x,y,rfl⟩
     ((try walk_at"w");repeat(simp only[Dn];try walk_at"w"))
     refine⟨?_,⟨_,_,O⟩,λ_=>?_⟩
     ·rw[bQ,beq_iff_eq,beq_iff_eq];lia
     ·((try walk_at"w");repeat(simp only[Dp (hd u R)];try walk_at"w"))
    ·have e:(ws.filter λu:Wk=>u.1 == i).map (λu:Wk=>D.str (dh (dd u)))=(oY ws dd i).map D.str:=by unfold oY;rw[bu];rfl
     rw[e];have s:=di (λu:Wk=>u.1 == i) ws;refine⟨ea (by dsimp only;unfold oY;rw[lM1,lM1];lia),?_⟩;walk_at"w"
   rintro r k ⟨g,rfl⟩;have E:k[(S++Ob.lst (fy (eh i ws dd cs))::G).length]?=Z (.lst ((oY ws dd i).map D.str)):=by rw[g,eK];rfl
   have C:k[S.length]?=Z (.lst (fy (eh i ws dd cs))):=by rw[g,gL1 (gE1.mp I).1];exact I
   have f:k=S++Ob.lst (fy (eh i ws dd cs))::(G++[Ob.lst ((oY ws dd i).map D.str)]):=by rw[g];simp
   have l:k.set S.length (.lst (fy (eh i ws dd cs)++[.int (i:Nat)]))=S++Ob.lst (fy (eh i ws dd cs++[i]))::(G++[Ob.lst ((oY ws dd i).map D.str)]):=by
    rw[f,cZ _ _ (nR1 _),cM,c0];simp[fy]
   have am:∀b:Bool,(ie ws dd "mark" i||(cs.contains i && !ie ws dd "wipe" i))=b->eh (i+1) ws dd cs=if b=M then eh i ws dd cs++[i]else eh i ws dd cs:=λb ao=>by
    unfold eh;rw[List.range_succ,List.filter_append,de,ao];cases b<;>simp
   have N:(eh i ws dd cs).length<=8:=by
    have:=di (λr=>ie ws dd "mark" r||(cs.contains r && !ie ws dd "wipe" r)) (af i);rw[dw]at this;exact aC this (by lia)
   generalize X:(S++Ob.lst (fy (eh i ws dd cs))::G).length=s at *
   have app:∀ Q':D×Sto->Prop,Q' (.non,S++Ob.lst (fy (eh i ws dd cs++[i]))::(G++[Ob.lst ((oY ws dd i).map D.str)])) ->
     W (tm (b2 lY) (mV 3) (dU (mV 4) dV) [Z (webD w),Z (ed ws cs),Z (.ref n),Z (.ref S.length),Z (.int (i:Nat)),Z (.ref s)] k) Q':=λQ' L=>by
    refine lD ?_;walk_at"w";refine⟨S.length,_,O,C,?_⟩;refine(uh C).mpr ⟨ea (by rw[lT];lia),?_⟩;rw[l];exact L
   unfold gY;rw[ec]
   ((try walk_at"w");repeat(simp only[Dv E,u6 E,y2,Eg,Dx];try walk_at"w"))
   have p:(ie ws dd "mark" i||(cs.contains i && !ie ws dd "wipe" i))=M->W (tm (b2 lY) (mV 3) (dU (mV 4) dV) [Z (webD w),Z (ed ws cs),Z (.ref n),Z (.ref S.length),Z (.int (i:Nat)),Z (.ref s)] k) λx=>∃G c a,i+1<=m/\x.2=S++Ob.lst (fy (eh (i+1) ws dd cs))::G/\[Z (webD w),Z (ed ws cs),Z (D.ref n),Z (.ref S.length),Z (.int (i:Nat)),Z (.ref s)]=[Z (webD w),Z (ed ws cs),Z (.ref n),Z (.ref S.length),c,a]:=λh=>by
    have h2:=am M h;rw[ak O]at h2;exact app _ ⟨_,_,_,by lia,by rw[h2],O⟩
   have K:(ie ws dd "mark" i||(cs.contains i && !ie ws dd "wipe" i))=J -> ∃G c a,i+1<=m/\k=S++Ob.lst (fy (eh (i+1) ws dd cs))::G/\[Z (webD w),Z (ed ws cs),Z (D.ref n),Z (.ref S.length),Z (.int (i:Nat)),Z (.ref s)]=[Z (webD w),Z (ed ws cs),Z (.ref n),Z (.ref S.length),c,a]:=λh=>by
    have h2:=am J h;rw[aj (by decide)]at h2;exact⟨_,_,_,by lia,by rw[h2];exact f,O⟩
   generalize ie ws dd "mark" i=b1 at *
   generalize cs.contains i=b2 at *
   generalize ie ws dd "wipe" i=b3 at *
   cases b1
   ·rw[aj (by decide)];cases b2
    ·rw[aj (by decide)];exact K O
    ·rw[ak O];cases b3
     ·rw[ak (by decide)];exact p O
     ·rw[aj (by decide)];exact K O
   ·rw[ak O];exact p O
  ·rintro r B ⟨G,c,a,hi,rfl,rfl⟩;rw[lM1,dw,cY];exact⟨O,_,_,_,O,O⟩
 rintro r B ⟨G,c,a,o,rfl⟩;walk_at"w";refine eI (xs:=fy (eh m ws dd cs)) (by rw[o,eK];rfl) ?_;rw[AW (by rw[D.und];exact u7 _) A (by rw[o];exact bv _ _)];exact q
theorem DM{F:List (TK×D)}{n:Nat}{S:Sto}(h:S[n]?=Z (dO F)):yz S n=Z F:=by
 unfold yz;rw[h];cases F<;>rfl
structure RL (e:E4)(F:List (TK×D))(L:List Rw):Prop where
 inc:BK e L
 ok:∀p∈L,gZ p
 len:L.length<=4000
 lk:∀k:Ky,k.Ok->d0 F (k.tk e)=(L.find? λp=>decide (p.1.code e=k.code e)).map (·.2)
theorem IQ{e:E4}{F:List (TK×D)}{L:List Rw}{k:Ky}{n:Nat}{S:Sto}{a b c:FE}{r:Ev}{Q:D×Sto->Prop}(d:RL e F L)(hk:k.Ok)(ha:a r S=Z (.ref n,S))(f:S[n]?=Z (dO F))(hb:b r S=Z (k.d e,S))(hc:c r S=Z (Bf k,S))(q:Q (mR e L k,S)):W (rD a b c r S) Q:=by
 refine W.of (x:=(mR e L k,S)) ?_ q;simp only[rD,ha,hb,hc,oS1,DM f,k.keyT e];rw[oP1,d.lk k hk];rfl
theorem wD{m:Nat}{w:ev}{ws:List Wk}{cs:List Nat}{e:E4}{F:List (TK×D)}{L:List Rw}{n:Nat}{S:Sto}{Q:D×Sto->Prop}(h:iZ m w ws cs)(rl:RL e F L)(hS:S[n]? = some (dO F))(K:S.all (Ob.und S.length)=true)(q:Q (jo m w ws cs e L,S)):
  W (dW 4 fH [webD w,eyD e,.ref n,ed ws cs] S) Q:=by
 refine oD O (by simp[D.unds,D.und]) ?_;unfold fH
 refine mQ ?_;unfold mJ
 have hn:=(gE1.mp hS).1;have hf:=h.few;have aq:∀u∈ws,gm (ddW w ws cs e L u):=λu A=>GU rl.ok (h.ky u A);have ao:∀a b:Ob,(S++[a,b])[S.length]?=Z a:=λa b=>by rw[eK];rfl
 have I:∀a b:Ob,(S++[a,b])[S.length+1]?=Z b:=λa b=>by rw[gD];rfl
 have st:∀a b c:Ob,(S++[a,b]).set S.length c=S++[c,b]:=λa b c=>by rw[cZ _ _ (nR1 _),cM];rfl
 have U:∀a b c:Ob,(S++[a,b]).set (S.length+1) c=S++[a,c]:=λa b c=>by rw[cZ _ _ (by lia),show S.length+1-S.length=1 by lia];rfl
 have hSn:∀a b:Ob,(S++[a,b])[n]?=Z (dO F):=λa b=>by rw[gL1 hn];exact hS
 refine eW (λr V=>V=S++[.lst [],.lst []]/\r=[Z (webD w),Z (eyD e),Z (.ref n),Z (ed ws cs),Z (.ref S.length),Z (.ref (S.length+1)),Y,Y,Y,Y,Y,Y,Y]) ?_ ?_
 ·walk_at"w"
 rintro r V ⟨rfl,rfl⟩;refine eW (λr V=>∃j x,V=S++[.lst (ws.map (ddW w ws cs e L)),.lst []]/\r=[Z (webD w),Z (eyD e),Z (.ref n),Z (ed ws cs),Z (.ref S.length),Z (.ref (S.length+1)),j,x,Y,Y,Y,Y,Y]) ?_ ?_
 ·((try walk_at"w");repeat(simp only[nv,jH,kr];try walk_at"w"))
  rw[mw,Int.toNat_natCast];refine⟨gt (by lia),?_⟩;refine gn (λi r V=>∃j x,i<=ws.length/\V=S++[.lst ((ws.take i).map (ddW w ws cs e L)),.lst []]/\r=[Z (webD w),Z (eyD e),Z (.ref n),Z (ed ws cs),Z (.ref S.length),Z (.ref (S.length+1)),j,x,Y,Y,Y,Y,Y]) _ 0 _ _ ⟨_,_,by lia,O,O⟩ (λ_ _ _ _=>rfl) ?_ ?_
  ·rintro i d y r au ⟨j,x,hi,rfl,rfl⟩;have z:=(gE1.mp y).1;rw[lM1,dw]at z;rw[cY]at *
   have R:d = .int (i:Nat):=by
    rw[gP1,cI z]at y;exact(Option.some.inj y).symm
   subst R;walk_at"w";unfold jU;obtain⟨u,A⟩:∃u,ws[i]?=some u:=⟨_,gG1 z⟩;have B:=gM1 A;obtain⟨g,N,_⟩:=h.wk u B;have eu:∀f,dZ (.tup (eQ ws)) (.int (i:Nat)) f=Z (gX u,f):=λf=>by
    obtain⟨p,e,h⟩:W (dZ (.tup (eQ ws)) (.int (i:Nat)) f) λp=>p=(gX u,f):=hM (by rw[eQ,gP1,A];rfl) O;rw[e,h]
   refine eW (λr V=>V=S++[.lst ((ws.take i).map (ddW w ws cs e L)),.lst []]/\r=[Z (webD w),Z (eyD e),Z (.ref n),Z (ed ws cs),Z (.ref S.length),Z (.ref (S.length+1)),Z (.int (i:Nat)),Z (.int u.2.2),Y,Y,Y,Y,Y]) ?_ ?_
   ·((try walk_at"w");repeat(simp only[nv,eu,wK];try walk_at"w"))
   rintro r au ⟨rfl,rfl⟩;unfold fT;rw[ec];refine lD ?_;walk_at"w";refine⟨S.length,_,O,ao _ _,?_⟩;have es:W (eP (dU (mV 7) (dU (mN (dW 4 fc) (dU (mV 0) (dU (mV 1) (dU (mV 3) (dU (mV 6) dV))))) dV)) [Z (webD w),Z (eyD e),Z (.ref n),Z (ed ws cs),Z (.ref S.length),Z (.ref (S.length+1)),Z (.int (i:Nat)),Z (.int u.2.2),Y,Y,Y,Y,Y] (S++[.lst ((ws.take i).map (ddW w ws cs e L)),.lst []])) λp=>p=((ky w ws cs u).d e,S++[.lst ((ws.take i).map (ddW w ws cs e L)),.lst []]):=by
    walk_at"w";refine tq A N (by lia) ?_;walk_at"w";rw[vZ N];rfl
   obtain⟨p,es,rfl⟩:=es;refine IQ (n:=n) (F:=F) (L:=L) (e:=e) (k:=ky w ws cs u) rl (h.ky u B) O (hSn _ _) es O ?_;walk_at"w";refine(uh (ao _ _)).mpr ⟨ea (by rw[lM1,aR];lia),?_⟩;refine⟨_,_,by lia,?_,O⟩;rw[st,cr,A,cu];rfl
  ·rintro r au ⟨j,x,hi,rfl,rfl⟩;rw[lM1,dw,cY,bY];exact⟨O,_,_,O,O⟩
 rintro r V ⟨j,x,rfl,rfl⟩;refine eW (λr V=>∃j x E C s l v,V=S++[.lst (ws.map (ddW w ws cs e L)),.lst (eQ (ws.map λu=>eY w u (ddW w ws cs e L u)))]/\r=[Z (webD w),Z (eyD e),Z (.ref n),Z (ed ws cs),Z (.ref S.length),Z (.ref (S.length+1)),j,x,E,C,s,l,v]) ?_ ?_
 ·unfold je;rw[ec];refine BC (xs:=eQ ws) (ys:=ws.map (ddW w ws cs e L)) (n:=S.length) O (ao _ _) ?_;dsimp only;have ezz:ux (eQ ws) (ws.map (ddW w ws cs e L))=ws.map λu=>D.tup [gX u,ddW w ws cs e L u]:=uw ws;rw[ezz];refine gn (λi r V=>∃j x E C s l v,i<=ws.length/\V=S++[.lst (ws.map (ddW w ws cs e L)),.lst (eQ ((ws.take i).map λu=>eY w u (ddW w ws cs e L u)))]/\r=[Z (webD w),Z (eyD e),Z (.ref n),Z (ed ws cs),Z (.ref S.length),Z (.ref (S.length+1)),j,x,E,C,s,l,v]) _ 0 _ _ ⟨_,_,_,_,_,_,_,by lia,O,O⟩ (λ_ _ V ⟨_,_,_,_,_,_,_,_,hv,_⟩=>by rw[hv];exact kT (ao _ _)) ?_ ?_
  ·rintro i d y r au ⟨j,x,E,C,s,l,v,hi,rfl,rfl⟩;have z:=(gE1.mp y).1;rw[lM1]at z;rw[cY]at *
   obtain ⟨u,A⟩:∃ u,ws[i]? = some u:=⟨_,gG1 z⟩;have B:=gM1 A;obtain ⟨g,N,_⟩:=h.wk u B;rw [gP1,A] at y;obtain rfl:d=D.tup [gX u,ddW w ws cs e L u]:=(Option.some.inj y).symm;have hx:=aq u B;have G:eY w u (ddW w ws cs e L u)=match dt (ddW w ws cs e L u) with
     |some t=>match g[t]? with
      |some p=>(p.1,p.2+1,dm (ddW w ws cs e L u))
      |none=>(u.1,u.2.1,dm (ddW w ws cs e L u))
     |none=>(u.1,u.2.1,dm (ddW w ws cs e L u)):=by
    unfold eY;rw[N];rfl
   have eT:(ws.take (i+1)).map (λu=>eY w u (ddW w ws cs e L u))=(ws.take i).map (λu=>eY w u (ddW w ws cs e L u))++[eY w u (ddW w ws cs e L u)]:=by
    rw[cr,A,cu];rfl
   have ex:=hx.eta.1;generalize hX:ddW w ws cs e L u=X at *
   generalize hm:dm X=dmx at *
   generalize hh:dh X=dhx at *
   generalize ht:dt X=dtx at *
   have eu:gX u = .tup [.int u.1,.int u.2.1,.int u.2.2]:=rfl;rw[eu,ex];walk_at"w";unfold jT;have am:∀f,dZ (webD w) (.int (u.1:Nat)) f=Z (.tup (g.map pD),f):=λf=>by
    obtain⟨p,e,h⟩:W (dZ (webD w) (.int (u.1:Nat)) f) λp=>p=(.tup (g.map pD),f):=Er N O;rw[e,h]
   have lw:((ws.take i).map λu=>eY w u (ddW w ws cs e L u)).length<=8:=by rw[lM1,aR];lia
   have H:∀(a b:Nat) (j:Option D),eY w u X=(a,b,dmx)->W (fT (tm (b2 lY) (mV 5) (dU (eP (dU (mV 8) (dU (mV 9) (dU (mV 10) dV)))) dV)) [Z (webD w),Z (eyD e),Z (.ref n),Z (ed ws cs),Z (.ref S.length),Z (.ref (S.length+1)),j,Z (.int u.2.2),Z (.int (a:Nat)),Z (.int (b:Nat)),Z (.int (dmx:Nat)),Z (.str dhx),Z (tD dtx)] (S++[.lst (ws.map (ddW w ws cs e L)),.lst (eQ ((ws.take i).map λu=>eY w u (ddW w ws cs e L u)))])) λq=>q.1 = .nx /\ ∃j x E C s l v,i+1<=ws.length/\q.2.2=S++[.lst (ws.map (ddW w ws cs e L)),.lst (eQ ((ws.take (i+1)).map λu=>eY w u (ddW w ws cs e L u)))]/\q.2.1=[Z (webD w),Z (eyD e),Z (.ref n),Z (ed ws cs),Z (.ref S.length),Z (.ref (S.length+1)),j,x,E,C,s,l,v]:=by
    intro a b j wq;unfold fT;rw[ec];refine lD ?_;walk_at"w";refine⟨S.length+1,_,O,I _ _,?_⟩;refine(uh (I _ _)).mpr ⟨ea (by rw[kr];lia),?_⟩;refine⟨_,_,_,_,_,_,_,by lia,?_,O⟩;rw[U,eT,wq];simp[eQ,gX]
   cases dtx with
   |none=>
    dsimp only at G;refine eW (λr V=>V=S++[.lst (ws.map (ddW w ws cs e L)),.lst (eQ ((ws.take i).map λu=>eY w u (ddW w ws cs e L u)))]/\r=[Z (webD w),Z (eyD e),Z (.ref n),Z (ed ws cs),Z (.ref S.length),Z (.ref (S.length+1)),j,Z (.int u.2.2),Z (.int u.1),Z (.int u.2.1),Z (.int (dmx:Nat)),Z (.str dhx),Z (tD Y)]) ?_ ?_
    ·have P:gE (tD Y) .non (S++[.lst (ws.map (ddW w ws cs e L)),.lst (eQ ((ws.take i).map λu=>eY w u (ddW w ws cs e L u)))])=Z (.bl J,S++[.lst (ws.map (ddW w ws cs e L)),.lst (eQ ((ws.take i).map λu=>eY w u (ddW w ws cs e L u)))]):=rfl
     ((try walk_at"w");repeat(simp only[P];try walk_at"w"))
    rintro r V ⟨rfl,rfl⟩;exact H u.1 u.2.1 j G
   |some t=>
    dsimp only at G;have P:∀f,gE (tD (Z t)) .non f=Z (.bl M,f):=λf=>rfl;have el:∀f,wS (tD (Z t)) (.int (g.length:Nat)) f=Z (.bl (decide ((t:Int)<(g.length:Int))),f):=λf=>rfl;by_cases hl:t<g.length
    ·have eg:=gG1 hl;rw [eg] at G;have T:∀ f,dZ (.tup (g.map pD)) (tD (some t)) f=some (pD g[t],f):=fun f=>by
      obtain⟨p,e,h⟩:W (dZ (.tup (g.map pD)) (.int (t:Nat)) f) λp=>p=(pD g[t],f):=hM (by rw[gP1,eg];rfl) O;show dZ (.tup (g.map pD)) (.int (t:Nat)) f=_;rw[e,h]
     generalize g[t]=p at *
     refine eW (λr V=>V=S++[.lst (ws.map (ddW w ws cs e L)),.lst (eQ ((ws.take i).map λu=>eY w u (ddW w ws cs e L u)))]/\r=[Z (webD w),Z (eyD e),Z (.ref n),Z (ed ws cs),Z (.ref S.length),Z (.ref (S.length+1)),j,Z (.int u.2.2),Z (.int p.1),Z (.int ((p.2+1:Nat):Int)),Z (.int (dmx:Nat)),Z (.str dhx),Z (tD (Z t))]) ?_ ?_
     ·have p0:∀f,dZ (pD p) (.int 0) f=Z (.int p.1,f):=λf=>rfl;have p1:∀f,dZ (pD p) (.int 1) f=Z (.int p.2,f):=λf=>rfl
      ((try walk_at"w");repeat(simp only[P,am,jH,lM1,el];try walk_at"w"))
      rw[ak (by rw[al];lia)]
      ((try walk_at"w");repeat(simp only[am,T,p0,p1];try walk_at"w"))
      rw[show(1:Int)+(p.2:Int)=((p.2+1:Nat):Int) by lia]
     rintro r V ⟨rfl,rfl⟩;exact H p.1 (p.2+1) j G
    ·rw[b4 (by lia)]at G;refine eW (λr V=>V=S++[.lst (ws.map (ddW w ws cs e L)),.lst (eQ ((ws.take i).map λu=>eY w u (ddW w ws cs e L u)))]/\r=[Z (webD w),Z (eyD e),Z (.ref n),Z (ed ws cs),Z (.ref S.length),Z (.ref (S.length+1)),j,Z (.int u.2.2),Z (.int u.1),Z (.int u.2.1),Z (.int (dmx:Nat)),Z (.str dhx),Z (tD (Z t))]) ?_ ?_
     ·((try walk_at"w");repeat(simp only[P,am,jH,lM1,el];try walk_at"w"))
      rw[aj (by rw[al];lia)];trivial
     rintro r V ⟨rfl,rfl⟩;exact H u.1 u.2.1 j G
  ·rintro r au ⟨j,x,E,C,s,l,v,hi,rfl,rfl⟩;rw[lM1,cY,bY];exact⟨O,_,_,_,_,_,_,_,O,O⟩
 rintro r V ⟨j,x,E,C,s,l,v,rfl,rfl⟩;walk_at"w";refine eI (I _ _) ?_;refine yE (dd:=ddW w ws cs e L) h.web.len h.m8 aq h.few (ao _ _) ?_ ?_
 ·rw[dy,bA1,lA1];rw[bC]at K;refine⟨bC.mpr λo ho=>kU (br _ _) (K o ho),?_⟩;rw[bP,bP,Ob.und,Ob.und,jx (m3 _),Mi.eO λu A=>fC (aq u A).und];rfl
 walk_at"w";have T:D.tup [.tup (eQ (ws.map λu=>eY w u (ddW w ws cs e L u))),.tup (fy (eh m ws (ddW w ws cs e L) cs))]=jo m w ws cs e L:=rfl;rw[T,AW (d:=jo m w ws cs e L) lH K (bv _ _)];exact q
noncomputable def qM:List D:=[.non,.int 0,.int 1,.int 2,.int 3,.int 0,.int 1]
noncomputable def oj:List D:=[.str "leave",.str "leave",.str "mark",.str "wipe"]
theorem xB:∀x∈qM,x∈im:=by
 intro x a;simp only[qM,aF,bM,or_false]at a;rcases a with e|e|e|e|e|e|e<;>subst e<;>simp[im]
theorem yq:∀x∈oj,x∈iA:=by
 intro x a;simp only[oj,aF,bM,or_false]at a;rcases a with e|e|e|e<;>subst e<;>simp[iA]
noncomputable def Al:List D:=[.int 0,.int 1,.int 2,.int 3998]
theorem G0{o:Ob}{n:Nat}{T:Sto}{Q:D×Sto->Prop}(ho:gy o n)(hn:n<=2^45)(j:T.all (Ob.und (T.length+1))=M)(q:∀x o',gm x->dm x<3999->gy o' (n+5)->Q (x,o'::T)):W (dW 1 gx [.ref 0] (o::T)) Q:=by
 refine w9 O O j ?_;unfold gx;refine mQ ?_;unfold mI;refine eW (λr S=>∃(m:Nat) (c:Ob),m<3999/\gy c (n+1)/\S=c::T/\r=[Z (.ref 0),Z (.int (m:Nat)),Y]) ?_ ?_
 ·walk_at"w";refine fD ho (by lia) (by lia) (by lia) λy b a k=>?_;have d:y<4:=by lia
  obtain⟨m,g,l⟩:∃m:Nat,m<3999/\Al[y]?=some (.int (m:Nat)):=by
   match y,d with
   |0,_=>exact⟨0,by decide,O⟩
   |1,_=>exact⟨1,by decide,O⟩
   |2,_=>exact⟨2,by decide,O⟩
   |3,_=>exact⟨3998,by decide,O⟩
  refine hM (i:=y) (xs:=Al) l ?_;exact⟨m,b,g,a,O,O⟩
 rintro r S ⟨m,c,g,f,rfl,rfl⟩;refine eW (λr S=>∃(t:D) (c:Ob),t∈im/\gy c (n+2)/\S=c::T/\r=[Z (.ref 0),Z (.int (m:Nat)),Z t]) ?_ ?_
 ·walk_at"w";refine fD f (by lia) (by lia) (by lia) λy b a k=>?_;refine hM (i:=y) (xs:=qM) (x:=qM[y]'(by show y<7;lia)) (gG1 _) ?_;exact⟨_,b,xB _ (bS _),a,O,O⟩
 rintro r S ⟨t,u,p,e,rfl,rfl⟩;walk_at"w";refine fD e (by lia) (by lia) (by lia) λx b a s=>?_;refine hM (i:=x) (xs:=oj) (x:=oj[x]'(by show x<4;lia)) (gG1 _) ?_;walk_at"w";have h:gm (.tup [.int (m:Nat),oj[x]'(by show x<4;lia),t]):=⟨m,_,_,O,by lia,yq _ (bS _),p⟩;exact⟨_,b,[],by rw[aN],h.und,a.und,q _ b h (by show(m:Int).toNat<3999;lia) (a.more (by lia))⟩
def Kf(e:E4)(k:Ky):Prop:=(e.2.1=M->k.y<=1)/\(e.2.2.2=M->k.w<=1)/\k.m<3999
theorem Kf.of{e:E4}{k l:Ky}(h:Kf e k)(z:l.tk e=k.tk e):Kf e l:=by
 obtain⟨a,b,c,d⟩:=e;unfold Ky.tk at z;injection z with z;injection z with n z;injection n with n;injection z with f _;injection f with f;injection f with r f;injection f with p2 f;injection f with p f;injection f with o _;have m:=qi p2;have j:=qi o;obtain⟨h1,h2,q⟩:=h;refine⟨λg=>?_,λi=>?_,by lia⟩
 ·have:=h1 g;unfold cx at m;dsimp only at g;rw[g,ak O,ak O]at m;lia
 ·have:=h2 i;unfold cx at j;dsimp only at i;rw[i,ak O,ak O]at j;lia
theorem Ks{w:ev}{ws:List Wk}{cs:List Nat}{u:Wk}{e:E4}(h:u.2.2<3999):Kf e (ky w ws cs u):=by
 refine⟨λ_=>?_,λ_=>?_,h⟩
 ·show(if cs.contains u.1 then 1 else 0)<=1;split<;>lia
 ·show(if 1<crowd ws u.1 then 1 else 0)<=1;split<;>lia
structure RN (e:E4)(F:List (TK×D)):Prop where
 row:∀p∈F,∃k:Ky,k.Ok/\p.1=k.tk e/\(gm p.2\/p.2 = .non)
 nd:(F.map (·.1)).Nodup
 fine:∀p∈F,dm p.2<3999 /\ ∀k:Ky,p.1=k.tk e->Kf e k
theorem RN.nil{e:E4}:RN e []:=⟨λp a=>(by cases a),bo,λp a=>(by cases a)⟩
theorem RN.vu{e:E4}{F:List (TK×D)}(h:RN e F){p:TK×D}(hp:p∈F)(n:Nat):p.2.und n=M:=by
 obtain⟨_,_,_,a⟩:=h.row p hp;rcases a with a|a
 ·exact fC a.und
 ·rw[a];rfl
theorem RN.und{e:E4}{F:List (TK×D)}(h:RN e F)(n:Nat):(dO F).und n=M:=by
 have:D.unds n (F.map (·.2))=M:=Mi.eO λp a=>h.vu a n;cases F with
 |nil=>rfl
 |cons _ _=>exact this
theorem RN.put{e:E4}{F:List (TK×D)}{k:Ky}{x:D}(h:RN e F)(hk:k.Ok)(hx:gm x\/x = .non)(hd:dm x<3999)(hf:Kf e k):RN e (fi F (k.tk e) x):=by
 unfold fi;split
 ·refine⟨λp c=>?_,?_,λp c=>?_⟩
  ·obtain⟨f,d,rfl⟩:=cc.mp c;obtain⟨l,h1,h2,m⟩:=h.row f d;by_cases z:f.1=k.tk e
   ·rw[ak z];exact⟨l,h1,h2,hx⟩
   ·rw[aj z];exact⟨l,h1,h2,m⟩
  ·rw [bu];have:(F.map ((fun p:TK×D=>p.1)∘fun p=>if p.1=k.tk e then (p.1,x) else p))=F.map (·.1):=by
    apply db;intro p _;simp only[Function.comp];split<;>rfl
   rw[this];exact h.nd
  ·obtain⟨f,d,rfl⟩:=cc.mp c;obtain⟨r,g⟩:=h.fine f d;by_cases z:f.1=k.tk e
   ·rw[ak z];exact⟨hd,g⟩
   ·rw[aj z];exact⟨r,g⟩
 ·rename_i j;refine⟨λp c=>?_,?_,λp c=>?_⟩
  ·rcases aG.mp c with z|z
   ·exact h.row p z
   ·simp at z;subst z;exact⟨k,hk,O,hx⟩
  ·rw[cu,bA];refine⟨h.nd,by simp,λa o b i z=>?_⟩;simp at i;subst i;subst z;obtain⟨p,c,n⟩:=cc.mp o;exact j (bR.mpr ⟨p,c,ah n⟩)
  ·rcases aG.mp c with z|z
   ·exact h.fine p z
   ·simp at z;subst z;exact⟨hd,λl q=>hf.of q.symm⟩
theorem F0{S:Sto}{n:Nat}{F:List (TK×D)}{d:D}{k:TK}(h:S[n]?=Z (dO F))(hk:keyT d=Z k):jI d (.ref n) S=Z (.bl (!(d0 F k).isSome),S):=by
 cases F with
 |nil=>
  have h':S[n]?=Z (.dct []):=h;simp only[jI,h',hk];rfl
 |cons p F=>
  have h':S[n]?=Z (.dcT (p::F)):=h;simp only[jI,gp,h',hk,oP1]
theorem gc_same{n:Nat}{p:D×Sto}(h:p.2.length=n):gc n p=p:=by
 unfold gc;rw[<- h,bY];split<;>rfl
def Sub(F F':List (TK×D)):Prop:=∀k d,d0 F k=Z d->d0 F' k=Z d
theorem Sub.refl(F:List (TK×D)):Sub F F:=λ_ _ h=>h
theorem Sub.trans{F G am:List (TK×D)}(a:Sub F G)(b:Sub G am):Sub F am:=λk d h=>b k d (a k d h)
theorem Sub.put{F a:List (TK×D)}{k:TK}{v:D}(s:Sub F a)(h:(d0 F k).isSome=J):Sub F (fi a k v):=λb d e=>by
 rw[tu];split
 ·rename_i z;subst z;rw[e]at h;cases h
 ·exact s b d e
theorem Cp{F:List (TK×D)}{k:TK}{a b:D}:fi (fi F k a) k b=fi F k b:=by
 by_cases h:(F.any λp=>decide (p.1=k))=M
 ·have h2:((F.map fun p=>if p.1=k then (p.1,a) else p).any fun p=>decide (p.1=k))=true:=by
   obtain⟨p,c,e⟩:=bR.mp h;have e:=of_decide_eq_true e;exact bR.mpr ⟨(p.1,a),cc.mpr ⟨p,c,by rw[ak e]⟩,ah e⟩
  unfold fi;rw[ak h,ak h2,ak h,bu];apply db;intro p _;simp only[Function.comp];by_cases z:p.1=k
  ·rw[ak z,ak z,ak z]
  ·rw[aj z,aj z]
 ·have h2:((F++[(k,a)]).any fun p=>decide (p.1=k))=true:=bR.mpr ⟨(k,a),mA1 _ (cU.mpr rfl),decide_eq_true rfl⟩;unfold fi;rw [if_neg h,if_neg h,if_pos h2,cu];have e:F.map (fun p=>if p.1=k then (p.1,b) else p)=F:=by
   conv=>rhs;rw[<- List.map_id F]
   apply db;intro p c;rw[aj λz=>h (bR.mpr ⟨p,c,ah z⟩)];rfl
  rw[e];simp
theorem Dz{m:Nat}{w:ev}{ws:List Wk}{cs:List Nat}{e:E4}{F:List (TK×D)}{o:Ob}{n:Nat}{T:Sto}{Q:D×Sto->Prop}(h:iZ m w ws cs)(I:∀ u∈ws,u.2.2<3999)(hF:RN e F)(hT:T.all (Ob.und 0)=true)(ho:gy o n)(hn:n<=2^40)(hl:F.length<=10000)(q:∀g o',RN e g->g.length<=F.length+ws.length->gy o' (n+100)->Sub F g->(∀u∈ws,(d0 g ((ky w ws cs u).tk e)).isSome=true)->Q (.non,o'::dO g::T)):
  W (dW 5 ga [.ref 0,webD w,eyD e,.ref 1,ed ws cs] (o::dO F::T)) Q:=by
 refine oD O O ?_;unfold ga;refine mQ ?_;unfold lz;have hf:=h.few;have hTc:∀F,RN e F->(dO F::T).all (Ob.und ((dO F::T).length+1))=M:=λF hF=>by
  rw[bP,hF.und,Bool.true_and,bC];exact λx hx=>kU (bi _) (bC.mp hT x hx)
 ((try walk_at"w");repeat(simp only[nv,jH,kr];try walk_at"w"))
 rw[mw,Int.toNat_natCast];refine⟨gt (by lia),?_⟩;refine gn (λi r S=>∃g o' R y6,i<=ws.length/\RN e g/\g.length<=F.length+i/\gy o' (n+10*i)/\Sub F g/\(∀j u,j<i->ws[j]?=Z u->(d0 g ((ky w ws cs u).tk e)).isSome=M)/\S=o'::dO g::T/\r=[Z (.ref 0),Z (webD w),Z (eyD e),Z (.ref 1),Z (ed ws cs),R,y6]) _ 0 _ _ ⟨F,o,_,_,by lia,hF,by lia,ho,Sub.refl F,λj u au _=>by lia,O,O⟩ (λ_ _ _ _=>rfl) ?_ ?_
 ·rintro i d E r S ⟨a,B,R,y6,hi,f,N,y,b,l,rfl,rfl⟩;have G:=(gE1.mp E).1;rw[lM1,dw]at G;rw[cY]at *
  have V:d = .int (i:Nat):=by
   rw[gP1,cI G]at E;exact(Option.some.inj E).symm
  subst V;walk_at"w";unfold i9;obtain⟨u,H⟩:∃u,ws[i]?=some u:=⟨_,gG1 G⟩;have C:=gM1 H;obtain⟨row,er,_,hmd⟩:=h.wk u C;have hk:=h.ky u C;have ao:Kf e (ky w ws cs u):=Ks (I u C);have eu:∀K,dZ (.tup (eQ ws)) (.int (i:Nat)) K=Z (gX u,K):=λK=>by
   obtain⟨p,e,h⟩:W (dZ (.tup (eQ ws)) (.int (i:Nat)) K) λp=>p=(gX u,K):=hM (by rw[eQ,gP1,H];rfl) O;rw[e,h]
  refine eW (λr S=>S=B::dO a::T/\r=[Z (.ref 0),Z (webD w),Z (eyD e),Z (.ref 1),Z (ed ws cs),Z (.int (i:Nat)),Z ((ky w ws cs u).d e)]) ?_ ?_
  ·((try walk_at"w");repeat(simp only[nv,eu,wK];try walk_at"w"))
   refine tq H er (by lia) ?_;rw[vZ er];walk_at"w";rfl
  rintro r S ⟨rfl,rfl⟩;have aq:∀(P:List (TK×D)),(∀k d,d0 a k=Z d->d0 P k=Z d)->(d0 P ((ky w ws cs u).tk e)).isSome=M -> ∀j v,j<i+1->ws[j]?=Z v->(d0 P ((ky w ws cs v).tk e)).isSome=M:=λP h1 h2 j v au wq=>by
   by_cases z:j=i
   ·subst z;rw[H]at wq;cases wq;exact h2
   ·obtain⟨d,hd⟩:=aQ.mp (l j v (by lia) wq);rw[h1 _ _ hd];rfl
  have A:=F0 (S:=B::dO a::T) (n:=1) (F:=a) O ((ky w ws cs u).keyT e);cases hin:(d0 a ((ky w ws cs u).tk e)).isSome with
  |true=>
   rw[hin]at A
   ((try walk_at"w");repeat(simp only[A];try walk_at"w"))
   exact⟨a,B,_,_,by lia,f,by lia,y.more (by lia),b,aq a (λ_ _ h=>h) hin,O,O⟩
  |false=>
   rw[hin]at A;have s1:=HV (e:=e) (F:=a) (k:=ky w ws cs u) (x:=.non) (n:=1) (S:=B::dO a::T) O (by lia);have am:=f.put hk (x:=.non) (.inr O) (by decide) ao;have l2:(fi a ((ky w ws cs u).tk e) D.non).length<=a.length+1:=v8;have s:∀x,(d0 (fi a ((ky w ws cs u).tk e) x) ((ky w ws cs u).tk e)).isSome=M:=λx=>by rw[tu,ak O];rfl
   have c:∀x,Sub a (fi a ((ky w ws cs u).tk e) x):=λx=>(Sub.refl a).put hin
   ((try walk_at"w");repeat(simp only[A,s1];try walk_at"w"))
   refine fD y (by lia) (by lia) (by lia) λt o2 L ht=>?_;walk_at"w";split
   ·refine G0 L (by lia) (hTc _ am) λx o3 hx U X=>?_;have s2:=HV (e:=e) (F:=fi a ((ky w ws cs u).tk e) .non) (k:=ky w ws cs u) (x:=x) (n:=1) (S:=o3::dO (fi a ((ky w ws cs u).tk e) .non)::T) O (by lia)
    ((try walk_at"w");repeat(simp only[s2];try walk_at"w"))
    have e2:fi (fi a ((ky w ws cs u).tk e) .non) ((ky w ws cs u).tk e) x=fi a ((ky w ws cs u).tk e) x:=Cp;rw[e2];have l3:(fi a ((ky w ws cs u).tk e) x).length<=a.length+1:=v8;exact⟨_,o3,_,_,by lia,f.put hk (.inl hx) U ao,by lia,X.more (by lia),b.trans (c x),aq _ (c x) (s x),O,O⟩
   ·exact⟨_,o2,_,_,by lia,am,by lia,L.more (by lia),b.trans (c .non),aq _ (c .non) (s .non),O,O⟩
 ·rintro r S ⟨a,B,R,y6,hi,f,N,y,b,l,rfl,rfl⟩;rw[lM1,dw,cY]at *
  have e1:gc (T.length+2) (D.non,B::dO a::T)=(D.non,B::dO a::T):=gc_same O;show Q (gc (T.length+2) (D.non,B::dO a::T));rw[e1];exact q a B f N (y.more (by lia)) b λu H=>by
   obtain⟨j,au⟩:=bq H;exact l j u (gE1.mp au).1 au
noncomputable def isT:D->Bool
 | .tup _=>M
 |_=>J
noncomputable def dv(d:D):Option D:=if isT d=M then Z d else Y
noncomputable def gg(F:List (TK×D)):List (TK×D):=F.filter λp=>isT p.2
noncomputable def uS(p:TK×D):D:=.tup [Mi.tkD p.1,p.2]
theorem gm.isT{x:D}(h:gm x):isT x=M:=by
 obtain⟨_,_,_,rfl,_⟩:=h.is;rfl
theorem k6{e:E4}{F:List (TK×D)}(h:RN e F):RW e (gg F):=by
 refine⟨λp b=>?_,List.Sublist.nodup (List.Sublist.map _ List.filter_sublist) h.nd⟩;obtain⟨h1,h2⟩:=aA.mp b;obtain⟨k,d,c,a⟩:=h.row p h1;rcases a with a|a
 ·exact⟨k,d,c,a⟩
 ·rw[a]at h2;cases h2
theorem live_len(F:List (TK×D)):(gg F).length<=F.length:=di _ _
theorem pV:∀{F:List (TK×D)} (k:TK),(F.map (·.1)).Nodup->d0 (gg F) k=(d0 F k).bind dv
 |[],_,_=>rfl
 |(a,d)::F,k,nd=>by
  rw[mP1,aO]at nd;have ih:=pV (F:=F) k nd.2;unfold gg at ih ⊢;rw[de,e9];by_cases z:a=k
  ·have c:d0 F k=none:=lV (by
    rw[Bool.eq_false_iff];intro y;obtain⟨p,b,e⟩:=bR.mp y;exact nd.1 (cc.mpr ⟨p,b,(of_decide_eq_true e).trans z.symm⟩))
   rw[c]at ih;rw[ak z];cases hd:isT d with
   |true=>rw[ak O,e9,ak z];simp[dv,hd]
   |false=>rw[aj (by simp),ih];simp[dv,hd]
  ·rw[aj z];cases hd:isT d with
   |true=>rw[ak O,e9,aj z,ih]
   |false=>rw[aj (by simp),ih]
theorem rP:∀(ps acc:List (TK×D)),((acc++ps).map (·.1)).Nodup->ps.foldl (λF p=>fi F p.1 p.2) acc=acc++ps
 |[],acc,_=>by simp
 |p::ps,acc,nd=>by
  have e:fi acc p.1 p.2=acc++[p]:=by
   unfold fi;rw[aj];intro y;obtain⟨q,a,e⟩:=bR.mp y;rw[cu,bA]at nd;exact nd.2.2 _ (cc.mpr ⟨q,a,O⟩) _ (cc.mpr ⟨p,mS1,O⟩) (of_decide_eq_true e)
  rw[b9,e,rP ps (acc++[p]) (by rw[bH];exact nd),bH];rfl
theorem lR:∀{F:List (TK×D)},(∀p∈F,Mi.keyT (Mi.tkD p.1)=Z p.1)->i7 (F.map uS)=Z F
 |[],_=>rfl
 |p::F,h=>by
  rw[mP1,i7,lR λq a=>h q (mC1 _ a)];have:=h p mS1;simp only[uS,wh,this,oP1,oS1]
theorem RN.key{e:E4}{F:List (TK×D)}(h:RN e F){p:TK×D}(hp:p∈F):Mi.keyT (Mi.tkD p.1)=Z p.1:=by
 obtain⟨k,_,h2,_⟩:=h.row p hp;rw[h2,k.tkD,k.keyT e]
theorem Bg(F:List (TK×D)):K4 F=dO F:=by cases F<;>rfl
theorem Cv{e:E4}{F:List (TK×D)}(h:RN e F)(n:Nat):D.unds n ((gg F).map uS)=M:=Mi.eO λp a=>by
 have a:=(aA.mp a).1;unfold uS;simp only[D.und,D.unds,h.vu a,uF,da]
theorem wA:∀{F:List (TK×D)},(F.map (·.1)).Nodup -> ∀{p:TK×D},p∈F->d0 F p.1=Z p.2
|[],_,_,hp=>by cases hp
|y::F,nd,p,hp=>by
 rw[mP1,aO]at nd;obtain⟨a,b⟩:=y;rw[e9];rcases aF.mp hp with z|z
 ·subst z;rw[ak rfl]
 ·rw[aj (λw=>nd.1 (cc.mpr ⟨p,z,w.symm⟩))];exact wA nd.2 z
theorem wg{e:E4}{F:List (TK×D)}{n:Nat}{r:Ev}{S:Sto}{Q:D×Sto->Prop}(j:RN e F)(o:F.length<=10000)(c:S[n]? = Z (dO F))(hr:r[5]? = Z (Z (.ref n)))(q:Q (.ref S.length,S++[.lst ((gg F).map uS)])):W (lZ 1 [5] (mV 5) (gN 0) (mB (m2 (b2 gE) (m2 (b2 dZ) (mV 1) (mV 0)) (mC D.non))) (eD (eP (dU (mV 0) (dU (m2 (b2 dZ) (mV 1) (mV 0)) dV)))) r S) Q:=by
 have m:=(gE1.mp c).1;have t:mV 5 r S=Z (.ref n,S):=by simp[mV,hr]
 have l:rK 1 [5] r=[Y,Z (.ref n)]:=by simp[rK,hr]
 have b:(S.set n (.dcF F))[n]?=Z (.dcF F):=by rw[aI m]
 unfold lZ;rw[t,oS1];dsimp only;have v:AH (dO F)=Z F:=by cases F<;>rfl
 rw[c,oS1,v,oS1,ec,l];refine jK (f:=λq:TK×D=>Mi.tkD q.1) (λp:TK×D=>isT p.2) uS (λr=>∃z,r=[z,Z (.ref n)]) O F _ ⟨_,O⟩ ?_ λw _=>?_
 ·rintro p d r ⟨z,rfl⟩;have u:dZ (.ref n) (Mi.tkD p.1) (S.set n (.dcF F))=some (p.2,S.set n (.dcF F)):=by
   simp only[dZ,b];rw[j.key d,oS1,wA j.nd d];rfl
  have s:gE p.2 .non (S.set n (.dcF F))=Z (.bl (isT p.2),S.set n (.dcF F)):=by
   obtain⟨k,_,_,a⟩:=j.row p d;rcases a with a|a
   ·obtain⟨_,_,_,z,_⟩:=a.is;rw[z];rfl
   ·rw[a];rfl
  ((try walk_at"w");repeat(simp only[u,s];try walk_at"w"))
  exact⟨⟨_,O⟩,λ_=>⟨O,trivial⟩⟩
 ·dsimp only;have g:=live_len F;rw [if_pos (by rw [lM1];exact aC (aC g o) (by decide)),ej,aW,List.set_set];have:S.set n (dO F)=S:=by
   apply bZ;intro i;by_cases h:n=i
   ·subst h;rw[aI m,c]
   ·rw[gS1 h]
  rw[this];exact q
theorem GV{e:E4}{F:List (TK×D)}{n:Nat}{S:Sto}{Q:D×Sto->Prop}(a:RN e F)(d:F.length<=10000)(c:S[n]?=Z (.lst ((gg F).map uS)))(q:Q (.ref S.length,S++[dO (gg F)])):W (jk (.ref n) S) Q:=by
 refine W.of ?_ q;unfold jk;rw[jy c];dsimp only;rw[lR (F:=gg F) λp b=>a.key (aA.mp b).1,oS1,lM1,ak (aC (live_len F) (by lia))];have:jX (gg F)=gg F:=by
  unfold jX;rw[rP _ _ (by rw[cW];exact(k6 a).nd),cW]
 rw[this,Bg]
theorem wN{α:Type}{f:α->D}{c:α->Nat}{a:α}:∀ {zs:List α},(∀ b∈zs,ka [] 51 (f a) (f b)=some (decide (c a<c b)))->(∀ b∈zs,c b≠c a)->zs.Pairwise (fun x y=>c x<c y) ->
  ∃ys:List α,yn (f a) (zs.map f)=ys.map f/\ys.Perm (a::zs)/\ys.Pairwise (λx y=>c x<c y)
 |[],_,_,_=>⟨[a],O,.refl _,by simp⟩
 |b::zs,h,hn,hp=>by
  rw[ca]at hp;rw[mP1,yn];have j:=h b mS1;unfold Kr;rw[j];by_cases z:c a<c b
  ·rw[ah z,ak (show(Z M == Z M)=M from rfl)];refine⟨a::b::zs,O,.refl _,ca.mpr ⟨λy d=>?_,ca.mpr hp⟩⟩;rcases aF.mp d with rfl|d
   ·exact z
   ·exact bh z (hp.1 y d)
  ·rw[ai z,aj (by decide)];obtain⟨ys,e,i,k⟩:=wN (λx g=>h x (mC1 _ g)) (λx g=>hn x (mC1 _ g)) hp.2;refine⟨b::ys,by rw[e];rfl,(i.cons b).trans (.swap _ _ _),ca.mpr ⟨λy d=>?_,k⟩⟩;rcases aF.mp (i.mem_iff.mp d)with rfl|d
   ·have:=hn b mS1;lia
   ·exact hp.1 y d
theorem su{α:Type}{f:α->D}{c:α->Nat}:∀ {ks:List α},(∀ a∈ks,∀ b∈ks,ka [] 51 (f a) (f b)=some (decide (c a<c b)))->(ks.map c).Nodup ->
  ∃zs:List α,kE (ks.map f)=zs.map f/\zs.Perm ks/\zs.Pairwise (λx y=>c x<c y)/\mm (zs.map f)=M
 |[],_,_=>⟨[],O,.refl _,.nil,O⟩
 |a::ks,h,hn=>by
  rw[mP1,aO]at hn;obtain⟨zs,e,m,q,_⟩:=su (ks:=ks) (λx g y k=>h x (mC1 _ g) y (mC1 _ k)) hn.2;obtain⟨ys,p,l,j⟩:=wN (a:=a) (zs:=zs) (λb n=>h a mS1 b (mC1 _ (m.mem_iff.mp n))) (λb n z=>hn.1 (cc.mpr ⟨b,m.mem_iff.mp n,z⟩)) q;have i:ys.Perm (a::ks):=l.trans (m.cons a);refine⟨ys,by rw[mP1,kE,e,p],i,j,?_⟩;have k:∀x∈ys,∀y∈ys,ka [] 51 (f x) (f y)=Z (decide (c x<c y)):=λx g y k=>h x (i.mem_iff.mp g) y (i.mem_iff.mp k);clear p l i
  induction ys with
  |nil=>rfl
  |cons y ys ih=>
   rw[ca]at j;rw[mP1,mm,ih j.2 λx g z r=>k x (mC1 _ g) z (mC1 _ r),bN,bC];intro d s;obtain⟨x,g,rfl⟩:=cc.mp s;unfold pW;have o:=j.1 x g;rw[k y mS1 x (mC1 _ g),k x (mC1 _ g) y mS1,ah o,ai (by lia)];rfl
theorem DL{x:D}{S:Sto}{n:Nat}(h:gm x):fU S (n+3) x x=Z M:=by
 have e:=h.eta.1;generalize dm x=a at e;generalize dh x=b at e;generalize dt x=c at e;subst e;have d:∀i:Int,fU S (n+2) (.int i) (.int i)=Z M:=λi=>by show Z (i == i)=_;simp
 have f:fU S (n+2) (.str b) (.str b)=Z M:=by show Z (b == b)=_;simp
 have g:fU S (n+2) (tD c) (tD c)=Z M:=by
  cases c with
  |none=>rfl
  |some t=>exact d t
 rw[Hu,lj,d,oS1,lj,f,oS1,lj,g,oS1,lj];rfl
theorem E8{e:E4}{p q:Rw}(hp:gZ p)(a:gZ q)(h:p.1.code e=q.1.code e->p=q):ka [] 51 (eF e p) (eF e q)=Z (decide (p.1.code e<q.1.code e)):=by
 unfold eF;rw[Kq,oX,Ky.eq (n:=47) hp.1 a.1,oS1];by_cases z:p.1.code e=q.1.code e
 ·rw[ak (ah z),oX];have:=h z;subst this;rw[DL (n:=47) hp.2,oS1,ak O,oX];simp
 ·rw[aj (by rw[al];exact z),Ky.lt (n:=47) hp.1 a.1]
theorem pl_tk:∀k:TK,pl (Mi.tkD k)=M:=λk=>k.rec (motive_1:=λk=>pl (Mi.tkD k)=M) (motive_2:=λks=>m6 (Mi.hW ks)=M) O (λ_=>rfl) (λ_ ih=>by rw[Mi.tkD,pl];exact ih) O (λ_ _ a b=>by rw[Mi.hW,m6,a,b];rfl)
theorem CA{x:D}(h:gm x):pl x=M:=by
 have e:=h.eta.1;generalize dm x=a at e;generalize dh x=b at e;generalize dt x=c at e;subst e;cases c<;>rfl
theorem wb{α:Type}{f:α->D}:∀{l:List α},(∀x∈l,pl (f x)=M)->m6 (l.map f)=M
 |[],_=>rfl
 |x::l,h=>by rw[mP1,m6,h x mS1,wb λy a=>h y (mC1 _ a)];rfl
theorem vi{e:E4}:∀L:List Rw,∃f,oi (L.map (eF e))=Z f
 |[]=>⟨_,O⟩
 |p::L=>by
  refine⟨J,?_⟩;have a:∀q:Rw,ji (eF e q)=Z J:=λq=>rfl;rw[mP1,oi,a];dsimp only;rw[ak];rw[bC];intro d b;obtain⟨q,_,rfl⟩:=cc.mp b;rw[a];rfl
theorem nA{e:E4}{F:List (TK×D)}(h:RW e F)(C:F.length<=4000):
  ∃L:List Rw,RL e F L/\L.length<=F.length /\ ∀(n:Nat) (S:Sto),S[n]?=Z (.lst (F.map uS))->om (.ref n) S=Z (.ref S.length,S++[.lst (L.map (eF e))]):=by
 obtain⟨d,l,ok⟩:=RW.list h.row;have o:∀p∈d,p.1.Ok:=λp g=>(ok p g).1;have nd:(d.map λp=>p.1.code e).Nodup:=by
  have:=h.nd;rw[<- l,bu]at this;refine(df.mpr ((df.mp this).imp_of_mem λ{a b} j i q z=>?_));exact q ((kA (o a j) (o b i)).mpr z)
 have inj:∀a∈d,∀b∈d,a.1.code e=b.1.code e->a=b:=λa j b i z=>by
  have B:=(iD (f:=λp:Rw=>p.1.code e) (c:=b.1.code e) (a:=a) nd).mpr ⟨j,z⟩;have r:=(iD (f:=λp:Rw=>p.1.code e) (c:=b.1.code e) (a:=b) nd).mpr ⟨i,O⟩;rw[B]at r;exact Option.some.inj r
 obtain⟨L,t,m,y,v⟩:=su (f:=eF e) (c:=λp:Rw=>p.1.code e) (ks:=d) (λa j b i=>E8 (ok a j) (ok b i) (inj a j b i)) nd;have x:d.length=F.length:=by rw[<- l,lM1]
 have A:∀k:Ky,k.Ok->d0 F (k.tk e)=(L.find? λp=>decide (p.1.code e=k.code e)).map (·.2):=λk w=>by
  have a1:d0 F (k.tk e)=(d.find? λp=>decide (p.1.code e=k.code e)).map (·.2):=by
   rw[<- l];unfold d0;rw[List.find?_map,Option.map_map];have:(d.find? ((λp:TK×D=>decide (p.1=k.tk e))∘λp:Rw=>(p.1.tk e,p.2)))=d.find? λp=>decide (p.1.code e=k.code e):=by
    apply iU;intro p g;simp only[Function.comp];rw[bQ,al,al];exact kA (o p g) w
   rw[this];rfl
  rw[a1,yu (f:=λp:Rw=>p.1.code e) m nd]
 refine⟨L,⟨y,λp g=>ok p (m.mem_iff.mp g),by rw[m.length_eq];lia,A⟩,by rw[m.length_eq];lia,λn S s=>?_⟩;have ep:F.map uS=d.map (eF e):=by
  rw[<- l,bu];apply db;intro p _;show D.tup [Mi.tkD (p.1.tk e),p.2]=_;rw[p.1.tkD];rfl
 rw[ep]at s;obtain⟨f,u⟩:=vi (e:=e) d;unfold om;rw[jy s];dsimp only;have g:m6 (d.map (eF e))=M:=wb λp g=>by
  unfold eF;rw[pl,m6,m6,m6,CA (ok p g).2,<- p.1.tkD e,pl_tk];rfl
 rw[u,oS1,t,ak (by rw[g,v,lM1,ah (by lia)];rfl)]
noncomputable def tS(e:E4)(F:List (TK×D))(k:Ky):D:=((d0 F (k.tk e)).bind dv).getD (Bf k)
theorem RL.due{e:E4}{F:List (TK×D)}{L:List Rw}(a:RL e (gg F) L)(b:RN e F){k:Ky}(hk:k.Ok):mR e L k=tS e F k:=by
 unfold mR tS;rw[<- a.lk k hk,pV _ b.nd]
theorem n6{F:List (TK×D)}{k:TK}{d:D}(h:d0 F k=Z d):(k,d)∈F:=by
 unfold d0 at h;obtain⟨p,e,f⟩:=oM1.mp h;have c:=List.find?_some e;have g:=dr e;obtain⟨a,b⟩:=p;have c:=of_decide_eq_true c;dsimp only at f c;subst f;subst c;exact g
theorem DI{e:E4}{F:List (TK×D)}(c:RN e F){k:Ky}(hk:k.Ok):gm (tS e F k):=by
 have b:gm (Bf k):=⟨k.m,_,_,O,hk.m,by simp[iA],by simp[im]⟩;unfold tS;cases h:d0 F (k.tk e)with
 |none=>exact b
 |some d=>
  obtain⟨_,_,_,a⟩:=c.row _ (n6 h);rcases a with a|a
  ·rw[oS1,dv,ak a.isT];exact a
  ·dsimp only at a;rw[a];exact b
abbrev Wh:=List Wk×List Nat
noncomputable def il(a:Wh):D:=ed a.1 a.2
noncomputable def Eo(w:ev)(e:E4)(F:List (TK×D))(a:Wh)(u:Wk):D:=tS e F (ky w a.1 a.2 u)
noncomputable def io(m:Nat)(w:ev)(e:E4)(F:List (TK×D))(a:Wh):Wh:=(a.1.map λu=>eY w u (Eo w e F a u),eh m a.1 (Eo w e F a) a.2)
theorem iF{α:Type}{p q:α->Bool}:∀{l:List α},(∀x∈l,p x=q x)->l.any p=l.any q
 |[],_=>rfl
 |x::l,h=>by rw[bd,bd,h x mS1,iF λy a=>h y (mC1 _ a)]
theorem rS{m:Nat}{ws:List Wk}{f g:Wk->D}{cs:List Nat}(h:∀u∈ws,f u=g u):eh m ws f cs=eh m ws g cs:=by
 have:∀s r,ie ws f s r=ie ws g s r:=λs r=>iF λu a=>by rw[h u a]
 unfold eh;simp only[this]
theorem nz{m:Nat}{w:ev}{ws:List Wk}{f g:Wk->D}{cs:List Nat}(h:∀u∈ws,f u=g u):((ws.map λu=>eY w u (f u),eh m ws f cs):Wh)=(ws.map λu=>eY w u (g u),eh m ws g cs):=by
 rw[rS h]
 congr 1
 apply db;intro u a;rw[h u a]
theorem Bt{m:Nat}{w:ev}{e:E4}{F:List (TK×D)}{L:List Rw}{a:Wh}(h:iZ m w a.1 a.2)(b:RL e (gg F) L)(c:RN e F):jo m w a.1 a.2 e L=il (io m w e F a):=by
 have:=nz (m:=m) (w:=w) (ws:=a.1) (cs:=a.2) (f:=ddW w a.1 a.2 e L) (g:=Eo w e F a) λu d=>b.due c (h.ky u d);unfold jo il io;rw[<- this]
theorem xD{m:Nat}{w:ev}{e:E4}{F c:List (TK×D)}{a:Wh}(s:Sub F c)(h:∀u∈a.1,(d0 F ((ky w a.1 a.2 u).tk e)).isSome=M):io m w e c a=io m w e F a:=by
 refine nz λu f=>?_;obtain⟨d,b⟩:=aQ.mp (h u f);unfold Eo tS;rw[b,s _ _ b]
theorem yF{m:Nat}{ws:List Wk}{f:Wk->D}{cs:List Nat}(hm:m<=8):(eh m ws f cs).length<=8 /\ ∀r∈eh m ws f cs,r<m:=by
 unfold eh;refine⟨?_,λr a=>aB.mp (aA.mp a).1⟩;refine aC (di _ _) ?_;rw[dw];exact hm
theorem zp{m:Nat}{w:ev}{ws:List Wk}{cs:List Nat}(h:iZ m w ws cs){u:Wk}(f:u∈ws){x:D}(hx:gm x):∃a,w[(eY w u x).1]?=Z a/\(eY w u x).2.1<=a.length/\(eY w u x).2.2<4000:=by
 have c:=hx.eta.2;obtain⟨a,b,h1,h2⟩:=h.wk u f;unfold eY;rw[b];have base:∃a,w[(u.1,u.2.1,dm x).1]?=Z a/\(u.1,u.2.1,dm x).2.1<=a.length/\(u.1,u.2.1,dm x).2.2<4000:=⟨a,b,h1,c⟩;cases dt x with
 |none=>exact base
 |some t=>
  dsimp only[oS1];cases ep:a[t]? with
  |none=>exact base
  |some p=>
   obtain⟨r,e,d⟩:=h.web.to a (gM1 b) p (gM1 ep);exact⟨r,e,d,c⟩
theorem iZ.step{m:Nat}{w:ev}{e:E4}{F:List (TK×D)}{a:Wh}(h:iZ m w a.1 a.2)(d:RN e F):iZ m w (io m w e F a).1 (io m w e F a).2:=by
 have hc:=yF (m:=m) (ws:=a.1) (f:=Eo w e F a) (cs:=a.2) h.m8;refine⟨h.web,h.m8,by show(a.1.map _).length<=8;rw[lM1];exact h.few,hc.1,λv c=>?_,hc.2⟩;obtain⟨u,b,rfl⟩:=cc.mp c;exact zp h b (DI d (h.ky u b))
theorem Ba{e:E4}{F:List (TK×D)}(b:RN e F){k:Ky}(hk:k.m<3999):dm (tS e F k)<3999:=by
 have a:dm (Bf k)<3999:=by show(k.m:Int).toNat<3999;lia
 unfold tS;cases h:d0 F (k.tk e)with
 |none=>exact a
 |some d=>
  have:=(b.fine _ (n6 h)).1;rw[oS1,dv];split
  ·exact this
  ·exact a
theorem xC{w:ev}{u:Wk}{x:D}:(eY w u x).2.2=dm x:=by
 unfold eY;split
 ·split<;>rfl
 ·rfl
theorem xE{m:Nat}{w:ev}{e:E4}{F:List (TK×D)}{a:Wh}(h:iZ m w a.1 a.2)(d:∀u∈a.1,u.2.2<3999)(c:RN e F):∀u∈(io m w e F a).1,u.2.2<3999:=λv b=>by
 obtain⟨u,f,rfl⟩:=cc.mp b;rw[xC];exact Ba c (d u f)
theorem qy(a:Wh)(n:Nat):(il a).und n=M:=fC lH
theorem vP(b:List Wh)(n:Nat):D.unds n (b.map il)=M:=Mi.eO λa _=>qy a n
structure rX (m:Nat)(w:ev)(e:E4)(F:List (TK×D))(k:Nat)(Ws:List Wh):Prop where
 ok:∀a∈Ws,iZ m w a.1 a.2/\a.1.length=k /\ ∀u∈a.1,u.2.2<3999
 nx:∀(j:Nat) (a b:Wh),Ws[j]?=some a->Ws[j+1]?=some b->b=io m w e F a /\ ∀u∈a.1,(d0 F ((ky w a.1 a.2 u).tk e)).isSome=true
theorem rX.more{m:Nat}{w:ev}{e:E4}{F i:List (TK×D)}{k:Nat}{g:List Wh}{a:Wh}(h:rX m w e F k g)(s:Sub F i)(l:RN e i)(o:g[g.length-1]?=Z a)(ha:∀u∈a.1,(d0 i ((ky w a.1 a.2 u).tk e)).isSome=M):rX m w e i k (g++[io m w e i a]):=by
 have r:=(gE1.mp o).1;have n:=gM1 o;refine⟨λb f=>?_,λj b c f hc=>?_⟩
 ·rcases aG.mp f with f|f
  ·exact h.ok b f
  ·rw[cU.mp f];exact⟨(h.ok a n).1.step l,by show(a.1.map _).length=k;rw[lM1];exact(h.ok a n).2.1,xE (h.ok a n).1 (h.ok a n).2.2 l⟩
 ·by_cases z:j+1<g.length
  ·rw[gL1 (by lia)]at f;rw[gL1 z]at hc;obtain⟨h1,h2⟩:=h.nx j b c f hc;refine⟨by rw[xD s h2];exact h1,λu p=>?_⟩;obtain⟨d,t⟩:=aQ.mp (h2 u p);rw[s _ _ t];rfl
  ·have q:j+1=g.length:=by
    have:=(gE1.mp hc).1;rw[lA1,aY]at this;lia
   rw[gL1 (by lia),show j=g.length-1 by lia,o]at f;rw[gR1 (by lia),q,cM]at hc;cases f;have:io m w e i a=c:=by simpa using hc
   exact⟨this.symm,ha⟩
structure ui (m:Nat)(rs cs:List Nat):Prop where
 few:rs.length<=8
 cl:cs.length<=8
 rs:∀r∈rs,r<m
 cs:∀r∈cs,r<m
noncomputable def standD(rs cs:List Nat):D:=.tup [.tup (fy rs),.tup (fy cs)]
noncomputable def e6(rs cs:List Nat):Wh:=(rs.map λr=>(r,0,0),cs)
theorem xg{m:Nat}{w:ev}{rs cs:List Nat}(hw:oN m w)(hm:m<=8)(h:ui m rs cs):iZ m w (e6 rs cs).1 (e6 rs cs).2:=by
 refine⟨hw,hm,by show(rs.map _).length<=8;rw[lM1];exact h.few,h.cl,λu b=>?_,h.cs⟩;obtain⟨r,a,rfl⟩:=cc.mp b;exact⟨_,gG1 (by rw[hw.len];exact h.rs r a),bi _,by show 0<4000;decide⟩
theorem lJ(rs cs:List Nat)(n:Nat):(standD rs cs).und n=M:=fC (by simp[standD,D.und,D.unds,u7])
theorem uM{rs cs:List Nat}{S:Sto}:dZ (standD rs cs) (.int 0) S=Z (.tup (fy rs),S):=rfl
theorem uL{rs cs:List Nat}{S:Sto}:dZ (standD rs cs) (.int 1) S=Z (.tup (fy cs),S):=rfl
theorem xf{rs:List Nat}{S:Sto}{c:Option D}{Q:List D×Ev×Sto->Prop}(h:∀ b,Q (eQ (e6 rs []).1,b,S)):
  W (fK [] (gN 0) fz (eD (eP (dU (mV 0) (dU (mC (D.int 0)) (dU (mC (D.int 0)) dV))))) (fy rs) [c] S) Q:=by
 refine n0 (f:=λr:Nat=>D.int r) (λr:Nat=>gX (r,0,0)) (λr=>∃x,r=[x]) O rs _ ⟨_,O⟩ ?_ λb _=>?_
 ·rintro a d r ⟨x,rfl⟩;walk_at"w";exact⟨O,_,O⟩
 ·have e:(rs.map λr:Nat=>gX (r,0,0))=eQ (e6 rs []).1:=by unfold eQ e6;rw[bu];rfl
  rw[e];exact h b
theorem G8{g:G1}{m:FE}{r:Ev}{S:Sto}{Q:D×Sto->Prop}(h:W (m r S) λp=>W (g p.1 p.2) Q):W (mN (b1 g) (dU m dV) r S) Q:=by
 obtain⟨p,e,h⟩:=h;unfold mN dU dV;rw[e];exact h
theorem BF{a:FE}{b:FA}{r:Ev}{S:Sto}{Q:List D×Sto->Prop}(h:W (a r S) λp=>W (b r p.2) λq=>Q (p.1::q.1,q.2)):W (dU a b r S) Q:=by
 obtain⟨p,e,q,c,h⟩:=h;unfold dU;rw[e,oS1,c];exact⟨_,O,h⟩
theorem Jh{S:Sto}(h:S.all (Ob.und 0)=M)(n:Nat):S.all (Ob.und n)=M:=by
 rw[bC]at h ⊢;exact λx a=>kU (bi _) (h x a)
theorem lQ{e:E4}{F:List (TK×D)}(h:RN e F)(n:Nat):(Ob.lst ((gg F).map uS)).und n=M:=by rw[Ob.und];exact Cv h n
theorem DJ{m:Nat}{w:ev}{e:E4}{rs cs:List Nat}{o:Ob}{n b:Nat}{Q:D×Sto->Prop}(hw:oN m w)(hm:m<=8)(hst:ui m rs cs)(ho:gy o n)(hn:n<=2^35)(hb:b<=400){s:Nat}(hlim:b*rs.length<=s)(hlim2:s<=3000)(q:∀F L c o' G,RN e F->L.length<=s->RL e (gg F) L->rX m w e F rs.length c->c.length=b+1->c[0]?=some (e6 rs cs)->gy o' (n+100*b)->G.all (Ob.und 0)=true->G[2]?=some (.lst (c.map il))->Q (.tup [mcD e L,.ref 3],o'::G)):
  W (dW 5 eN [.ref 0,webD w,eyD e,standD rs cs,.int b] [o]) Q:=by
 refine oD O O ?_;unfold eN;refine mQ ?_;unfold hK;have U:(eQ (e6 rs []).1).length=rs.length:=by rw[kr];exact lM1 _
 have hfew:=hst.few;refine eW (λr S=>r=[Z (.ref 0),Z (webD w),Z (eyD e),Z (standD rs cs),Z (.int (b:Nat)),Z (.ref 1),Z (.ref 3),Y,Y,Y]/\S=[o,.dct [],.lst (eQ (e6 rs []).1),.lst [il (e6 rs cs)]]) ?_ ?_
 ·((try walk_at"w");repeat(simp only[AA,uM,uL];try walk_at"w"))
  rw[gL];refine xf λr'=>?_;walk_at"w";refine⟨ea (by rw[U];lia),?_⟩;refine eI (xs:=eQ (e6 rs []).1) O ?_
  first|rfl|exact⟨rfl,rfl⟩
 rintro r S ⟨rfl,rfl⟩;refine eW (λr S=>∃F c o' G C y,RN e F/\F.length<=s/\gy o' (n+100*b)/\rX m w e F rs.length c/\c.length=b+1/\c[0]?=Z (e6 rs cs)/\G.all (Ob.und 0)=M/\S=o'::dO F :: .lst (eQ (e6 rs []).1) :: .lst (c.map il)::G/\r=[Z (.ref 0),Z (webD w),Z (eyD e),Z (standD rs cs),Z (.int (b:Nat)),Z (.ref 1),Z (.ref 3),C,y,Y]) ?_ ?_
 ·walk_at"w";rw[mw,Int.toNat_natCast];refine⟨gt (by lia),?_⟩;refine gn (λi r S=>∃F c o' G C y,i<=b/\RN e F/\F.length<=i*rs.length/\gy o' (n+100*i)/\rX m w e F rs.length c/\c.length=i+1/\c[0]?=Z (e6 rs cs)/\G.all (Ob.und 0)=M/\S=o'::dO F :: .lst (eQ (e6 rs []).1) :: .lst (c.map il)::G/\r=[Z (.ref 0),Z (webD w),Z (eyD e),Z (standD rs cs),Z (.int (b:Nat)),Z (.ref 1),Z (.ref 3),C,y,Y]) _ 0 _ _ ?_ (λ_ _ _ _=>rfl) ?_ ?_
  ·refine⟨[],[e6 rs cs],o,[],Y,Y,bi _,RN.nil,bi _,ho,⟨λa N=>?_,λj a b N hb=>?_⟩,O,O,O,O,O⟩
   ·rw [cU.mp N];exact ⟨xg hw hm hst,lM1 _,fun u hu=>by
     obtain⟨r,_,rfl⟩:=cc.mp hu;show 0<3999;decide⟩
   ·simp at hb
  ·rintro i d H r S ⟨F,c,R,G,C,y,hi,t,am,l,au,k,p,I,rfl,rfl⟩;have X:=(gE1.mp H).1;rw[lM1,dw]at X;rw[cY]at *
   have hd':d = .int (i:Nat):=by
    rw[gP1,cI X]at H;exact(Option.some.inj H).symm
   subst hd';have hmul:(i+1)*rs.length<=b*rs.length:=dj _ (by lia);have hmul2:(i+1)*rs.length=i*rs.length+rs.length:=by rw[Nat.add_mul,Nat.one_mul]
   obtain⟨a,N⟩:∃a,c[i]?=some a:=⟨_,gG1 (by lia)⟩;have ham:=gM1 N;obtain⟨ao,hal,P⟩:=au.ok a ham;have wq:(c.map il)[i]?=Z (il a):=by rw[gP1,N];rfl
   walk_at"w";unfold gA;have hX:(Ob.lst (eQ (e6 rs []).1)).und 0=M:=by rw[Ob.und];exact m3 _
   have hY:(Ob.lst (c.map il)).und 0=M:=by rw[Ob.und];exact vP _ 0
   refine eW (λr S=>∃g A,RN e g/\g.length<=F.length+rs.length/\gy A (n+100*i+100)/\Sub F g/\(∀u∈a.1,(d0 g ((ky w a.1 a.2 u).tk e)).isSome=M)/\S=A::dO g :: .lst (eQ (e6 rs []).1) :: .lst (c.map il)::G/\r=[Z (.ref 0),Z (webD w),Z (eyD e),Z (standD rs cs),Z (.int (b:Nat)),Z (.ref 1),Z (.ref 3),Z (.int (i:Nat)),y,Y]) ?_ ?_
   ·walk_at"w";refine oO (i:=i) (xs:=c.map il) (x:=il a) O wq ?_;walk_at"w";refine Dz (ws:=a.1) (cs:=a.2) (T:=.lst (eQ (e6 rs []).1) :: .lst (c.map il)::G) ao P t (by rw[bP,bP,hX,hY,I];rfl) l (by lia) (by lia) λg A f E v z B=>?_;rw[hal]at E;exact⟨g,A,f,E,v,z,B,O,trivial⟩
   rintro r S ⟨g,A,f,E,v,z,B,rfl,rfl⟩;obtain⟨L2',rl2,_,_⟩:=nA (k6 f) (aC (live_len g) (by lia));generalize h:A::dO g::Ob.lst (eQ (e6 rs []).1)::Ob.lst (c.map il)::G=S2;have g1:S2[1]?=Z (dO g):=by rw[<- h];rfl
   have c2:S2.all (Ob.und 0)=M:=by rw[<- h,bP,bP,bP,bP,v.und,f.und,hX,hY,I];rfl
   refine eW (λr S=>S=S2++[.lst ((gg g).map uS),dO (gg g)]/\r=[Z (.ref 0),Z (webD w),Z (eyD e),Z (standD rs cs),Z (.int (b:Nat)),Z (.ref 1),Z (.ref 3),Z (.int (i:Nat)),Z (.ref (S2.length+1)),Y]) ?_ ?_
   ·unfold eA;refine ec.mpr (G8 (wg f (by lia) g1 O ?_));refine GV f (by lia) (by rw[eK];rfl) ?_;walk_at"w"
   rintro r S ⟨hS,rfl⟩;have g3:S[S2.length+1]?=Z (dO (gg g)):=by rw[hS,gD];rfl
   have g4:S[3]?=Z (.lst (c.map il)):=by rw[hS,<- h];rfl
   have c3:S.all (Ob.und 0)=M:=by
    rw[hS,dy,c2,bP,bP,lQ f,(k6 f).und];rfl
   unfold fT;rw[ec];refine lD ?_;walk_at"w";refine⟨3,c.map il,O,g4,?_⟩
   try walk_at"w"
   refine oO (i:=i) (xs:=c.map il) (x:=il a) g4 wq ?_
   try walk_at"w"
   refine wD (ws:=a.1) (cs:=a.2) ao rl2 g3 (Jh c3 _) ?_;rw[Bt ao rl2 f];walk_at"w";refine(uh g4).mpr ⟨ea (by rw[lM1];lia),?_⟩;have K:c[c.length-1]?=Z a:=by rw[k];exact N
   refine⟨g,c++[io m w e g a],A,G++[.lst ((gg g).map uS),dO (gg g)],_,_,by lia,f,by lia,v.more (by lia),au.more z f K B,by rw[lA1,k];rfl,?_,?_,?_,O⟩
   ·rw[gL1 (by lia)];exact p
   ·rw[dy,I,bP,bP,lQ f,(k6 f).und];rfl
   ·rw[hS,<- h];simp only[bj,c6,c0,cu,mP1,aZ]
  ·rintro r S ⟨F,c,R,G,C,y,hi,t,am,l,au,k,p,I,rfl,rfl⟩;rw[lM1,dw,cY]at *
   exact⟨O,F,c,R,G,_,_,t,by lia,l,au,k,p,I,O,O⟩
 rintro r S ⟨F,c,R,G,C,y,t,am,l,au,k,p,I,rfl,rfl⟩;obtain⟨L,rl,hLl,aq⟩:=nA (k6 t) (aC (live_len F) (by lia));have hX:(Ob.lst (eQ (e6 rs []).1)).und 0=M:=by rw[Ob.und];exact m3 _
 have hY:(Ob.lst (c.map il)).und 0=M:=by rw[Ob.und];exact vP _ 0
 generalize h:R::dO F::Ob.lst (eQ (e6 rs []).1)::Ob.lst (c.map il)::G=S2;have g1:S2[1]?=Z (dO F):=by rw[<- h];rfl
 refine eW (λr S=>S=S2++[.lst ((gg F).map uS),.lst (L.map (eF e))]/\r=[Z (.ref 0),Z (webD w),Z (eyD e),Z (standD rs cs),Z (.int (b:Nat)),Z (.ref 1),Z (.ref 3),C,y,Z (mcD e L)]) ?_ ?_
 ·unfold eA;refine ec.mpr (BD.mpr (BF ?_));refine W.of (x:=(eyD e,S2)) O ?_;refine BF (G8 (G8 (wg t (by lia) g1 O ?_)));dsimp only;refine W.of (aq S2.length _ (by rw[eK];rfl)) ?_;dsimp only;refine BE.mpr (eI (xs:=L.map (eF e)) (by rw[eK];rfl) ?_);refine W.of (x:=([],_)) O ?_;refine⟨K2,?_⟩;refine W.of (x:=_) O ?_;refine⟨O,?_,O⟩;simp
 rintro r S ⟨rfl,rfl⟩;have ur:=i6 (e:=e) rl.ok 0;simp only[D.und]at ur;have hg:∀V,gc 1 (D.tup [mcD e L,.ref 3],V)=(D.tup [mcD e L,.ref 3],V):=λV=>by
  unfold gc;rw[aj];simp[D.und,D.unds]
 walk_at"w";show Q (gc 1 (D.tup [mcD e L,.ref 3],_));rw[hg,<- h];refine q F L c R (dO F::Ob.lst (eQ (e6 rs []).1)::Ob.lst (c.map il)::(G++[.lst ((gg F).map uS),.lst (L.map (eF e))])) t (aC hLl (aC (live_len F) am)) rl au k p l ?_ O;rw[bP,bP,bP,dy,t.und,hX,hY,I,bP,bP,lQ t,Ob.und,ur];rfl
noncomputable def rg(b:Bool)(n:Nat):List Nat:=if b=M then af n else[0]
noncomputable def SG(e:E4):List Ky:=(rg e.1 5).flatMap λx=>(rg e.2.1 2).flatMap λy=>(rg e.2.2.1 5).flatMap λz=>(rg e.2.2.2 2).map λw=>⟨0,x,y,z,w⟩
theorem v6{b:Bool}{n x:Nat}(hn:0<n)(h:b=M->x<n):cx b x∈rg b n:=by
 unfold rg cx;cases b with
 |false=>simp
 |true=>simpa using h O
structure Ex (e:E4)(k:Ky):Prop where
 x:k.x<=4
 y:e.2.1=true->k.y<=1
 z:k.z<=4
 w:e.2.2.2=true->k.w<=1
noncomputable def Hq(e:E4)(k:Ky):Ky:=⟨0,cx e.1 k.x,cx e.2.1 k.y,cx e.2.2.1 k.z,cx e.2.2.2 k.w⟩
theorem Aa{e:E4}{k:Ky}(h:Ex e k):Hq e k∈SG e:=by
 unfold SG Hq;refine dz.mpr ⟨_,v6 (by decide) λ_=>dA h.x,?_⟩;refine dz.mpr ⟨_,v6 (by decide) λz=>dA (h.y z),?_⟩;refine dz.mpr ⟨_,v6 (by decide) λ_=>dA h.z,?_⟩;exact cc.mpr ⟨_,v6 (by decide) λz=>dA (h.w z),O⟩
theorem Ia(b:Bool)(x:Nat):pt b (cx b x)=pt b x:=by cases b<;>rfl
theorem FZ(e:E4)(k:Ky):(Hq e k).sg e=k.sg e:=by
 unfold Hq Ky.sg Jy;simp only[Ia]
theorem v5{b:Bool}{n x:Nat}(hn:0<n)(h:x∈rg b n):x<n:=by
 unfold rg at h;cases b with
 |false=>simp at h;lia
 |true=>simpa using h
theorem uj{e:E4}{k:Ky}(h:k∈SG e):k.m=0/\k.Ok/\Ex e k:=by
 unfold SG at h;obtain⟨x,a,h⟩:=dz.mp h;obtain⟨y,c,h⟩:=dz.mp h;obtain⟨z,d,h⟩:=dz.mp h;obtain⟨w,b,rfl⟩:=cc.mp h;have h1:=v5 (by decide) a;have h2:=v5 (by decide) c;have f:=v5 (by decide) d;have g:=v5 (by decide) b;exact⟨O,⟨by show 0<4000;decide,by show x<=4;lia,by show y<=4;lia,by show z<=4;lia,by show w<=4;lia⟩,⟨by show x<=4;lia,λ_=>by show y<=1;lia,by show z<=4;lia,λ_=>by show w<=1;lia⟩⟩
noncomputable def AK(o:Option (D×Sto)):Bool:=match o with
 |some (.bl M,_)=>M
 |_=>J
theorem ve{n:Nat}{f:FN}{ds:List D}{S:Sto}{Q:D×Sto->Prop}(hn:ds.length=n)(a:D.unds 0 ds=M)(h:AK (f ds [])=M)(q:Q (.bl M,S)):W (dW n f ds S) Q:=by
 refine hH hn a ?_;unfold AK at h;split at h
 ·rename_i G e;exact⟨_,e,O,q⟩
 ·cases h
theorem xI:∀a b c d:Bool,(SG (a,b,c,d)).all (λk=>AK (gO [eyD (a,b,c,d),k.sg (a,b,c,d)] []))=M:=by
 intro a b c d;cases a<;>cases b<;>cases c<;>cases d<;>decide+kernel
theorem A7:∀a b c d:Bool,AK (gQ [eyD (a,b,c,d)] [])=M:=by
 intro a b c d;cases a<;>cases b<;>cases c<;>cases d<;>decide+kernel
theorem xG(e:E4):(jc [eyD e] []).map (·.1)=Z (.tup ((SG e).map (·.sg e))):=by
 obtain⟨a,b,c,d⟩:=e;cases a<;>cases b<;>cases c<;>cases d<;>kernel_rfl!
theorem EZ(e:E4):D.unds 0 ((SG e).map (·.sg e))=M:=Mi.eO λk _=>k.sgu e 0
theorem zu{e:E4}{S:Sto}{Q:D×Sto->Prop}(q:Q (.tup ((SG e).map (·.sg e)),S)):W (dW 1 jc [eyD e] S) Q:=by
 refine hH O (by rw[D.unds,gF];rfl) ?_;obtain⟨⟨d,G⟩,b,a⟩:=oM1.mp (xG e);dsimp only at a;subst a;exact⟨_,b,by rw[D.und];exact EZ e,q⟩
noncomputable def Ao:D:=.tup [.int 1,.str "mark",.non]
noncomputable def Hz(x:D):D:=.tup [.int ((dm x+1:Nat):Int),.str (dh x),tD (dt x)]
noncomputable def BN(k:Ky):Ky:=⟨k.m+1,k.x,k.y,k.z,k.w⟩
noncomputable def B6(p:Rw):Rw:=(BN p.1,Hz p.2)
noncomputable def MK(e:E4)(L:List Rw):List Rw:=(SG e).map (λk=>(k,Ao))++L.map B6
theorem CY{e:E4}{p:Rw}{S:Sto}{Q:D×Sto->Prop}(hp:gZ p)(q:Q (eF e (B6 p),S)):W (dW 1 fR [eF e p] S) Q:=by
 obtain⟨k,x⟩:=p;have ex:=hp.2.eta.1;dsimp only at ex;refine hH O (by rw[D.unds,show(eF e (k,x)).und 0=M by have:=i6 (e:=e) (L:=[(k,x)]) (λp h=>by rw[cU.mp h];exact hp) 0;simpa[D.und,D.unds]using this];rfl) ?_;unfold fR;refine mQ ?_;unfold oF;have d:eF e (B6 (k,x)) = .tup [.tup [.int ((k.m+1:Nat):Int),k.sg e],.tup [.int ((dm x+1:Nat):Int),.str (dh x),tD (dt x)]]:=rfl;have f:(eF e (B6 (k,x))).und 0=M:=by
  have h1:=k.sgu e 0;have h2:(tD (dt x)).und 0=M:=by cases dt x<;>rfl
  rw[d];simp[D.und,D.unds,h1,h2]
 rw[d]at q f;have j:eF e (k,x) = .tup [.tup [.int k.m,k.sg e],.tup [.int (dm x:Nat),.str (dh x),tD (dt x)]]:=by
  show D.tup [k.d e,x]=_;rw[<- ex];rfl
 rw[j];generalize dm x=a at *
 generalize dh x=b at *
 generalize tD (dt x)=c at *
 generalize k.sg e=s at *
 have g:((k.m:Int)+1)=((k.m+1:Nat):Int):=by push_cast;rfl
 have i:((a:Int)+1)=((a+1:Nat):Int):=by push_cast;rfl
 ((try walk_at"w");repeat(simp only[g,i];try walk_at"w"))
 exact⟨f,q⟩
theorem Ch{e:E4}{p:Rw}(hp:gZ p)(n:Nat):(eF e p).und n=M:=by
 have h1:=p.1.und e n;have h2:=fC (n:=n) hp.2.und;simp[eF,D.und,D.unds,h1,h2]
theorem pR{e:E4}{L:List Rw}{S:Sto}{Q:D×Sto->Prop}(ok:∀p∈L,gZ p)(m:L.length<=3000)(hm:∀p∈MK e L,gZ p)(q:Q (mcD e (MK e L),S)):W (dW 1 gH [mcD e L] S) Q:=by
 refine hH O (by rw[D.unds,ng ok];rfl) ?_;unfold gH;refine mQ ?_;unfold qr;refine eW (λr V=>V=[]/\r=[Z (mcD e L),Z (eyD e),Z (.tup (L.map (eF e))),Y]) ?_ ?_
 ·unfold mcD;walk_at"w"
 rintro r V ⟨rfl,rfl⟩;have g:(SG e).length<=1000:=by
  obtain⟨a,b,c,d⟩:=e;cases a<;>cases b<;>cases c<;>cases d<;>decide
 refine eW (λr V=>V=[.lst ((SG e).map λk=>eF e (k,Ao))]/\r=[Z (mcD e L),Z (eyD e),Z (.tup (L.map (eF e))),Z (.ref 0)]) ?_ ?_
 ·walk_at"w";refine zu ?_;rw[gL];refine n0 (f:=λk:Ky=>k.sg e) (λk:Ky=>eF e (k,Ao)) (λr=>∃x,r=[x]) O (SG e) _ ⟨_,O⟩ ?_ λi _=>?_
  ·rintro k j r ⟨x,rfl⟩;walk_at"w";refine⟨?_,_,O⟩;unfold eF Ky.d;rw[(uj j).1];rfl
  ·walk_at"w";exact⟨ea (by rw[lM1];lia),trivial⟩
 rintro r V ⟨rfl,rfl⟩;have key:W (eS 1 [] (gz (mV 2)) (gN 0) fz (eD (mN (dW 1 fR) (dU (mV 0) dV))) [Z (mcD e L),Z (eyD e),Z (.tup (L.map (eF e))),Z (.ref 0)] [.lst ((SG e).map λk=>eF e (k,Ao))]) λp=>p=(.ref 1,[.lst ((SG e).map λk=>eF e (k,Ao)),.lst ((L.map B6).map (eF e))]):=by
  rw[rY];walk_at"w";rw[gL];refine n0 (f:=eF e) (λp:Rw=>eF e (B6 p)) (λr=>∃x,r=[x]) O L _ ⟨_,O⟩ ?_ λi _=>?_
  ·rintro p l r ⟨x,rfl⟩;walk_at"w";refine CY (ok p l) ?_;exact⟨O,O,_,O⟩
  ·refine⟨ea (by dsimp only;rw[lM1];lia),?_⟩;rw[bu];rfl
 obtain⟨p,h,rfl⟩:=key;generalize eS 1 [] (gz (mV 2)) (gN 0) fz (eD (mN (dW 1 fR) (dU (mV 0) dV)))=ao at *
 ((try walk_at"w");repeat(simp only[h];try walk_at"w"))
 refine(Hd (a:=0) (b:=1) (xs:=(SG e).map λk=>eF e (k,Ao)) (ys:=(L.map B6).map (eF e)) O O).mpr ⟨ea (by rw[lM1,lM1,lM1];lia),?_⟩;refine eI (xs:=(MK e L).map (eF e)) ?_ ?_
 ·unfold MK;rw[cu,bu,bu];rfl
 ·exact⟨ng hm,q⟩
theorem qz{xs:List D}{n:Nat}{S:Sto}{Q:D×Sto->Prop}(a:D.unds 0 xs=M)(hn:xs.length=n)(q:Q (.bl M,S)):W (dW 2 ei [.tup xs,.int (n:Nat)] S) Q:=by
 refine hH O (by rw[D.unds,D.und,a];rfl) ?_;unfold ei;refine mQ ?_;unfold jZ
 ((try walk_at"w");repeat(simp only[j9,vd];try walk_at"w"))
 subst hn;rw[show(((xs.length:Nat):Int) == (xs.length:Int))=M from beq_self_eq_true _];exact⟨O,q⟩
theorem Jj{f g:FN}{a b c:FE}{r:Ev}{S:Sto}{Q:D×Sto->Prop}:W (Gz f g a b c r S) Q↔W (a r S) λp=>W (b r p.2) λq=>W (f [p.1,q.1] q.2) λt=>W (match t.1 with | .bl k=>if k=true then(c r t.2).bind λz=>g [q.1,z.1] z.2 else some (.bl false,t.2)|_=>none) Q:=by
 unfold Gz;simp only[ec]
 try exact Iff.rfl
theorem DP{r:Ev}{S:Sto}{m i:Nat}{j:Int}{c:FE}{Q:D×Sto->Prop}(hi:r[i]?=Z (Z (.int j)))(hc:c r S=Z (.int m,S))(q:Q (.bl (decide (0<=j)&&decide (j<m)),S)):W (Gz (b2 (iC λi j=>decide (i<=j))) (b2 wS) (mC (D.int (0))) (mV i) c r S) Q:=by
 have e:mV i r S=Z (.int j,S):=by unfold mV;rw[hi]
 rw[Jj];unfold mC;rw[ej];dsimp only;rw[e,ej];dsimp only;unfold b2 iC;dsimp only;rw[ej];dsimp only;cases h:decide (0<=j)with
 |false=>
  rw[aj (by decide),ej];rw[h]at q;exact q
 |true=>
  rw[ak O,hc,ec,ej];rw[h]at q;exact W.of O q
theorem jM{n m:Nat}{S:Sto}{Q:D×Sto->Prop}(h:n<m)(q:Q (.bl M,S)):W (dW 2 ff [.int (n:Nat),.int (m:Nat)] S) Q:=by
 refine hH O O ?_;unfold ff;refine mQ ?_;unfold oH;walk_at"w";refine hH O O ?_;unfold iR;refine mQ ?_;unfold oG
 ((try walk_at"w");repeat(simp only[j9,vd];try walk_at"w"))
 have h1:decide ((0:Int)<=(n:Nat))=M:=ah (by lia);have h2:decide ((n:Int)<(m:Nat))=M:=ah (by lia);refine⟨O,?_⟩
 try rw[ak O]
 refine DP (m:=m) (j:=n) O O ?_;rw[h1,h2];exact⟨O,q⟩
theorem GP{h:D}{S:Sto}{Q:D×Sto->Prop}(a:h∈iA)(q:Q (.bl M,S)):W (dW 1 jF [h] S) Q:=by
 simp only[iA,aF,bM,or_false]at a;rcases a with rfl|rfl|rfl<;>exact ve O (by decide) (by decide+kernel) q
theorem Ji{a b:FE}{r:Ev}{S:Sto}{Q:D×Sto->Prop}:W (Dc a b r S) Q↔W (a r S) λp=>W (qB p.2 p.1) λk=>if k=M then Q p else W (b r p.2) Q:=by
 unfold Dc;simp only[ec,qu,ej]
theorem G4{x:D}{S:Sto}{Q:D×Sto->Prop}(hx:gm x)(q:Q (.bl M,S)):W (dW 1 ix [x] S) Q:=by
 have a:=hx.und;refine hH O (by rw[D.unds,a];rfl) ?_;obtain⟨m,h,t,rfl,c,d,b⟩:=hx.is;unfold ix;refine mQ ?_;unfold qt;walk_at"w";refine qz (n:=3) (by rw[D.und]at a;exact a) O ?_
 ((try walk_at"w");repeat(simp only[iV,nh];try walk_at"w"))
 refine jM (m:=4000) c ?_;walk_at"w";refine GP d ?_
 ((try walk_at"w");repeat(simp only[Ji];try walk_at"w"))
 simp only[im,aF,bM,or_false]at b;rcases b with rfl|rfl|rfl|rfl|rfl
 ·exact W.of (x:=(.bl M,[])) O (W.of (x:=M) O (by rw[ak O];exact⟨O,q⟩))
 all_goals
  refine W.of (x:=(.bl J,[])) O (W.of (x:=J) O ?_);rw[aj (by decide)]
 ·exact jM (n:=0) (m:=4) (by decide) ⟨O,q⟩
 ·exact jM (n:=1) (m:=4) (by decide) ⟨O,q⟩
 ·exact jM (n:=2) (m:=4) (by decide) ⟨O,q⟩
 ·exact jM (n:=3) (m:=4) (by decide) ⟨O,q⟩
theorem Cg{e:E4}{k:Ky}{S:Sto}{Q:D×Sto->Prop}(hk:Ex e k)(q:Q (.bl M,S)):W (dW 2 gO [eyD e,k.sg e] S) Q:=by
 obtain⟨a,b,c,d⟩:=e;have h:=bC.mp (xI a b c d) _ (Aa hk);rw[FZ]at h;exact ve O (by rw[D.unds,gF,D.unds,k.sgu (a,b,c,d) 0];rfl) h q
theorem HY{e:E4}{p:Rw}{S:Sto}{Q:D×Sto->Prop}(hp:gZ p)(hk:Ex e p.1)(q:Q (.bl M,S)):W (dW 2 jd [eyD e,eF e p] S) Q:=by
 have a:=p.1.und e 0;have b:=hp.2.und;refine hH O (by rw[D.unds,gF,D.unds,Ch hp 0];rfl) ?_;unfold jd;refine mQ ?_;unfold uc eF;walk_at"w";refine qz (n:=2) (by rw[D.unds,a,D.unds,b];rfl) O ?_;walk_at"w";refine W.of (x:=(p.1.d e,[])) O ?_;walk_at"w";refine hH O (by rw[D.unds,gF,D.unds,a];rfl) ?_;unfold k0;refine mQ ?_;unfold ud Ky.d;walk_at"w";refine qz (n:=2) (by rw[Ky.d,D.und]at a;exact a) O ?_;walk_at"w";refine W.of (x:=(.int p.1.m,[])) O ?_
 ((try walk_at"w");repeat(simp only[iV];try walk_at"w"))
 refine jM (m:=4000) hp.1.m ?_;walk_at"w";refine W.of (x:=(p.1.sg e,[])) O ?_;walk_at"w";refine Cg hk ?_;refine⟨O,?_⟩;walk_at"w";refine W.of (x:=(p.2,[])) O ?_;walk_at"w";exact G4 hp.2 ⟨O,q⟩
theorem Ep{α:Type}{F:α->Bool}{xs:List α}{n:Nat}{S:Sto}(h:S[n]?=Z (.lst (xs.map λx=>D.bl (F x)))):vp (.ref n) S=Z (.bl (xs.all F),S):=by
 unfold vp;rw[jy h,oS1];dsimp only;rw[uf];rfl
theorem E9{α:Type}{f:α->D}{c:α->Nat}{L:List α}{n:Nat}{U:Sto}{Q:D×Sto->Prop}(e:∀ a∈L,∀ b∈L,wS (f a) (f b) U=Z (.bl (decide (c a<c b)),U))(k:L.length<=10000)(d:U[n]?=Z (.lst (L.map f)))(hs:L.Pairwise λa b=>c a<c b)(q:∀G,Q (.bl M,U++G)):W (fE [.ref n] U) Q:=by
 unfold fE;refine mQ ?_;unfold mH;walk_at"w";refine eI d ?_;walk_at"w";rw[lM1];refine⟨Br (by lia) (by lia),?_⟩;rw[mw,show((L.length:Int)-1).toNat=L.length-1 by lia];refine n0 (f:=λj:Nat=>D.int j) (λ_=>D.bl M) (λg=>∃x,g=[x,Z (.ref n)]) O (af (L.length-1)) _ ⟨_,O⟩ ?_ ?_
 ·rintro i hi g ⟨x,rfl⟩;have hi:=aB.mp hi;have h1:i<L.length:=by lia
  have h2:i+1<L.length:=by lia
  walk_at"w";refine oO (x:=f (L[i]'(h1))) d (by rw[gP1,gG1 h1];rfl) ?_;walk_at"w";rw[show((i:Int)+1)=((i+1:Nat):Int) by push_cast;rfl];refine oO (x:=f (L[i+1]'(h2))) d (by rw[gP1,gG1 h2];rfl) ?_
  ((try walk_at"w");repeat(simp only[e _ (bS h1) _ (bS h2)];try walk_at"w"))
  have:=cw.mp hs i (i+1) h1 h2 (by lia);rw[ah this];exact⟨O,_,O⟩
 ·rintro g _;refine⟨ea (by rw[lM1,dw];lia),?_⟩;walk_at"w";have h:=Ep (F:=λ_:Nat=>M) (xs:=af (L.length-1)) (n:=U.length) (S:=U++[.lst ((af (L.length-1)).map λ_=>D.bl M)]) (by rw[eK];rfl);rw[bC.mpr (λ_ _=>rfl)]at h
  ((try walk_at"w");repeat(simp only[h];try walk_at"w"))
  exact q _
theorem E7{e:E4}{L:List Rw}{S:Sto}{Q:D×Sto->Prop}(ok:∀p∈L,gZ p)(hk:∀p∈L,Ex e p.1)(m:L.length<=4000)(hs:BK e L)(q:Q (.bl M,S)):W (dW 2 gP [eyD e,.tup (L.map (eF e))] S) Q:=by
 refine hH O (by rw[D.unds,gF,D.unds,i6 ok];rfl) ?_;unfold gP;refine mQ ?_;unfold oI;refine eW (λr V=>V=[]/\r=[Z (eyD e),Z (.tup (L.map (eF e)))]) ?_ ?_
 ·((try walk_at"w");repeat(simp only[hG,j9,vd];try walk_at"w"))
  rw[aj (by rw[al,lM1];lia)];trivial
 rintro r V ⟨rfl,rfl⟩;refine eW (λr V=>V=[.lst (L.map λ_=>.bl M)]/\r=[Z (eyD e),Z (.tup (L.map (eF e)))]) ?_ ?_
 ·walk_at"w";rw[gL];refine n0 (f:=eF e) (λ_=>D.bl M) (λr=>∃x,r=[x,Z (eyD e)]) O L _ ⟨_,O⟩ ?_ ?_
  ·rintro p d r ⟨x,rfl⟩;walk_at"w";refine HY (ok p d) (hk p d) ?_;exact⟨O,O,_,O⟩
  ·rintro l _;refine⟨ea (by rw[lM1];lia),?_⟩;have g:=Ep (F:=λ_:Rw=>M) (xs:=L) (n:=0) (S:=[.lst (L.map λ_=>D.bl M)]) O;rw[bC.mpr (λ_ _=>rfl)]at g
   ((try walk_at"w");repeat(simp only[g];try walk_at"w"))
 rintro r V ⟨rfl,rfl⟩;walk_at"w";rw[gL];refine n0 (f:=eF e) (λp=>p.1.d e) (λr=>∃x y,r=[x,y]) O L _ ⟨_,_,O⟩ ?_ ?_
 ·rintro p d r ⟨x,y,rfl⟩;unfold eF;walk_at"w";exact⟨_,_,O⟩
 rintro l _;refine⟨ea (by rw[lM1];lia),?_⟩;walk_at"w";have i:∀o∈[Ob.lst (L.map λ_=>D.bl M),Ob.lst (L.map λp=>p.1.d e)],o.und 2=M:=λo h=>by
  simp only[aF,bM,or_false]at h;rcases h with rfl|rfl
  ·rw[Ob.und];exact Mi.eO λ_ _=>rfl
  ·rw[Ob.und];exact Mi.eO λp _=>p.1.und e 2
 refine oD O O ((E9 (n:=1) (f:=λp:Rw=>p.1.d e) (c:=λp:Rw=>p.1.code e) (L:=L) (λa j b k=>?_) (by lia) O hs λG=>?_))
 ·unfold wS;rw[show ka _ eL (a.1.d e) (b.1.d e)=_ from Ky.lt (n:=57) (ok a j).1 (ok b k).1];rfl
 ·rw[vk O (bC.mpr i)];exact⟨O,q⟩
theorem x0{e:E4}{L:List Rw}{S:Sto}{Q:D×Sto->Prop}(ok:∀p∈L,gZ p)(hk:∀p∈L,Ex e p.1)(g:L.length<=4000)(hs:BK e L)(q:Q (.bl M,S)):W (dW 1 fZ [mcD e L] S) Q:=by
 have f:=ng (e:=e) ok;refine hH O (by rw[D.unds,f];rfl) ?_;unfold fZ;refine mQ ?_;unfold ln mcD;walk_at"w";refine qz (n:=2) (by rw[mcD,D.und]at f;exact f) O ?_;walk_at"w";refine W.of (x:=(eyD e,[])) O ?_;walk_at"w";have h:AK (gQ [eyD e] [])=M:=by
  obtain⟨a,b,c,d⟩:=e;exact A7 a b c d
 refine ve O (by rw[D.unds,gF];rfl) h ?_;walk_at"w";refine W.of (x:=(eyD e,[])) O ?_;walk_at"w";refine W.of (x:=(.tup (L.map (eF e)),[])) O ?_;walk_at"w";refine E7 ok hk g hs ?_;exact⟨O,q⟩
theorem RL.fine{e:E4}{F:List (TK×D)}{L:List Rw}(b:RL e (gg F) L)(i:RN e F){p:Rw}(hp:p∈L):Kf e p.1/\dm p.2<3999:=by
 have h:=(b.ok p hp).1;have h1:=(iD (f:=λq:Rw=>q.1.code e) (c:=p.1.code e) (a:=p) b.inc.nd).mpr ⟨hp,O⟩;have h2:=b.lk p.1 h;rw[h1]at h2;have g:=(aA.mp (n6 h2)).1;have d:=i.fine _ g;exact⟨d.2 p.1 O,d.1⟩
theorem gm.parts{x:D}(h:gm x):D.str (dh x)∈iA/\tD (dt x)∈im:=by
 obtain⟨m,y,t,rfl,c,h1,h2⟩:=h.is;have b:=h1;have a:=h2;simp only[iA,aF,bM,or_false]at h1;simp only[im,aF,bM,or_false]at h2;rcases h1 with e|e|e<;>subst e<;>rcases h2 with e|e|e|e|e<;>subst e<;>exact⟨b,a⟩
theorem Hy{e:E4}{p:Rw}(h:gZ p)(hf:Kf e p.1)(hd:dm p.2<3999):gZ (B6 p):=by
 obtain⟨h1,h2⟩:=h.2.parts;have:=hf.2.2;exact⟨⟨by show p.1.m+1<4000;lia,h.1.x,h.1.y,h.1.z,h.1.w⟩,⟨dm p.2+1,_,_,O,by lia,h1,h2⟩⟩
theorem An:gm Ao:=⟨1,_,_,O,by decide,by simp[iA],by simp[im]⟩
theorem BJ{e:E4}{F:List (TK×D)}{L:List Rw}(b:RL e (gg F) L)(f:RN e F){p:Rw}(hp:p∈MK e L):gZ p/\Ex e p.1:=by
 unfold MK at hp;rcases aG.mp hp with hp|hp
 ·obtain⟨k,d,rfl⟩:=cc.mp hp;exact⟨⟨(uj d).2.1,An⟩,(uj d).2.2⟩
 ·obtain⟨q,c,rfl⟩:=cc.mp hp;obtain⟨h1,h2⟩:=b.fine f c;have a:=b.ok q c;exact⟨Hy a h1 h2,⟨a.1.x,h1.1,a.1.z,h1.2.1⟩⟩
theorem Hi(e:E4):(SG e).Pairwise λk l=>k.code e<l.code e:=by
 obtain⟨a,b,c,d⟩:=e;cases a<;>cases b<;>cases c<;>cases d<;>decide+kernel
theorem BH(e:E4):(SG e).length<=100:=by
 obtain⟨a,b,c,d⟩:=e;cases a<;>cases b<;>cases c<;>cases d<;>decide
theorem jw(k:Ky)(e:E4):(BN k).code e=k.code e+4096:=by
 unfold Ky.code;show(k.m+1)*4096+kl e.bs k.xs=_;lia
theorem xk{e:E4}{k:Ky}(h:k∈SG e):k.code e<4096:=by
 have:=jn (uj h).2.1 e;unfold Ky.code;rw[(uj h).1];lia
theorem Hm{e:E4}{L:List Rw}(h:BK e L):BK e (MK e L):=by
 unfold MK BK;refine cB.mpr ⟨df.mpr (Hi e),df.mpr (List.Pairwise.imp (λ{a b} z=>?_) h),?_⟩
 ·show(BN a.1).code e<(BN b.1).code e;rw[jw,jw];lia
 ·intro p c q d;obtain⟨k,f,rfl⟩:=cc.mp c;obtain⟨l,_,rfl⟩:=cc.mp d;show k.code e<(BN l.1).code e;rw[jw];have:=xk f;lia
theorem Hl{e:E4}{L:List Rw}(h:L.length<=3000):(MK e L).length<=4000:=by
 unfold MK;have:=BH e;rw[lA1,lM1,lM1];lia
noncomputable def FD(e:E4)(L:List Rw):List (TK×D):=L.map λp=>(p.1.tk e,p.2)
theorem RL.of{e:E4}{L:List Rw}(hi:BK e L)(ok:∀p∈L,gZ p)(b:L.length<=4000):RL e (FD e L) L:=by
 refine⟨hi,ok,b,λk c=>?_⟩;unfold d0 FD;rw[List.find?_map,Option.map_map];have:(L.find? ((λp:TK×D=>decide (p.1=k.tk e))∘λp:Rw=>(p.1.tk e,p.2)))=L.find? λp=>decide (p.1.code e=k.code e):=by
  apply iU;intro p a;simp only[Function.comp];rw[bQ,al,al];exact kA (ok p a).1 c
 rw[this];rfl
theorem GW{e:E4}{L:List Rw}{n:Nat}{S:Sto}{Q:D×Sto->Prop}(hi:BK e L)(ok:∀p∈L,gZ p)(i:L.length<=4000)(c:S[n]?=Z (.lst (L.map (eF e))))(q:Q (.ref S.length,S++[dO (FD e L)])):W (jk (.ref n) S) Q:=by
 refine W.of ?_ q;have ep:L.map (eF e)=(FD e L).map uS:=by
  unfold FD;rw[bu];apply db;intro p _;show _=D.tup [Mi.tkD (p.1.tk e),p.2];rw[p.1.tkD];rfl
 have hnd:((FD e L).map (·.1)).Nodup:=by
  unfold FD;rw[bu];refine df.mpr (List.Pairwise.imp_of_mem (λ{a b} d f z h=>?_) hi);have:=(kA (ok a d).1 (ok b f).1).mp h;lia
 rw[ep]at c;unfold jk;rw[jy c];dsimp only;rw[lR (F:=FD e L) λp g=>by
  obtain⟨x,_,rfl⟩:=cc.mp g;show Mi.keyT (Mi.tkD (x.1.tk e))=_;rw[x.1.tkD,x.1.keyT],oS1,lM1,ak (by unfold FD;rw[lM1];lia)]
 have:jX (FD e L)=FD e L:=by
  unfold jX;rw[rP _ _ (by rw[cW];exact hnd),cW]
 rw[this,Bg]
theorem Gd{e:E4}{L:List Rw}{k:Ky}:mR e (MK e L) (BN k)=Hz (mR e L k):=by
 unfold mR MK;rw[List.find?_append,List.find?_eq_none.mpr (λp a=>?_),Option.none_or,List.find?_map]
 ·have:(L.find? ((fun p:Rw=>decide (p.1.code e=(BN k).code e))∘B6))=L.find? fun p=>decide (p.1.code e=k.code e):=by
   apply iU;intro p a;simp only[Function.comp];rw[bQ,al,al];show(BN p.1).code e=_↔_;rw[jw,jw];lia
  rw[this];cases L.find? λp=>decide (p.1.code e=k.code e)with
  |none=>rfl
  |some p=>rfl
 ·obtain⟨l,b,rfl⟩:=cc.mp a;rw[al];show¬ l.code e=_;rw[jw];have:=xk b;lia
theorem Ab{e:E4}{k:Ky}(h:k.m=0):(Hq e k).code e=k.code e:=by
 obtain⟨m,x,y,z,w⟩:=k;obtain⟨a,b,c,d⟩:=e;dsimp only at h;subst h;cases a<;>cases b<;>cases c<;>cases d<;>rfl
theorem C1{e:E4}{L:List Rw}{k:Ky}(h:k.m=0)(hs:Ex e k):mR e (MK e L) k=Ao:=by
 unfold mR MK;rw[List.find?_append];obtain⟨q,a⟩:∃q,((SG e).map λk=>((k,Ao):Rw)).find? (λp=>decide (p.1.code e=k.code e))=some q:=by
  refine aQ.mp (List.find?_isSome.mpr ⟨(Hq e k,Ao),cc.mpr ⟨_,Aa hs,O⟩,?_⟩);exact ah (Ab h)
 rw[a];obtain⟨l,_,rfl⟩:=cc.mp (dr a);rfl
noncomputable def uq(u:Wk):Wk:=(u.1,u.2.1,u.2.2+1)
noncomputable def pu(a:Wh):Wh:=(a.1.map uq,a.2)
theorem Bh{ws:List Wk}{r:Nat}:crowd (ws.map uq) r=crowd ws r:=by
 unfold crowd;rw[List.filter_map,lM1];rfl
theorem IG{w:ev}{ws:List Wk}{cs:List Nat}{u:Wk}:ky w (ws.map uq) cs (uq u)=BN (ky w ws cs u):=by
 unfold ky BN;rw[Bh];rfl
theorem I0{x:D}:dt (Hz x)=dt x:=by
 show dt (.tup [_,_,tD (dt x)])=_;cases dt x<;>rfl
theorem Cc{w:ev}{u:Wk}{x:D}:eY w (uq u) (Hz x)=uq (eY w u x):=by
 unfold eY;rw[I0];cases dt x with
 |none=>rfl
 |some t=>
  show(match (w[u.1]?).bind (·[t]?)with|some p=>_|none=>_)=uq (match (w[u.1]?).bind (·[t]?)with|some p=>_|none=>_);cases(w[u.1]?).bind (·[t]?)<;>rfl
theorem wv{ws:List Wk}{f g:Wk->D}{h:Str}{r:Nat}(hd:∀u∈ws,dh (f (uq u))=dh (g u)):ie (ws.map uq) f h r=ie ws g h r:=by
 unfold ie;rw[List.any_map];refine iF λu a=>?_;show((uq u).1 == r&&dh (f (uq u)) == h)=_;rw[hd u a];rfl
theorem Bl{m:Nat}{ws:List Wk}{f g:Wk->D}{cs:List Nat}(hd:∀u∈ws,dh (f (uq u))=dh (g u)):eh m (ws.map uq) f cs=eh m ws g cs:=by
 unfold eh;refine List.filter_congr λr _=>?_;rw[wv hd,wv hd]
theorem DY{m:Nat}{w:ev}{e:E4}{F:List (TK×D)}{L:List Rw}{a:Wh}(h:iZ m w a.1 a.2)(d:RL e (gg F) L)(f:RN e F):jo m w (pu a).1 (pu a).2 e (MK e L)=il (pu (io m w e F a)):=by
 have c:∀u∈a.1,ddW w (a.1.map uq) a.2 e (MK e L) (uq u)=Hz (Eo w e F a u):=λu b=>by
  unfold ddW Eo;rw[IG,Gd,d.due f (h.ky u b)]
 unfold jo il pu io;dsimp only;rw[Bl (g:=Eo w e F a) λu b=>by rw[c u b];rfl,bu,bu]
 congr 1
 refine db λu b=>?_;simp only[Function.comp];rw[c u b,Cc]
theorem vC{m:Nat}{w:ev}{e:E4}{L:List Rw}{rs cs:List Nat}(h:iZ m w (e6 rs cs).1 cs):jo m w (e6 rs cs).1 cs e (MK e L)=il (pu (e6 rs ((af m).filter λr=>rs.contains r||cs.contains r))):=by
 have f:∀u∈(e6 rs cs).1,ddW w (e6 rs cs).1 cs e (MK e L) u=Ao:=λu a=>by
  unfold ddW;have d:=h.ky u a;obtain⟨r,j,rfl⟩:=cc.mp a;refine C1 O ⟨d.x,λ_=>?_,d.z,λ_=>?_⟩
  ·show(if cs.contains r then 1 else 0)<=1;split<;>lia
  ·show(if 1<crowd (e6 rs cs).1 r then 1 else 0)<=1;split<;>lia
 have c:∀b r,ie (e6 rs cs).1 (ddW w (e6 rs cs).1 cs e (MK e L)) b r=((e6 rs cs).1.any λu=>u.1 == r&&"mark" == b):=λb r=>by
  unfold ie;refine iF λu a=>?_;rw[f u a];rfl
 unfold jo il pu eh;dsimp only
 congr 1
 ·show _=(e6 rs cs).1.map uq;refine db λu a=>?_;rw[f u a];obtain⟨r,_,rfl⟩:=cc.mp a;rfl
 ·refine List.filter_congr λr _=>?_;rw[c,c];have i:(("mark":Str) == "mark")=M:=by decide+kernel
  have g:(("mark":Str) == "wipe")=J:=by decide+kernel
  have h1:((e6 rs cs).1.any λu=>u.1 == r&&("mark":Str) == "mark")=rs.contains r:=by
   unfold e6;rw[List.any_map,List.contains_eq_any_beq];refine iF λx _=>?_;show(x == r&&(("mark":Str) == "mark"))=(r == x);rw[i,bN,bQ,beq_iff_eq,beq_iff_eq];exact eq_comm
  have h2:((e6 rs cs).1.any λu=>u.1 == r&&("mark":Str) == "wipe")=J:=by
   rw[List.any_eq_false];intro u _;rw[g,Bool.and_false];decide
  rw[h1,h2,ci,bN]
theorem Jm{m:FA}{k:Nat}{r:Ev}{S S1:Sto}{Q:D×Sto->Prop}(hm:m r S=Z ([.int (k:Nat)],S1))(hk:k<=1000)(q:Q (.ref S1.length,S1++[.lst (gM 0 k)])):W (x4 m r S) Q:=by
 refine W.of ?_ q;unfold x4;rw[hm,oS1];dsimp only;rw[ak (by
  unfold v3;simp only[bA1,al];lia),Int.toNat_natCast]
theorem y3{c:FT}{b:FS}{Q:Fl×Ev×Sto->Prop}(I:Nat->Ev->Sto->Prop)(step:∀k r S,I k r S->W (c r S) fun p=>if p.1=true then 0<k/\W (b r p.2) fun q=>q.1 = .nx/\I (k-1) q.2.1 q.2.2 else Q (.nx,r,p.2)):
  ∀(a k:Nat) (r:Ev) (S:Sto),k<a->I k r S->W (yS c b a r S) Q
 |0,k,r,S,hf,_=>by lia
 |a+1,k,r,S,hf,hi=>by
  rw[yS];dsimp only;rw[ec];obtain⟨⟨t,n⟩,e,h⟩:=step k r S hi;refine⟨_,e,?_⟩;dsimp only at h ⊢;cases t with
  |true=>
   rw[ak O]at h ⊢;obtain⟨m,⟨f,i,l⟩,j,g,d⟩:=h;dsimp only at g d;subst g;rw[j,oS1];exact y3 I step a (k-1) i l (by lia) d
  |false=>
   rw[aj (by decide)]at h ⊢;exact ej.mpr h
theorem Ad(rs:List Nat)(i:Nat):(fy rs).eraseIdx i=fy (rs.eraseIdx i):=by
 unfold fy;simp[cH,List.map_take,List.map_drop]
theorem uK{m most n:Nat}{o:Ob}{T:Sto}{Q:D×Sto->Prop}(X:0<m)(hm:m<=8)(wq:0<most)(au:most<=8)(ho:gy o n)(hn:n<=2^40)(U:T.all (Ob.und (T.length+1))=M)(q:∀rs f o',ui m rs f->rs≠[]->rs.length<=most->gy o' (n+100)->Q (standD rs f,o'::T)):W (dW 3 fv [.ref 0,.int m,.int most] (o::T)) Q:=by
 refine w9 O O U ?_;unfold fv;refine mQ ?_;unfold iX;have tl:∀(a b:Ob),(a::(T++[b]))[T.length+1]?=Z b:=λa b=>by rw[gC1,eK];rfl
 have aq:∀(a b c:Ob),(a::(T++[b])).set (T.length+1) c=a::(T++[c]):=λa b c=>by rw[c6,cZ _ _ (nR1 _),cM];rfl
 refine eW (λr V=>V=o::(T++[.lst (fy (af m))])/\r=[Z (.ref 0),Z (.int (m:Nat)),Z (.int (most:Nat)),Z (.ref (T.length+1)),Y]) ?_ ?_
 ·unfold eA;rw[ec];refine Jm (k:=m) (S1:=o::T) O (by lia) ?_;rw[mw];exact W.of O ⟨O,O,O⟩
 rintro r V ⟨rfl,rfl⟩;refine eW (λr V=>∃rs o',rs≠[]/\rs.length<=most/\rs.length<=m/\(∀x∈rs,x<m)/\gy o' (n+50)/\V=o'::(T++[.lst (fy rs)])/\r=[Z (.ref 0),Z (.int (m:Nat)),Z (.int (most:Nat)),Z (.ref (T.length+1)),Y]) ?_ ?_
 ·refine y3 (λk r V=>∃rs o',rs.length=k+1/\k+1<=m/\(∀x∈rs,x<m)/\gy o' (n+2*(m-(k+1)))/\V=o'::(T++[.lst (fy rs)])/\r=[Z (.ref 0),Z (.int (m:Nat)),Z (.int (most:Nat)),Z (.ref (T.length+1)),Y]) ?_ 100000 (m-1) _ _ (by lia) ⟨af m,o,by rw[dw];lia,by lia,λx I=>aB.mp I,ho.more (by lia),O,O⟩;rintro k r V ⟨rs,N,F,R,j,u,rfl,rfl⟩;unfold hB;walk_at"w";refine eI (tl N (.lst (fy rs))) ?_;walk_at"w";refine fD u (by lia) (by lia) (by lia) λt C h P=>?_;walk_at"w";rw[lT,F];by_cases z:1+t<k+1
  ·rw[ak (by rw[al];push_cast;lia)];refine⟨by lia,?_⟩;unfold hA fT;rw[ec];refine lD ?_;walk_at"w";refine⟨T.length+1,fy rs,O,tl _ _,?_⟩
   try walk_at"w"
   refine eI (tl C (.lst (fy rs))) ?_
   try walk_at"w"
   rw[lT,F];refine fD h (by lia) (by push_cast;lia) (by push_cast;lia) λi p g hi=>?_
   try walk_at"w"
   have w:i<rs.length:=by rw[F];lia
   refine G7 (xs:=fy rs) (x:=.int (rs[i]'(w):Nat)) (tl _ _) (by unfold fy;rw[gP1,gG1 w];rfl) (by lia) ?_;rw[aq,Ad];refine⟨rs.eraseIdx i,p,by rw[cF w];lia,by lia,λx I=>j x (List.mem_of_mem_eraseIdx I),g.more (by lia),O,trivial⟩
  ·rw[aj (by rw[al];push_cast;lia)];exact⟨rs,C,λz=>(by rw[z]at F;cases F),by lia,by lia,j,h.more (by lia),O,trivial⟩
 rintro r V ⟨rs,N,K,B,hlm,j,u,rfl,rfl⟩;refine eW (λr V=>∃(a:Nat) (o':Ob),a<2/\gy o' (n+51)/\V=o'::(T++[.lst (fy rs)])/\r=[Z (.ref 0),Z (.int (m:Nat)),Z (.int (most:Nat)),Z (.ref (T.length+1)),Z (.int (a:Nat))]) ?_ ?_
 ·walk_at"w";refine fD u (by lia) (by lia) (by lia) λt C h P=>?_;exact⟨t,C,by lia,h,O,O⟩
 rintro r V ⟨a,C,ha,h,rfl,rfl⟩;walk_at"w";refine eI (tl _ _) ?_;walk_at"w";rw[Int.toNat_natCast];refine⟨gt (by lia),?_⟩;refine jG (λi G r V=>∃f p x,i<=m/\G=fy f/\f.length<=i/\(∀y∈f,y<m)/\gy p (n+51+i)/\V=p::(T++[.lst (fy rs)])/\r=[x,Z (.int (a:Nat)),Z (.ref 0)]) _ 0 [] _ _ ⟨[],C,_,bi _,O,nR1 _,λy s=>(by cases s),h,O,O⟩ (λ_ _ _ _ _=>rfl) ?_ ?_
 ·rintro i d v G r V ⟨f,p,x,hi,rfl,L,l,g,rfl,rfl⟩;have A:=(gE1.mp v).1;rw[fY]at A;rw[cY]at *
  have H:d = .int (i:Nat):=by
   rw[mw,gP1,cI A]at v;exact(Option.some.inj v).symm
  subst H;walk_at"w";refine fD g (by lia) (by lia) (by lia) λt ao E P=>?_;have S:∀am,jO (.int (a:Int)) (.int (t:Int)) am=Z (.int ((a:Int)*(t:Int)),am):=λam=>by
   simp only[jO];rw[ak (pP (by lia) (by lia))]
  ((try walk_at"w");repeat(simp only[S];try walk_at"w"))
  split
  ·exact ⟨f++[i],ao,_,by lia,by simp [fy],by rw [lA1];simp;lia,fun y s=>by
    rcases aG.mp s with s|s
    ·exact l y s
    ·rw[cU.mp s];exact A,E.more (by lia),O,O⟩
  ·exact⟨f,ao,_,by lia,O,by lia,l,E.more (by lia),O,O⟩
 ·rintro xs r V ⟨f,p,x,hi,e,L,l,g,rfl,rfl⟩;rw[cW]at e;subst e;rw[fY,cY]at *
  walk_at"w";refine⟨ea (by rw[lT];lia),?_⟩;refine eI (xs:=fy f) (by rw[gC1,gD];rfl) ?_;exact⟨standD rs f,p,[.lst (fy rs),.lst (fy f)],by simp[standD],lJ rs f 0,g.und,q rs f p ⟨by lia,by lia,j,l⟩ K B (g.more (by lia))⟩
theorem u9{m:Nat}{rs cs:List Nat}(h1:∀r∈rs,r<m)(h2:∀r∈cs,r<m)(a:rs.length+cs.length<64)(S:Sto):iB (.tup (fy rs++fy cs)) S=Z (.ref S.length,S++[.lst (fy ((af m).filter λr=>rs.contains r||cs.contains r))]):=by
 have h:∀r,r∈rs++cs↔r<m/\(rs.contains r||cs.contains r)=M:=λr=>by
  rw[aG,bO,cN,cN];exact⟨λz=>⟨z.elim (h1 r) (h2 r),z⟩,λz=>z.2⟩
 rw[F1];unfold iB;rw[q9];dsimp only;rw[Dt,oS1,ak (by rw[lM1,lA1];exact a),Cd h,bu];rfl
noncomputable def pH(u:Wk):D:=.tup [.int u.1,.int u.2.1]
theorem GS{n:Nat}{u:Wk}{S:Sto}:fU S (n+2) (pH u) (pH u)=Z M:=by
 unfold pH;have e:∀(x:Nat),fU S (n+1) (.int x) (.int x)=Z M:=λx=>by
  show Z (((x:Nat):Int) == (x:Int))=_;rw[beq_self_eq_true]
 rw[Hu,lj,e,oS1,lj,e,oS1,lj];rfl
theorem wY{n:Nat}{S:Sto}:∀ws:List Wk,lj (fU S (n+2)) (ws.map pH) (ws.map pH)=Z M
 |[]=>rfl
 |u::ws=>by rw[mP1,lj,GS,oS1,wY ws];rfl
theorem D3{a b:Wh}{S:Sto}{Q:D×Sto->Prop}(m:a.1.length<=8)(h1:a.1.map pH=b.1.map pH)(h2:a.2=b.2)(q:Q (.bl M,S)):W (dW 2 gb [il a,il b] S) Q:=by
 refine hH O (by rw[D.unds,qy,D.unds,qy];rfl) ?_;have h:b.1.length<=8:=by
  have:=congrArg List.length h1;rw[lM1,lM1]at this;lia
 unfold gb;refine mQ ?_;unfold lA il
 ((try walk_at"w");repeat(simp only[nv,y2];try walk_at"w"))
 obtain⟨c,e⟩:=a;obtain⟨j,n⟩:=b;dsimp only at *
 subst h2;have d:∀(u:Wk) (x:Option D) (V:Sto),Aw (mV 0) pO (pN (mC (D.int 2))) [Z (gX u)] V=Z (pH u,V):=λ_ _ _=>rfl;generalize k:Aw (mV 0) pO (pN (mC (D.int 2)))=ao at *
 refine gL.mpr ?_;refine n0 (f:=gX) pH (λr=>∃x,r=[x]) O c _ ⟨_,O⟩ ?_ ?_
 ·rintro u g r ⟨x,rfl⟩
  ((try walk_at"w");repeat(simp only[d u x];try walk_at"w"))
  first|exact⟨_,rfl⟩|exact⟨rfl,_,rfl⟩
 rintro l _;refine⟨ea (by rw[lM1];lia),?_⟩;refine gL.mpr ?_;refine n0 (f:=gX) pH (λr=>∃x,r=[x]) O j _ ⟨_,O⟩ ?_ ?_
 ·rintro u g r ⟨x,rfl⟩
  ((try walk_at"w");repeat(simp only[d u x];try walk_at"w"))
  first|exact⟨_,rfl⟩|exact⟨rfl,_,rfl⟩
 rintro r2 _;refine⟨ea (by rw[lM1];lia),?_⟩;dsimp only;rw[<- h1];have i:wT (.ref 0) (.ref 1) [Ob.lst (c.map pH),Ob.lst (c.map pH)]=Z (.bl M,[Ob.lst (c.map pH),Ob.lst (c.map pH)]):=by
  show(fU _ (57+2+1) (.ref 0) (.ref 1)).map _=_;rw[fU];simp only[d4,dg,gC1,if_true];rw[aj (by simp),wY];rfl
 refine W.of i ?_;dsimp only;rw[ak O];refine W.of (x:=(.bl M,[Ob.lst (c.map pH),Ob.lst (c.map pH)])) ?_ ⟨O,q⟩;show(fU _ (57+2+1) (.tup (fy e)) (.tup (fy e))).map _=_;rw[Hu];have:∀xs:List Nat,lj (fU [Ob.lst (c.map pH),Ob.lst (c.map pH)] (57+2)) (fy xs) (fy xs)=Z M:=λxs=>by
  unfold fy
  induction xs with
  |nil=>rfl
  |cons x xs ih=>
   rw[mP1,lj,show fU _ (57+2) (.int (x:Nat)) (.int (x:Nat))=Z (((x:Nat):Int) == (x:Int))from rfl,beq_self_eq_true,oS1,ih];rfl
 rw[this];rfl
theorem BA{S:Sto}{n k:Nat}(h:S.all (Ob.und n)=M)(hk:n<=k):S.all (Ob.und k)=M:=by
 rw[bC]at h ⊢;exact λx a=>kU hk (h x a)
theorem Em{e:E4}{S:Sto}:Hs (eyD e) (eyD e) S=Z (.bl J,S):=by
 obtain⟨a,b,c,d⟩:=e;cases a<;>cases b<;>cases c<;>cases d<;>rfl
theorem ED(a:Wh):(pu a).1.map pH=a.1.map pH:=by
 unfold pu;rw[bu];rfl
theorem EE{m:Nat}{w:ev}{a:Wh}(h:iZ m w a.1 a.2)(e:∀u∈a.1,u.2.2<3999):iZ m w (pu a).1 (pu a).2:=by
 refine⟨h.web,h.m8,by show(a.1.map _).length<=8;rw[lM1];exact h.few,h.cl,λu d=>?_,h.ch⟩;obtain⟨v,c,rfl⟩:=cc.mp d;obtain⟨b,h1,h2,f⟩:=h.wk v c;exact⟨b,h1,h2,by show v.2.2+1<4000;have:=e v c;lia⟩
noncomputable def Am(m:Nat)(rs cs:List Nat):List Nat:=(af m).filter λr=>rs.contains r||cs.contains r
noncomputable def Hv(rs cs:List Nat)(Ws:List Wh):Nat->Wh
 |0=>e6 rs cs
 |i+1=>pu (Ws.getD i ([],[]))
theorem Js{e:E4}{L:List Rw}(hi:BK e L)(ok:∀p∈L,gZ p):RW e (FD e L):=by
 refine⟨λp d=>?_,?_⟩
 ·obtain⟨x,c,rfl⟩:=cc.mp d;exact⟨x.1,(ok x c).1,O,(ok x c).2⟩
 ·unfold FD;rw[bu];refine df.mpr (List.Pairwise.imp_of_mem (λ{a b} g f z h=>?_) hi);have:=(kA (ok a g).1 (ok b f).1).mp h;lia
theorem zA{m:Nat}{w:ev}{e:E4}{F:List (TK×D)}{L:List Rw}{rs cs:List Nat}{c:List Wh}{j:Nat}{S:Sto}{Q:D×Sto->Prop}(hst:ui m rs cs)(I:RN e F)(hL:L.length<=3000)(z:RL e (gg F) L)(A:rX m w e F rs.length c)(h0:c[0]? = Z (e6 rs (Am m rs cs)))(au:S[j]?=Z (.lst (c.map il)))(y:S.all (Ob.und S.length)=M)(q:Q (.bl M,S)):W (dW 5 f0 [webD w,eyD e,standD rs cs,mcD e (MK e L),.ref j] S) Q:=by
 have ok:=λp E=>(BJ z I (p:=p) E).1;have ky:=λp E=>(BJ z I (p:=p) E).2;have f:=Hm z.inc;have l:=Hl (e:=e) hL;have C:=RL.of f ok l;have v:=(A.ok _ (gM1 h0)).1;have P:=xg v.web v.m8 hst;have U:=hst.few;refine oD O (by simp[D.unds,D.und]) ?_;unfold f0;refine mQ ?_;unfold lr;have R:∀V,dZ (mcD e (MK e L)) (.int 0) V=Z (eyD e,V):=λ_=>rfl;have wq:∀V,dZ (mcD e (MK e L)) (.int 1) V=Z (.tup ((MK e L).map (eF e)),V):=λ_=>rfl;have it:∀V,j9 .tuple (mV 3) [Z (webD w),Z (eyD e),Z (standD rs cs),Z (mcD e (MK e L)),Z (.ref j),Y,Y,Y] V=Z (.bl M,V):=λ_=>rfl;have um:=λ{S:Sto} {Q} q=>x0 (S:=S) (Q:=Q) ok ky l f q;have B:(D.tup ((MK e L).map (eF e))).und 0=M:=i6 ok 0;generalize hMC:mcD e (MK e L)=MC at *
 refine eW (λr V=>V=S/\r=[Z (webD w),Z (eyD e),Z (standD rs cs),Z MC,Z (.ref j),Y,Y,Y]) ?_ ?_
 ·((try walk_at"w");repeat(simp only[it,R,Em];try walk_at"w"))
  refine um ?_
  ((try walk_at"w");repeat(simp only[R,Em];try walk_at"w"))
  refine W.of (x:=(.bl J,S)) O (W.of (x:=(J,S)) O ?_);dsimp only;rw[aj aK];exact⟨O,trivial⟩
 rintro r V ⟨rfl,rfl⟩;refine eW (λr h=>h=V++[.lst ((MK e L).map (eF e)),dO (FD e (MK e L))]/\r=[Z (webD w),Z (eyD e),Z (standD rs cs),Z MC,Z (.ref j),Z (.ref (V.length+1)),Y,Y]) ?_ ?_
 ·((try walk_at"w");repeat(simp only[wq];try walk_at"w"))
  refine W.of (x:=(.ref V.length,V++[.lst ((MK e L).map (eF e))])) O ?_;dsimp only;refine GW f ok l (by rw[eK];rfl) ?_;dsimp only;rw[lA1,bH];exact⟨O,O⟩
 rintro r h ⟨rfl,rfl⟩;have s:(eQ (e6 rs []).1).length=rs.length:=by rw[kr];exact lM1 _
 refine eW (λr h=>h=V++[.lst ((MK e L).map (eF e)),dO (FD e (MK e L)),.lst (eQ (e6 rs []).1)]/\r=[Z (webD w),Z (eyD e),Z (standD rs cs),Z MC,Z (.ref j),Z (.ref (V.length+1)),Z (il (e6 rs cs)),Y]) ?_ ?_
 ·((try walk_at"w");repeat(simp only[uM,uL];try walk_at"w"))
  rw[gL];refine xf λr'=>?_;walk_at"w";refine⟨ea (by rw[s];lia),?_⟩;refine eI (xs:=eQ (e6 rs []).1) (by rw[gD];rfl) ?_;rfl
 rintro r h ⟨rfl,rfl⟩;have hj:=(gE1.mp au).1;generalize o:V++[Ob.lst ((MK e L).map (eF e)),dO (FD e (MK e L)),.lst (eQ (e6 rs []).1)]=V2;have l2:V2.length=V.length+3:=by rw[<- o,lA1];rfl
 have aq:V2[V.length+1]?=Z (dO (FD e (MK e L))):=by rw[<- o,gD];rfl
 have X:V2[j]?=Z (.lst (c.map il)):=by rw[<- o,gL1 hj];exact au
 have am:RW e (FD e (MK e L)):=Js f ok;have G:V2.all (Ob.und V2.length)=M:=by
  rw[l2,<- o,dy,BA y (by lia),bP,bP,bP,Ob.und,Ob.und,am.und];have K:=fC (n:=V.length+3) B;rw[D.und]at K;have u2:D.unds (V.length+3) (eQ (e6 rs []).1)=M:=Mi.eO λu _=>rfl;rw[K,u2];rfl
 refine eW (λr h=>h=V2 /\ ∃T t,r=[Z (webD w),Z (eyD e),Z (standD rs cs),Z MC,Z (.ref j),Z (.ref (V.length+1)),T,t]) ?_ ?_
 ·walk_at"w";refine eI X ?_;refine gn (λi r h=>h=V2 /\ ∃t,i<=c.length/\r=[Z (webD w),Z (eyD e),Z (standD rs cs),Z MC,Z (.ref j),Z (.ref (V.length+1)),Z (il (Hv rs cs c i)),t]) _ 0 _ _ ⟨O,_,bi _,O⟩ (λi r V ⟨hV,_⟩=>by rw[hV];exact kT X) ?_ ?_
  ·rintro i d N r h ⟨rfl,t,hi,rfl⟩;rw[cY]at *
   rw[gP1]at N;obtain⟨b,g,rfl⟩:=oM1.mp N;have hlt:=(gE1.mp g).1;obtain⟨b1,b2,b3⟩:=A.ok b (gM1 g);walk_at"w";unfold i8;have k:iZ m w (Hv rs cs c i).1 (Hv rs cs c i).2/\jo m w (Hv rs cs c i).1 (Hv rs cs c i).2 e (MK e L)=il (pu b):=by
    cases i with
    |zero=>
     rw[h0]at g;cases g;exact⟨P,vC P⟩
    |succ i=>
     obtain⟨a,H⟩:∃a,c[i]?=some a:=⟨_,gG1 (by lia)⟩;have he:c.getD i ([],[])=a:=by rw[bK,H];rfl
     obtain⟨a1,a2,a3⟩:=A.ok a (gM1 H);show iZ m w (pu (c.getD i ([],[]))).1 (pu (c.getD i ([],[]))).2/\jo m w (pu (c.getD i ([],[]))).1 (pu (c.getD i ([],[]))).2 e (MK e L)=il (pu b);rw[he];refine⟨EE a1 a3,?_⟩;rw[DY a1 z I,<- (A.nx i a b H g).1]
   refine eW (λr ao=>ao=h/\r=[Z (webD w),Z (eyD e),Z (standD rs cs),Z MC,Z (.ref j),Z (.ref (V.length+1)),Z (il (pu b)),Z (il b)]) ?_ ?_
   ·walk_at"w";refine wD k.1 C aq G ?_;rw[k.2];walk_at"w"
   rintro r ao ⟨rfl,rfl⟩;walk_at"w";refine D3 (by show(b.1.map _).length<=8;rw[lM1];exact b1.few) (ED b) O ?_;walk_at"w";refine⟨Z (il b),by lia,?_⟩;have:Hv rs cs c (i+1)=pu b:=by
    show pu (c.getD i ([],[]))=_;rw[bK,g];rfl
   rw[this]
  ·rintro r h ⟨rfl,t,hi,rfl⟩;exact⟨O,O,_,_,O⟩
 rintro r h ⟨rfl,T,t,rfl⟩;walk_at"w";rw[<- o,vk (d:=.bl M) O y];exact q
theorem v9{b:Bool}{x:Nat}(h:x<=4):m4 (pt b x)=M/\ig (pt b x)=0/\o5 (pt b x)=0:=by
 unfold pt;split
 ·refine⟨?_,by simp only[ig],by simp only[o5]⟩;unfold m4;rw[al];lia
 ·exact⟨by simp only[m4],by simp only[ig],by simp only[o5]⟩
theorem AM{x:Nat}(h:x<4000):m4 (.int (x:Nat))=M:=by
 unfold m4;rw[al];lia
theorem DK{x:D}(h:gm x):m4 x=M/\ig x<=3/\o5 x<=1:=by
 obtain⟨m,y,t,rfl,c,h1,h2⟩:=h.is;have a:m4 y=M/\ig y=0/\o5 y=0:=by
  simp only[iA,aF,bM,or_false]at h1;rcases h1 with rfl|rfl|rfl<;>exact⟨by decide+kernel,by simp only[ig],by simp only[o5]⟩
 have b:m4 t=M/\ig t=0/\o5 t=0:=by
  simp only[im,aF,bM,or_false]at h2;rcases h2 with rfl|rfl|rfl|rfl|rfl<;>exact⟨by decide+kernel,by simp only[ig],by simp only[o5]⟩
 refine⟨?_,?_,?_⟩
 ·simp only[m4,lK,a.1,b.1,bN,Bool.true_and];exact AM c
 ·simp only[ig,jl,a.2.1,b.2.1];lia
 ·simp only[o5,mS,a.2.2,b.2.2];lia
theorem uQ{e:E4}{p:Rw}(h:gZ p):m4 (eF e p)=M/\ig (eF e p)<=20/\o5 (eF e p)<=5:=by
 obtain⟨a,l,m⟩:=DK h.2;obtain⟨a1,a2,a3⟩:=v9 (b:=e.1) h.1.x;obtain⟨b1,b2,b3⟩:=v9 (b:=e.2.1) h.1.y;obtain⟨c,f,j⟩:=v9 (b:=e.2.2.1) h.1.z;obtain⟨k,g,d⟩:=v9 (b:=e.2.2.2) h.1.w;have i:=AM h.1.m;unfold eF Ky.d Ky.sg Jy;refine⟨?_,?_,?_⟩
 ·rw[m4];simp only[lK];rw[a,m4];simp only[lK];rw[i,m4];simp only[lK];rw[a1,b1,c,k];rfl
 ·simp only[ig,jl,a2,b2,f,g];lia
 ·simp only[o5,mS,a3,b3,j,d];lia
theorem IY(e:E4):m4 (eyD e)=M/\ig (eyD e)<=10/\o5 (eyD e)<=2:=by
 obtain⟨a,b,c,d⟩:=e;cases a<;>cases b<;>cases c<;>cases d<;>decide+kernel
theorem C8{e:E4}{L:List Rw}(ok:∀p∈L,gZ p)(d:L.length<=500):∃t,∀S,oo (mcD e L) S=Z (.str t,S):=by
 obtain⟨b,c,g⟩:=IY e;have a1:=sv (f:=eF e) (l:=L) λp a=>(uQ (ok p a)).1;have a2:=qj (f:=eF e) (k:=20) (l:=L) λp a=>(uQ (ok p a)).2.1;have a3:=tU (f:=eF e) (k:=5) (l:=L) λp a=>(uQ (ok p a)).2.2;unfold mcD;refine Ck ?_ ?_ ?_
 ·simp only[lK,m4,b,a1,da]
 ·simp only[jl,ig];lia
 ·simp only[mS,o5];lia
theorem xi{f:FN}{n h:Nat}{es:List D}{o:Ob}{S:Sto}{Q:D×Sto->Prop}(hn:es.length+1=n)(he:D.unds 0 es=M)(i:S[h]? = Z o)(ho:o.und 0=M)(q:W (dW n f (.ref 0::es) [o]) λp=>∃o' G,p.2=o'::G/\o'.und 0=M/\(if p.1.und 0=M then G=[]/\Q (p.1,S.set h o')else(p.1.mv h S.length).und S.length=J/\Q (p.1.mv h S.length,S.set h o'++G.map (Ob.mv h S.length)))):W (dW n (apart f) (.ref h::es) S) Q:=by
 obtain⟨⟨d,j⟩,e,o',G,g,c,a⟩:=q;dsimp only at g a;subst g;unfold dW at e ⊢;rw[ak (by simpa using hn)]at e ⊢;have b:D.unds 0 (.ref h::es)=J:=by simp[D.unds,D.und]
 unfold mG;rw[aj (by rw[b];decide)];unfold apart;dsimp only;rw[ak he,i,oS1,ak ho,e,oS1];dsimp only;rw[ak c];cases hd:d.und 0 with
 |true=>
  rw[hd,ak O]at a;rw[ak O,oP1,gc_same (by simp)];exact⟨_,O,a.2⟩
 |false=>
  rw[hd,aj (by decide)]at a;rw[aj (by decide),oP1];have:gc S.length (d.mv h S.length,S.set h o'++G.map (Ob.mv h S.length))=(d.mv h S.length,S.set h o'++G.map (Ob.mv h S.length)):=by
   unfold gc;rw[a.1];rfl
  rw[this];exact⟨_,O,a.2⟩
mutual
theorem nZ{h n:Nat}:∀{d:D},d.und 0=M->d.mv h n=d
 | .non,_=>rfl
 | .bl _,_=>rfl
 | .int _,_=>rfl
 | .str _,_=>rfl
 | .tup xs,q=>by rw[D.und]at q;rw[D.mv,m9 q]
 | .rol xs,q=>by rw[D.und]at q;rw[D.mv,m9 q]
 | .fn _,_=>rfl
 | .ref k,q=>by simp[D.und]at q
theorem m9{h n:Nat}:∀{ds:List D},D.unds 0 ds=M->D.mvs h n ds=ds
 |[],_=>rfl
 |d::ds,q=>by
  rw[D.unds,bA1]at q;rw[D.mvs,nZ q.1,m9 q.2]
end
theorem zZ{h n:Nat}:∀{o:Ob},o.und 0=M->o.mv h n=o
 | .lst xs,q=>by rw[Ob.und]at q;rw[Ob.mv,m9 q]
 | .dct xs,q=>by
  rw[Ob.und]at q;rw[Ob.mv]
  congr 1
  induction xs with
  |nil=>rfl
  |cons p xs ih=>rw[mP1,D.unds,bA1]at q;rw[mP1,nZ q.1,ih q.2]
 | .dcT xs,q=>by
  rw[Ob.und]at q;rw[Ob.mv]
  congr 1
  induction xs with
  |nil=>rfl
  |cons p xs ih=>rw[mP1,D.unds,bA1]at q;rw[mP1,nZ q.1,ih q.2]
 | .dcF xs,q=>by
  rw[Ob.und]at q;rw[Ob.mv]
  congr 1
  induction xs with
  |nil=>rfl
  |cons p xs ih=>rw[mP1,D.unds,bA1]at q;rw[mP1,nZ q.1,ih q.2]
 | .iset _,_=>rfl
 | .tst _,_=>rfl
theorem wm{h n:Nat}:∀{G:Sto},G.all (Ob.und 0)=M->G.map (Ob.mv h n)=G
 |[],_=>rfl
 |o::G,q=>by
  rw[bP,bA1]at q;rw[mP1,zZ q.1,wm q.2]
theorem D0{S:Sto}{n i:Nat}{o:Ob}(h:S.all (Ob.und n)=M)(ho:o.und n=M):(S.set i o).all (Ob.und n)=M:=by
 rw[bC]at h ⊢;intro x a;rcases List.mem_or_eq_of_mem_set a with z|z
 ·exact h x z
 ·rw[z];exact ho
theorem lB{f:FN}{n h:Nat}{es:List D}{o:Ob}{S:Sto}{Q:D×Sto->Prop}(hn:es.length+1=n)(he:D.unds 0 es=M)(a:S[h]? = Z o)(ho:o.und 0=M)(q:W (dW n f (.ref 0::es) [o]) λp=>∃o',p.2=[o']/\o'.und 0=M/\p.1.und 0=M/\Q (p.1,S.set h o')):W (dW n (apart f) (.ref h::es) S) Q:=
 xi hn he a ho (q.mono λp ⟨o',e,h1,h2,b⟩=>⟨o',[],e,h1,by rw[ak h2];exact⟨O,b⟩⟩)
theorem B9{h n:Nat}{k:Int}{o:Ob}{S:Sto}{Q:D×Sto->Prop}(c:S[h]? = Z o)(ho:gy o n)(hn:n<=2^50)(hk:0<k)(b:k<1073741824)(q:∀(d:Nat) o',gy o' (n+1)->(d:Int)<k->Q (.int d,S.set h o')):W (dW 2 (apart dX) [.ref h,.int k] S) Q:=by
 refine lB O O c ho.und ?_;refine fD ho hn hk b λd o' a e=>?_;exact⟨o',O,a.und,O,q d o' a e⟩
theorem Gc{m:Nat}{rs cs:List Nat}(hm:m<=8)(h:ui m rs cs):ui m rs (Am m rs cs):=by
 refine⟨h.few,?_,h.rs,λr a=>aB.mp (aA.mp a).1⟩;have:=di (λr=>rs.contains r||cs.contains r) (af m);rw[dw]at this;show(List.filter _ _).length<=8;lia
theorem Bb{m:Nat}{w:ev}{e:E4}{rs cs:List Nat}{o:Ob}{n b:Nat}{V:Sto}{Q:D×Sto->Prop}(h0:V[0]? = some o)(x:V.all (Ob.und V.length)=true)(hw:oN m w)(hm:m<=8)(hst:ui m rs cs)(ho:gy o n)(hn:n<=2^35)(hb:b<=400){a:Nat}(f:b*rs.length<=a)(c:a<=3000)(q:∀F L d h j,RN e F->L.length<=a->RL e (gg F) L->rX m w e F rs.length d->d[0]?=some (e6 rs cs)->h.all (Ob.und h.length)=true->h[j]?=some (.lst (d.map il))->Q (.tup [mcD e L,.ref j],h)):
  W (dW 5 (apart eN) [.ref 0,webD w,eyD e,standD rs cs,.int b] V) Q:=by
 refine xi O (by simp[D.unds,ku,gF,lJ];rfl) h0 ho.und ?_;refine DJ hw hm hst ho hn hb f c λF L d o' G v k l r t i g p h2=>?_;refine⟨o',G,O,g.und,?_⟩;have s:(D.tup [mcD e L,.ref 3]).und 0=J:=by simp[D.und,D.unds]
 rw[s,aj (by decide)];have u:(D.tup [mcD e L,.ref 3]).mv 0 V.length = .tup [mcD e L,.ref (V.length+2)]:=by
  rw[D.mv,D.mvs,D.mvs,D.mvs,nZ (ng l.ok)];rfl
 rw[u,wm p];refine⟨by simp[D.und,D.unds],?_⟩;refine q F L d (V.set 0 o'++G) (V.length+2) v k l r i ?_ ?_
 ·rw[dy,lA1,aW,BA (D0 x g.und) (by lia),Jh p];rfl
 ·rw[gR1 (by rw[aW];lia),aW,show V.length+2-V.length=2 by lia];exact h2
theorem EH(ns:List Int)(k:Int)(h0:0<=k)(hk:k<63):W (rn [Z (.rol (ns.map D.int)),Z (.int k),Y,Y,Y,Y,Y,Y,Y,Y] []) λp=>p.1 = .nx /\ ∃ao,p.2.1=Z (.rol (ns.map D.int))::ao/\ao.length=9:=by
 unfold rn;generalize hN:D.rol (ns.map D.int)=N;refine eW (λr S=>∃o,gy o 0/\S=[o]/\r=[Z N,Z (.int k),Z (.ref 0),Y,Y,Y,Y,Y,Y,Y]) ?_ ?_
 ·obtain⟨o,e,l⟩:=Dy ns k h0 hk;rw[hN]at e
  ((try walk_at"w");repeat(simp only[e];try walk_at"w"))
  exact⟨o,l,O,trivial⟩
 rintro r S ⟨o,l,rfl,rfl⟩;refine eW (λr S=>∃(m:Nat) (w:ev) (e:E4) (o:Ob),0<m/\m<=8/\oN m w/\gy o 200/\S=[o]/\r=[Z N,Z (.int k),Z (.ref 0),Z (webD w),Z (eyD e),Y,Y,Y,Y,Y]) ?_ ?_
 ·walk_at"w";refine lB (h:=0) (o:=o) O O O l.und ?_;refine Hx (T:=[]) l (by lia) O λm w n q B E f=>?_;refine⟨n,O,f.und,ku w,?_⟩;walk_at"w";refine lB (h:=0) (o:=n) O O O f.und ?_;refine GR (T:=[]) f (by lia) O λa b c d P x=>?_;refine⟨P,O,x.und,gF (a,b,c,d),?_⟩;exact⟨m,w,(a,b,c,d),P,q,B,E,x.more (by lia),O,O⟩
 rintro r S ⟨m,w,e,o,q,B,E,l,rfl,rfl⟩;refine eW (λr S=>∃(rs g:List Nat) (o:Ob),ui m rs g/\rs.length<=4/\gy o 400/\S=[o]/\r=[Z N,Z (.int k),Z (.ref 0),Z (webD w),Z (eyD e),Z (standD rs g),Y,Y,Y,Y]) ?_ ?_
 ·((try walk_at"w");repeat(simp only[wB];try walk_at"w"))
  rw[E.len];refine lB (h:=0) (o:=o) O O O l.und ?_;refine uK (T:=[]) (most:=4) q B (by lia) (by lia) l (by lia) O λrs g n i aq X f=>?_;refine⟨n,O,f.und,lJ rs g 0,?_⟩;exact⟨rs,g,n,i,X,f.more (by lia),O,O⟩
 rintro r S ⟨rs,g,o,i,K,l,rfl,rfl⟩;have au:=i.few;have hcl:=i.cl;have A:=Gc B i;refine eW (λr S=>S=[o,.lst (fy (Am m rs g))]/\r=[Z N,Z (.int k),Z (.ref 0),Z (webD w),Z (eyD e),Z (standD rs g),Z (standD rs (Am m rs g)),Y,Y,Y]) ?_ ?_
 ·((try walk_at"w");repeat(simp only[uM,uL];try walk_at"w"))
  refine⟨ea (by rw[lT,lT];lia),?_⟩;refine W.of (u9 i.rs i.cs (by lia) [o]) ?_;dsimp only;refine eI (xs:=fy (Am m rs g)) O ?_;exact⟨O,O⟩
 rintro r S ⟨rfl,rfl⟩;refine eW (λr S=>∃F L v j,RN e F/\L.length<=100/\RL e (gg F) L/\rX m w e F rs.length v/\v[0]?=Z (e6 rs (Am m rs g))/\S.all (Ob.und S.length)=M/\S[j]?=Z (.lst (v.map il))/\r=[Z N,Z (.int k),Z (.ref 0),Z (webD w),Z (eyD e),Z (standD rs g),Z (standD rs (Am m rs g)),Z (mcD e L),Z (.ref j),Y]) ?_ ?_
 ·walk_at"w";refine B9 (h:=0) (o:=o) O l (by lia) (by lia) (by lia) λt n f Q=>?_;walk_at"w";have z:t*rs.length<=100:=aC (Nat.mul_le_mul (show t<=20 by lia) K) (by decide);have hX:(Ob.lst (fy (Am m rs g))).und 2=M:=by rw[Ob.und];exact Mi.eO λ_ _=>rfl
  refine Bb (V:=[n,.lst (fy (Am m rs g))]) O (by show(n.und 2&&((Ob.lst (fy (Am m rs g))).und 2&&M))=M;rw[hX,f.und];rfl) E B A f (by lia) (by lia) z (by lia) λF L v V' j C y u am s G H=>?_;walk_at"w";exact⟨F,L,v,j,C,y,u,am,s,G,H,O⟩
 rintro r S ⟨F,L,v,j,C,y,u,am,s,R,H,rfl⟩;have ok:=λp U=>(BJ u C (p:=p) U).1;refine eW (λr V=>V=S/\r=[Z N,Z (.int k),Z (.ref 0),Z (webD w),Z (eyD e),Z (standD rs g),Z (standD rs (Am m rs g)),Z (mcD e L),Z (.ref j),Z (mcD e (MK e L))]) ?_ ?_
 ·walk_at"w";refine pR u.ok (by lia) ok ?_;walk_at"w"
 rintro r V ⟨rfl,rfl⟩;have I:(MK e L).length<=500:=by
  have:=BH e;unfold MK;rw[lA1,lM1,lM1];lia
 obtain⟨t,Q⟩:=C8 (e:=e) ok I;walk_at"w";refine zA i C (by lia) u am s H R ?_;walk_at"w";refine pR u.ok (by lia) ok ?_
 ((try walk_at"w");repeat(simp only[Q];try walk_at"w"))
 have wq:(t == t)=M:=beq_self_eq_true t;rw[wq,aj (by simp)];exact⟨_,O,O⟩
theorem truth(ns:List Int)(L:ns.length<=63):∃S,m_law [.rol (ns.map D.int)] []=Z (.bl M,S):=by
 have key:W (m_law [.rol (ns.map D.int)] []) λp=>p.1 = .bl M:=by
  unfold m_law;refine mQ ?_;unfold Bv;have G:(D.rol (ns.map D.int)).und 0=M:=by simp[D.und,lI]
  have I:=λk z E=>EH ns k z E;generalize H:D.rol (ns.map D.int)=N at *
  have a:fx N []=Z (.int ns.length,[]):=by rw[<- H];simp[fx,d4]
  refine eW (λr S=>S=[]/\r=[Z N,Y,Y,Y,Y,Y,Y,Y,Y,Y]) ?_ ?_
  ·simp only [gK,mP1,aZ,lC1,bf,Nat.reduceAdd,Nat.reduceSub,KP,bj,cW,je,ec,Et,dU,mN,mC,mV,dV,b1,b2,DC,DB,a,ej,oS1,dg,HZ];have C:∃ t:Nat,t<=4/\(if (if (ns.length:Int)<4 then (ns.length:Int) else 4)>1 then (if (ns.length:Int)<4 then (ns.length:Int) else 4) else 1)=(t:Int):=by
    by_cases h1:(ns.length:Int)<4
    ·rw[ak h1];by_cases h2:(ns.length:Int)>1
     ·rw[ak h2];exact⟨ns.length,by lia,O⟩
     ·rw[aj h2];exact⟨1,by lia,O⟩
    ·rw[aj h1];exact⟨4,by lia,by decide⟩
   obtain⟨t,am,te⟩:=C;rw[te,Int.toNat_natCast];refine⟨gt (by lia),?_⟩;refine gn (λ_ r S=>S=[]/\r=[Z N,Y,Y,Y,Y,Y,Y,Y,Y,Y]) _ 0 _ _ ⟨O,O⟩ (λ_ _ _ _=>rfl) ?_ ?_
   ·rintro i d A r S ⟨rfl,rfl⟩;obtain ⟨k,e,B,ao⟩:=tj (gM1 A);subst e;simp only [gN,c6,c0,ej];obtain ⟨⟨f,r2,K⟩,y,v,w,b,l⟩:=I k B (by lia);dsimp only at v b;subst v;subst b;obtain ⟨g,q,u,c,n,j,m,s,o,F⟩:∃ g q u c n j m s o,w=[g,q,u,c,n,j,m,s,o]:=by
     match w,l with
     |[g,q,u,c,n,j,m,s,o],_=>exact⟨_,_,_,_,_,_,_,_,_,O⟩
    subst F;refine W.of (x:=(.nx,[Z N,Y,Y,Y,Y,Y,Y,Y,Y,Y],[])) ?_ ⟨O,O,O⟩;unfold wj pS;simp[fM,kF,D.und,G,y]
   ·rintro r S ⟨rfl,rfl⟩;exact⟨O,O,O⟩
  ·rintro r S ⟨rfl,rfl⟩;simp only[eX,mC,oS1,ej]
 obtain⟨⟨d,S⟩,e,h⟩:=key;dsimp only at h;exact⟨S,by rw[e,h]⟩
end Law
end
open PySem PySem.W PyProof.Rows
def PySem.W.Fast.tw711569579713402727 := ()
def PySem.W.Fast.tw6124433588189255371 := ()
def PySem.W.Fast.tw1438634167038892703 := ()
def PySem.W.Fast.tw173238890778797267 := ()
def PySem.W.Fast.tw887191188554620634 := ()
def PySem.W.Fast.tw17710521591315943955 := ()
def PySem.W.Fast.tw12546462654964094439 := ()
def PySem.W.Fast.tw10488096462862073252 := ()
def PySem.W.Fast.tw11909081641792429899 := ()
def PySem.W.Fast.tw6713026482489991581 := ()
def PySem.W.Fast.tw12680446764945428376 := ()
def PySem.W.Fast.tw10893060531402898446 := ()
def PySem.W.Fast.tw4302906372925717866 := ()
def PySem.W.Fast.tw8548352702182362403 := ()
def PySem.W.Fast.tw5960986924933267972 := ()
def PySem.W.Fast.tw2428541927754760757 := ()
def PySem.W.Fast.tw12468755008113490212 := ()
def PySem.W.Fast.tw6346179162172330322 := ()
def PySem.W.Fast.tw829588140990415014 := ()
def PySem.W.Fast.tw15788227074771699317 := ()
def PySem.W.Fast.tw15556293988692071808 := ()
def PySem.W.Fast.tw16822683054661844744 := ()
def PySem.W.Fast.tw937530213102174430 := ()
def PySem.W.Fast.tw11116030455971152075 := ()
def PySem.W.Fast.tw16914776156106932981 := ()
def PySem.W.Fast.tw15258578602547211859 := ()
def PySem.W.Fast.tw2932741163086711832 := ()
def PySem.W.Fast.tw49643600574645471 := ()
def PySem.W.Fast.tw3131310560746281496 := ()
def PySem.W.Fast.tw17956700535036908594 := ()
def PySem.W.Fast.tw11515049658996114999 := ()
def PySem.W.Fast.tw14980591532958265026 := ()
def PySem.W.Fast.tw12000813651592501898 := ()
def PySem.W.Fast.tw4492649194742106755 := ()
def PySem.W.Fast.tw10820123361088373271 := ()
def PySem.W.Fast.tw16135340764487971380 := ()
def PySem.W.Fast.tw4031312431836733366 := ()
def PySem.W.Fast.tw4386001618691549770 := ()
def PySem.W.Fast.tw8135778911680693625 := ()
def PySem.W.Fast.tw2912047768054025070 := ()
def PySem.W.Fast.tw15032521268987908400 := ()
def PySem.W.Fast.tw15837746796958323981 := ()
def PySem.W.Fast.tw16716809003867651973 := ()
def PySem.W.Fast.tw6902766758712737001 := ()
def PySem.W.Fast.tw1204975136729068523 := ()
def PySem.W.Fast.tw3519737705531178719 := ()
def PySem.W.Fast.tw18199604213189760130 := ()
def PySem.W.Fast.tw13397707342019550185 := ()
def PySem.W.Fast.tw11260425280739451664 := ()
def PySem.W.Fast.tw7105754516496016462 := ()
def PySem.W.Fast.tw14629982172682054458 := ()
def PySem.W.Fast.tw4690634710002497531 := ()
def PySem.W.Fast.tw16077516079136192313 := ()
def PySem.W.Fast.tw10971608684094542770 := ()
def PySem.W.Fast.tw8209798363464893437 := ()
def PySem.W.Fast.tw17768492919555012168 := ()
def PySem.W.Fast.tw10302627834872469165 := ()
def PySem.W.Fast.tw18137689273114986889 := ()
def PySem.W.Fast.tw13065058987679608452 := ()
def PySem.W.Fast.tw7936775618042065075 := ()
def PySem.W.Fast.tw11984421578401608534 := ()
def PySem.W.Fast.tw728228749426776171 := ()
def PySem.W.Fast.tw16086143344834066470 := ()
def PySem.W.Fast.tw2381071717802135922 := ()
def PySem.W.Fast.tw1475890432848990853 := ()
def PySem.W.Fast.tw10918697660819790426 := ()
def PySem.W.Fast.tw13384519272046433201 := ()
def PySem.W.Fast.tw10200329824251173204 := ()
def PySem.W.Fast.tw14869412672969560654 := ()
def PySem.W.Fast.tw15660641846978465711 := ()
def PySem.W.Fast.tw6909164694537385206 := ()
def PySem.W.Fast.tw2443640993147464981 := ()
def PySem.W.Fast.tw18087332545169960601 := ()
def PySem.W.Fast.tw11155713835799292678 := ()
def PySem.W.Fast.tw17526629096935860983 := ()
def PySem.W.Fast.tw16112395776883455136 := ()
def PySem.W.Fast.tw8246577941103735287 := ()
def PySem.W.Fast.tw14329206707305507226 := ()
def PySem.W.Fast.tw14702155530432175186 := ()
def PySem.W.Fast.tw2362447192942210739 := ()
def PySem.W.Fast.tw6180135207840609650 := ()
def PySem.W.Fast.tw12177758036218055673 := ()
def PySem.W.Fast.tw1402497998097514800 := ()
def PySem.W.Fast.tw4286677218101540947 := ()
def PySem.W.Fast.tw4342748648005395156 := ()
def PySem.W.Fast.tw16375325596603853591 := ()
def PySem.W.Fast.tw3613719391496952954 := ()
def PySem.W.Fast.tw17588275621579929627 := ()
def PySem.W.Fast.tw1966780525758254841 := ()
def PySem.W.Fast.tw5667874349948869981 := ()
def PySem.W.Fast.tw772689486026006886 := ()
def PySem.W.Fast.tw10639906834512691443 := ()
def PySem.W.Fast.tw10138928377332041469 := ()
def PySem.W.Fast.tw3697766806844238597 := ()
def PySem.W.Fast.tw7044182481017031426 := ()
def PySem.W.Fast.tw17895268076360563556 := ()
def PySem.W.Fast.tw13417272709755336802 := ()
def PySem.W.Fast.tw17054053831083460735 := ()
def PySem.W.Fast.tw13645368526651669531 := ()
def PySem.W.Fast.tw17059559184280788470 := ()
def PySem.W.Fast.tw7294538271143604201 := ()
def PySem.W.Fast.tw1304779060488019624 := ()
def PySem.W.Fast.tw13162158916843423009 := ()
def PySem.W.Fast.tw17157112693609334259 := ()
def PySem.W.Fast.tw12555694199266991082 := ()
def PySem.W.Fast.tw16261991743095776670 := ()
def PySem.W.Fast.tw17397858630091096199 := ()
def PySem.W.Fast.tw16396903510473111859 := ()
def PySem.W.Fast.tw5236365896297400152 := ()
def PySem.W.Fast.tw15869209151028862481 := ()
def PySem.W.Fast.tw15515211429241306302 := ()
def PySem.W.Fast.tw16298263776276659768 := ()
def PySem.W.Fast.tw14665595732844653019 := ()
def PySem.W.Fast.tw4742190558108403708 := ()
def PySem.W.Fast.tw7436424764778211663 := ()
def PySem.W.Fast.tw12002073820682944822 := ()
def PySem.W.Fast.tw14687669913672992989 := ()
def PySem.W.Fast.tw14071031212236234169 := ()
def PySem.W.Fast.tw7305919436263844797 := ()
def PySem.W.Fast.tw17953582148881877928 := ()
def PySem.W.Fast.tw3428786823474109321 := ()
def PySem.W.Fast.tw11218046115794976665 := ()
def PySem.W.Fast.tw8984538448105335214 := ()
def PySem.W.Fast.tw17045521999483560459 := ()
def PySem.W.Fast.tw7076484687173777938 := ()
def PySem.W.Fast.tw13275254435389691906 := ()
def PySem.W.Fast.tw2057753698073414975 := ()
def PySem.W.Fast.tw14574591130389642972 := ()
def PySem.W.Fast.tw6278474703941314200 := ()
def PySem.W.Fast.tw3944955126592658097 := ()
def PySem.W.Fast.tw6856173988141953491 := ()
def PySem.W.Fast.tw7510332252131753376 := ()
def PySem.W.Fast.tw3461503918434258883 := ()
def PySem.W.Fast.tw12438772292148093113 := ()
def PySem.W.Fast.tw14315840881374507108 := ()
def PySem.W.Fast.tw2715310170576819371 := ()
def PySem.W.Fast.tw7812491320063484191 := ()
set_option maxRecDepth 100000 in
set_option maxHeartbeats 0 in
theorem PySem.Challenge.cw_ringmeet_k33_marking_first_holds : PySem.Challenge.rw_ringmeet_k33_marking_first.Holds := by
 w_on;refine PySem.W.holds_law (by decide+kernel) fun d=>?_;k_head;(case hw=>w_witness2)
 k_fill
 refine Mi.walk_m (l:=PySem.Challenge.rw_ringmeet_k33_marking_first) (m:=Law.m_law) (k:=9) (x:="_law_script") rfl rfl ⟨rfl,by decide,by decide,rfl⟩ (fun w h Y=>PySem.W.kIn_of Y) Law.truth ?F
 case F=>
  intro w mg f h e G b;refine' Law.all_mk e G b ?a1 ?a2 ?a3 ?a4 ?a5 ?a6 ?a7 ?a8 ?a9 ?a10 ?a11 ?a12 ?a13 ?a14 ?a15 ?a16 ?a17 ?a18 ?a19 ?a20 ?a21 ?a22 ?a23 ?a24 ?a25 ?a26 ?a27 ?a28 ?a29 ?a30 ?a31 ?a32 ?e_HANDS ?h1 ?e_MOODS ?e_MOST_ROWS ?e_PARTS ?h7 ?h8 ?h11 ?h14 ?h17 ?e_STEPS ?z
  all_goals try (refine' Mi.IX ?a ?l ?c ?k;(case a=>k_is);(case l=>k_is);(case c=>k_is);(case k=>k_is))
  (case e_HANDS=>k_is)
  (case h1=>k_is)
  (case e_MOODS=>k_is)
  (case e_MOST_ROWS=>k_is)
  (case e_PARTS=>k_is)
  (case h7=>k_is)
  (case h8=>k_is)
  (case h11=>k_is)
  (case h14=>k_is)
  (case h17=>k_is)
  (case e_STEPS=>k_is)
  (case z=>exact ⟨by k_is,by k_is,by k_is,by k_is,by k_is,by k_is,by k_is,by k_is,by k_is,by k_is,by k_is,by k_is,by k_is,by k_is,by k_is,by k_is,trivial⟩)

