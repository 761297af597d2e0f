import PyProof.Rows.All
import Wide.All
import OpenK.AllK
import Wide.FinOn
import Lean
import PyProof.EqAt
import PyProof.EqKinds
import PyProof.TupleCall
import PySem.Challenge.RW_ringmeet_k30_what_comes_of_runs
set_option Elab.async false
set_option compiler.extract_closed false
set_option genSizeOf false
set_option bootstrap.genMatcherCode false
set_option linter.all false
set_option maxRecDepth 100000
set_option maxHeartbeats 4000000
open List renaming getElem?_eq_some_iff → gE1, getElem?_append_left → gL1, getElem?_eq_getElem → gG1, mem_of_getElem? → gM1, getElem?_set_ne → gS1, length_append → lA1, length_map → lM1, getElem?_cons_succ → gC1, mem_cons_of_mem → mC1, mem_cons_self → mS1, getElem?_map → gP1, getElem?_append_right → gR1, size_toArray → sT1, map_cons → mP1, length_cons → lC1, length_replicate → lR1, mem_append_right → mA1
open Option renaming bind_eq_some_iff → oB1, map_eq_some_iff → oM1, bind_some → oS1, map_some → oP1
open Nat renaming le_refl → nR1, lt_of_lt_of_le → nL1, ne_of_lt → nN1, ne_of_gt → nG1
open Bool renaming and_eq_true → bA1, false_eq_true → bF1
open Array renaming getElem?_eq_getElem → aG1, getElem?_toList → aT1
open PySem.W renaming Frag → Fg1, nsIn → wN1, keepIn → wK1, codeIn → wC1, fnOf → wF1, mg_of → wM1
open PySem.Heap renaming get?_push_of_some → hP1, get?_push_size → hS1, lt_size → hL1, size_push → hZ1, get?_update_ne → hU1, get?_update_self → hW1
open PySem renaming wpAny_bind → wB1, wpAny_pure → wP1, wpAny_setField_rec → wS1, wpAny_newObj_type → wO1, codeAny_builtin → wD1, wpAny_call_entry → wE1
open List renaming take_nil → av, drop_nil → aw, mem_filter → aA, mem_range → aB, filterMap_cons → aE, mem_cons → aF, mem_append → aG, mem_append_left → aH, getElem?_set_self → aI, mem_filterMap → aL, append_nil → aM, nodup_cons → aN, replicate → aO, length_take → aQ, getElem?_replicate → aR, getElem?_take_of_lt → aS, take_sublist → aT, length_drop → aU, length_set → aV, length_singleton → aX, map_nil → aY, find?_cons → aZ, any_cons → a0, length_nil → bd, cons_append → bi, prefix_rfl → bm, nodup_nil → bn, getElem?_of_mem → bo, map_map → bt, prefix_append → bu, nodup_append → bw, all_eq_true → bB, drop_drop → bD, forIn_cons → bE, lookup_cons → bF, append_assoc → bG, getD_eq_getElem?_getD → bJ, zipIdx_cons → bK, not_mem_nil → bL, all_cons → bP, any_eq_true → bR, getElem_mem → bS, zip_cons_cons → bT, drop_eq_getElem_cons → bU, cons_prefix_cons → bW, drop_zero → bX, take_length → bY, ext_getElem? → bZ, getElem?_eq_none → b4, findIdx?_eq_some_iff_getElem → b6, take_of_length_le → b8, foldl_cons → b9, contains_cons → ca, pairwise_cons → cb, mem_map → cf, getElem?_toArray → cj, mapM_toArray → cm, all_toArray → cp, length_eq_zero_iff → cq, pairwise_iff_getElem → cu, pairwise_append → cA, getElem?_drop → cB, drop_sublist → cC, pairwise_lt_range → cD, map_append → cE, take_succ → cF, length_eraseIdx_of_lt → cH, take_append_drop → cI, eraseIdx_eq_take_drop_succ → cJ, getElem?_range → cK, mem_singleton → cM, mem_of_mem_take → cN, mem_of_mem_drop → cO, contains_iff_mem → cQ, forall_mem_nil → cR, perm_append_comm → cS, take_succ_cons → cT, take_zero → cU, extract_eq_take_drop → cW, mem_reverse → cX, nil_append → cY, set_append_right → c4, set_cons_zero → c5, flatten_cons → c6, set_cons_succ → c7, length_pos_iff → c8, flatten_append → c9, take_left → da, map_congr_left → db, filter_cons → de, pairwise_map → df, getElem?_cons_zero → dg, map_take → di, length_filter_le → dj, zipWith → dq, zipWith_cons_cons → dr, find?_eq_none → dw, all_append → dy, mem_of_find?_eq_some → dz, length_range → dA
open Option renaming some → ay, isSome_iff_exists → aP, isSome_some → bc, isSome_map → bf, getD_some → b7
open Nat renaming lt_irrefl → az, le_trans → aC, le_of_lt → aD, le_succ → aW, lt_trans → bg, zero_le → bh, add_assoc → bj, le_add_right → bq, add_sub_cancel_left → br, not_lt_zero → bv, min_eq_left → bA, lt_succ_self → bC, lt_of_le_of_lt → bH, le_of_succ_le → bI, zero_add → bN, lt_or_ge → bV, lt_succ_of_lt → cG, sub_self → cP, mul_le_mul_right → dk
open Array renaming length_toList → aJ, perm_iff_toList_perm → cc, mem_toList_iff → cg, mem_of_getElem? → ci, getElem?_eq_none → cr, toList_append → cv, toList_push → cw, toList_extract → cy, getElem_mem → cV, toList_reverse → cZ
open Bool renaming false_ne_true → aK, and_true → bM, or_eq_true → bO, eq_iff_iff → bQ, not_true → b5, not_false → ck
open PySem renaming Value → dB, Shared → dD, Addr → dE, Program → dF, Around → dG, World → dH, mainGlobals → dI, starEach → dJ, sizeLine → dL, wpAny → dM, codeAny → dN, Heap → dP, FuncData → dQ, Stmt → dR, Scope → dS
open Option renaming some → Z, none → Y
open Bool renaming true → M, false → J
theorem gu0(h0:True:=by repeat first|rfl|exact .inl rfl|assumption|apply Or.inr)(h1:True:=by first|decide|omega)(h2:True:=by intro _;rfl)(h3:True:=by decide+kernel):True:=h0
namespace gu0
end gu0
open gu0 renaming _auto_1 → au0, _auto_2 → bu0, _auto_3 → du0, _auto_4 → eu0
theorem Mi.O{α}{a:α}:a=a:=rfl
open Mi (O)
theorem Mi.al{p:Prop}[Decidable p]:(decide p=true)=p:=decide_eq_true_eq
theorem Mi.ak{c:Prop}{h:Decidable c}(a:c){α:Sort _}{t e:α}:ite c t e=t:=if_pos a
theorem Mi.aj{c:Prop}{h:Decidable c}(a:¬c){α:Sort _}{t e:α}:ite c t e=e:=if_neg a
theorem Mi.ai{p:Prop}[Decidable p]:¬p→decide p=false:=decide_eq_false
theorem Mi.ah{p:Prop}[Decidable p]:p→decide p=true:=decide_eq_true
open List renaming range → af
open Mi (al ak aj ai ah)
noncomputable section
namespace L2
open PySem PySem.Spec PyProof.Rows
abbrev Key:=Sum Int Str
noncomputable def pU:Key->dB->Bool
 | .inl k,v=>Value.isInt k v
 | .inr x,v=>Value.isStrOf x v
noncomputable def JQ(w:dH):Key->Int
 | .inl k=>hashInt k
 | .inr x=>hashStr w x
theorem fi:∀{k:Key} {v:dB},pU k v=M->(∃i t,k=Sum.inl i/\v=Value.int i t)\/(∃x t,k=Sum.inr x/\v=Value.str x t)
 | .inl i,v,h=>by
  obtain⟨t,e⟩:=Value.isInt_shape (k:=i) (v:=v) h;exact .inl ⟨i,t,O,e⟩
 | .inr x,v,h=>by
  obtain⟨t,e⟩:=Value.isStrOf_shape (x:=x) (v:=v) h;exact .inr ⟨x,t,O,e⟩
theorem x0(i:Int)(t:Tok):pU (.inl i) (.int i t)=M:=by simp[pU,Value.isInt]
theorem xZ(x:Str)(t:Tok):pU (.inr x) (.str x t)=M:=by simp[pU,Value.isStrOf]
theorem Ga(a b:Int):decide ((Sum.inl a:Key)=Sum.inl b)=(a == b):=by
 by_cases e:a=b
 ·subst e;simp
 ·have h:¬ (Sum.inl a:Key)=Sum.inl b:=λq=>e (Sum.inl.inj q);rw[ai h];exact(beq_eq_false_iff_ne.mpr e).symm
theorem F6(a b:Str):decide ((Sum.inr a:Key)=Sum.inr b)=decide (a=b):=by
 by_cases e:a=b
 ·subst e;simp
 ·have h:¬ (Sum.inr a:Key)=Sum.inr b:=λq=>e (Sum.inr.inj q);rw[ai h,ai e]
theorem F9(a:Int)(b:Str):decide ((Sum.inl a:Key)=Sum.inr b)=J:=ai (λq=>nomatch q)
theorem F7(a:Str)(b:Int):decide ((Sum.inr a:Key)=Sum.inl b)=J:=ai (λq=>nomatch q)
def ff(prog:dF)(w:dH):PySem.KeyKind prog w Key where
 is:=pU
 hash:=JQ w
 inj:=λv a b ha hb=>by
  rcases fi ha with⟨i,t,rfl,rfl⟩|⟨x,t,rfl,rfl⟩
  ·rcases fi hb with⟨j,u,rfl,e⟩|⟨y,u,rfl,e⟩
   ·injection e with e1 _;rw[e1]
   ·exact nomatch e
  ·rcases fi hb with⟨j,u,rfl,e⟩|⟨y,u,rfl,e⟩
   ·exact nomatch e
   ·injection e with e1 _;rw[e1]
 byValue:=λk v h=>by
  rcases fi h with⟨i,t,rfl,rfl⟩|⟨x,t,rfl,rfl⟩<;>rfl
 pyHash:=λhv h=>by
  rcases fi hv with⟨i,t,rfl,rfl⟩|⟨x,t,rfl,rfl⟩
  ·exact wpAny_pyHash_int h
  ·exact wpAny_pyHash_str h
 eqBool:=λhu hv h=>by
  rcases fi hu with⟨i,t,rfl,rfl⟩|⟨x,t,rfl,rfl⟩
  ·rcases fi hv with⟨j,u,rfl,rfl⟩|⟨y,u,rfl,rfl⟩
   ·rw[Ga]at h;exact wpAny_eqBool_int h
   ·rw[F9]at h;exact SeqAt.EqAt.int_str i t y u _ _ _ _ h
  ·rcases fi hv with⟨j,u,rfl,rfl⟩|⟨y,u,rfl,rfl⟩
   ·rw[F7]at h;exact SeqAt.EqAt.str_int x t j u _ _ _ _ h
   ·rw[F6]at h;exact wpAny_eqBool_str h
 «strs» :=λk x t v h=>by
  rcases fi h with⟨i,u,rfl,e⟩|⟨y,u,rfl,e⟩
  ·exact nomatch e
  ·injection e with e1 _;subst e1;cases v<;>rfl
theorem tJ(prog:dF)(w:dH)(i:Int)(t:Tok):(ff prog w).is (.inl i) (.int i t)=M:=x0 i t
theorem tI(prog:dF)(w:dH)(x:Str)(t:Tok):(ff prog w).is (.inr x) (.str x t)=M:=xZ x t
inductive V where
 |non|bl (b:Bool)|int (i:Int)|str (x:Str)|byt (b:Array UInt8)|flt (b:UInt64)|ref (a:dE)|ty (n:String)
 deriving DecidableEq
def d8:V->dB->Prop
 | .non,u=>u=Value.none
 | .bl b,u=>u=Value.bool b
 | .int i,u=>∃t,u=Value.int i t
 | .str x,u=>∃t,u=Value.str x t
 | .byt b,u=>∃t,u=Value.bytes b t
 | .flt b,u=>∃t,u=Value.float b t
 | .ref a,u=>u=Value.ref a
 | .ty n,u=>u=Value.type n
abbrev eE:List V->List dB->Prop:=Paired d8
theorem eE.length{xs:List V}{a:List dB}(r:eE xs a):xs.length=a.length:=Paired.length r
theorem eE.get:∀{xs:List V} {a:List dB} {i:Nat} {x:V},eE xs a->xs[i]?=Z x -> ∃u,a[i]?=Z u/\d8 x u:=by
 intro xs a i x h e
 induction h generalizing i with
 |nil=>cases e
 |cons r t ih=>cases i with
  |zero=>cases e;exact⟨_,O,r⟩
  |succ i=>exact ih (i:=i) e
theorem eE.set{x:V}{u:dB}(r:d8 x u):∀{xs:List V} {a:List dB} (i:Nat),eE xs a->eE (xs.set i x) (a.set i u):=by
 intro xs a i h
 induction h generalizing i with
 |nil=>exact .nil
 |cons q t ih=>cases i with
  |zero=>exact .cons r t
  |succ i=>exact .cons q (ih i)
theorem eE.append:∀{xs ys:List V} {a ws:List dB},eE xs a->eE ys ws->eE (xs++ys) (a++ws):=by
 intro xs ys a ws h s
 induction h with
 |nil=>exact s
 |cons r t ih=>exact .cons r ih
theorem eE.take:∀{xs:List V} {a:List dB} (n:Nat),eE xs a->eE (xs.take n) (a.take n):=by
 intro xs a n h
 induction h generalizing n with
 |nil=>rw[av,av];exact .nil
 |cons r t ih=>cases n with
  |zero=>exact .nil
  |succ n=>exact .cons r (ih n)
theorem eE.drop:∀{xs:List V} {a:List dB} (n:Nat),eE xs a->eE (xs.drop n) (a.drop n):=by
 intro xs a n h
 induction h generalizing n with
 |nil=>rw[aw,aw];exact .nil
 |cons r t ih=>cases n with
  |zero=>exact .cons r t
  |succ n=>exact ih n
def mW:Option V->Option dB->Prop
 |some v,Z u=>d8 v u
 |none,Y=>True
 |_,_=>False
def KV{κ:Type}:List (κ×V)->List (κ×dB)->Prop:=Paired λ(p:κ×V) (q:κ×dB)=>p.1=q.1/\d8 p.2 q.2
noncomputable def kV:Key->V
 | .inl i=>.int i
 | .inr x=>.str x
inductive HO where
 /-- a list -/
 |lst (xs:List V)
 /-- a tuple (never changes) -/
 |tup (xs:List V)
 /-- a dict whose keys are ints and texts; one whose keys are tuples of ints and texts (the empty one is both) -/
 |dK (kvs:List (Key×V))|dT (kvs:List (List Key×V))
 /-- a set of ints: its members, its size -/
 |set (S:Int->Bool) (n:Nat)
 /-- an instance of the class at C, its dict at dx, its attributes -/
 |ins (C dx:dE) (fs:List (Str×V))
 /-- the dict of the instance at x -/
 |own (x:dE)
 /-- the dict of an exception -/
 |xd (fs:List (Str×V))
 /-- a bound method, f of x -/
 |met (f x:dE)
 /-- a range object lo, lo + 1, .. below hi -/
 |rng (lo hi:Int)
 /-- a thing that is known to the object (the script; a dict while a loop walks it): read, never written while it is so -/
 |frz (o:Obj) (u:HO)
 /-- a code object's table -/
 |tbl (ps:Array dB)
 /-- any other thing, by what is true of its one object (a def of one's own: SetO a S n := HO.ext λh => ..) -/
 |ext (φ:dP->Prop)
abbrev Hp:=dE->Option HO
noncomputable def upd(H:Hp)(a:dE)(o:HO):Hp:=λb=>if b=a then Z o else H b
theorem d9{H:Hp}{a:dE}{o:HO}:upd H a o a=Z o:=by unfold upd;rw[ak O]
theorem d0{H:Hp}{a b:dE}{o:HO}(h:b≠a):upd H a o b=H b:=by unfold upd;rw[aj h]
theorem HB{H:Hp}{a b:dE}{o u:HO}(h:H a=Z o)(h':H b=Z u)(d:o≠u):a≠b:=by
 intro e;subst e;rw[h]at h';exact d (Option.some.inj h')
theorem eI{H:Hp}{a b:dE}{o:HO}(h:H a=Z o)(h':H b=Y):a≠b:=by
 intro e;subst e;rw[h]at h';cases h'
section
variable(P:dF) (w:dH)
def eX(H:Hp)(h:dP)(a:dE):HO->Prop
 | .lst xs=>xs.length<=dL /\ ∃(its:List dB) (n:Nat),eE xs its/\h.get? a=Z {cls:=.type "list",data:=.seq its.toArray n}
 | .tup xs=>xs.length<=dL /\ ∃its:List dB,eE xs its/\IsTup h a its.toArray
 | .dK kvs=>kvs.length<=dL/\(a == sysModules)=J /\ ∃vs,KV kvs vs/\h.DictOf (ff P w) a vs
 | .dT kvs=>kvs.length<=dL/\(a == sysModules)=false /\ ∃ xs:List (List Key×dE×dB),
   Paired (λ(p:List Key×V) (q:List Key×dE×dB)=>p.1=q.1/\H q.2.1=Z (.tup (p.1.map kV))/\d8 p.2 q.2.2) kvs xs /\
   ∃o es ep,h.get? a=Z o/\o.ExactDict/\o.data = .dict es ep/\es.toList=xs.map (entryOfKey (tupleKind (ff P w)))/\(xs.map (·.1)).Nodup
 | .set S n=>h.SetOf (intKind P w) a S n
 | .ins C dx fs=>H dx=some (.own a)/\fs.length<=1000/\dx≠a/\h.get? a=some (PySem.W.instObj C dx) /\
   ∃mA,h.Ns1 dx mA/\(∀f,mW (fs.lookup f) (mA f))/\PySem.Within mA (fs.map (·.1))
 | .own _=>∃o,h.get? a=Z o
 | .xd fs=>∃mA,h.Ns1 a mA /\ ∀f,mW (fs.lookup f) (mA f)
 | .rng lo hi=>∃t u v,h.get? a=Z {cls:=.type "range",data:=.fields #[.int lo t,.int hi u,.int 1 v]}
 | .frz o u=>h.get? a=Z o/\eX H h a u
 | .tbl ps=>h.get? a=Z {cls:=.none,data:=.fields ps}
 | .met f x=>h.get? a=Z (PySem.W.methodObj (.ref f) (.ref x))
 | .ext φ=>φ h/\(∃o,h.get? a=Z o) /\ ∀h1 h2:dP,φ h1->(∀o,h1.get? a=Z o->h2.get? a=Z o)->φ h2
def lF(H:Hp)(h:dP):Prop:=∀a o,H a=Z o->eX P w H h a o
end
section
variable{P:dF}{w:dH}{H H':Hp}{h h':dP}{a:dE}{o:HO}
theorem eX.lt(x:eX P w H h a o):a<h.objs.size:=by
 cases o with
 |lst xs=>obtain⟨_,_,_,_,e⟩:=x;exact hL1 e
 |tup xs=>obtain⟨_,_,_,p⟩:=x;exact p.lt
 |dK kvs=>obtain⟨_,_,_,_,o,_,_,e,_⟩:=x;exact hL1 e
 |dT kvs=>obtain⟨_,_,_,_,o,_,_,e,_⟩:=x;exact hL1 e
 |set S n=>obtain⟨o,_,_,_,e,_⟩:=x;exact hL1 e
 |ins C dx fs=>obtain⟨_,_,_,e,_⟩:=x;exact hL1 e
 |own y=>obtain⟨_,e⟩:=x;exact hL1 e
 |xd fs=>obtain⟨_,⟨_,_,_,e,_⟩,_⟩:=x;exact hL1 e
 |rng lo hi=>obtain⟨_,_,_,e⟩:=x;exact hL1 e
 |frz b u=>obtain⟨e,_⟩:=x;exact hL1 e
 |tbl ps=>exact hL1 (show h.get? a=Z _ from x)
 |met f y=>exact hL1 (show h.get? a=Z _ from x)
 |ext φ=>obtain⟨_,⟨_,e⟩,_⟩:=x;exact hL1 e
theorem Paired.mapP{α β:Type}{F G:α->β->Prop}:∀{l₁:List α} {l₂:List β},Paired F l₁ l₂->(∀a b,F a b->G a b)->Paired G l₁ l₂:=by
 intro a b h f
 induction h with
 |nil=>exact .nil
 |cons r t ih=>exact .cons (f _ _ r) ih
theorem eX.stay(x:eX P w H h a o)(k:∀ b u,(b=a\/H b=Z (.own a))->h.get? b=Z u->h'.get? b=Z u)(ho:∀b,H b=Z (.own a)->H' b=Z (.own a))(ht:∀b xs,H b=Z (.tup xs)->H' b=Z (.tup xs)):eX P w H' h' a o:=by
 induction o with
 |lst xs=>obtain⟨z,i,n,r,e⟩:=x;exact⟨z,i,n,r,k _ _ (.inl O) e⟩
 |tup xs=>obtain⟨z,i,r,g,e,c⟩:=x;exact⟨z,i,r,g,k _ _ (.inl O) e,c⟩
 |dK kvs=>obtain⟨z,y,vs,r,g,es,ep,e,c⟩:=x;exact⟨z,y,vs,r,g,es,ep,k _ _ (.inl O) e,c⟩
 |dT kvs=>
  obtain⟨z,y,xs,r,g,es,ep,e,c⟩:=x;exact⟨z,y,xs,Paired.mapP r λp q z=>⟨z.1,ht _ _ z.2.1,z.2.2⟩,g,es,ep,k _ _ (.inl O) e,c⟩
 |set S n=>obtain⟨g,es,ep,t,e,c⟩:=x;exact⟨g,es,ep,t,k _ _ (.inl O) e,c⟩
 |ins C dx fs=>
  obtain⟨d,z,ne,e,mA,⟨j,es,ep,l,c⟩,r⟩:=x;exact⟨ho _ d,z,ne,k _ _ (.inl O) e,mA,⟨j,es,ep,k _ _ (.inr d) l,c⟩,r⟩
 |own y=>obtain⟨g,e⟩:=x;exact⟨g,k _ _ (.inl O) e⟩
 |xd fs=>obtain⟨mA,⟨j,es,ep,e,c⟩,r⟩:=x;exact⟨mA,⟨j,es,ep,k _ _ (.inl O) e,c⟩,r⟩
 |rng lo hi=>obtain⟨t,u,v,e⟩:=x;exact⟨t,u,v,k _ _ (.inl O) e⟩
 |frz g u ih=>obtain⟨e,q⟩:=x;exact⟨k _ _ (.inl O) e,ih q⟩
 |tbl ps=>
  have e:h.get? a=Z {cls:=.none,data:=.fields ps}:=x;show h'.get? a=Z {cls:=.none,data:=.fields ps};exact k a _ (.inl O) e
 |met f y=>
  have e:h.get? a=Z (PySem.W.methodObj (.ref f) (.ref y)):=x;show h'.get? a=Z (PySem.W.methodObj (.ref f) (.ref y));exact k a _ (.inl O) e
 |ext φ=>obtain⟨p,⟨o,e⟩,st⟩:=x;exact⟨st _ _ p λo q=>k _ _ (.inl O) q,⟨o,k _ _ (.inl O) e⟩,st⟩
theorem lF.lt(x:lF P w H h)(e:H a=Z o):a<h.objs.size:=(x a o e).lt
theorem lF.fresh(x:lF P w H h)(e:h.objs.size<=a):H a=Y:=by
 cases q:H a with
 |none=>rfl
 |some u=>exact absurd (nL1 (x.lt q) e) (az _)
theorem lF.kept(x:lF P w H h)(k:∀b u,h.get? b=Z u->h'.get? b=Z u):lF P w H h':=λa o e=>
 (x a o e).stay (λb u _ q=>k b u q) (λ_ q=>q) λ_ _ q=>q
theorem lF.laid(x:lF P w H h)(k:∀b u,h.get? b=Z u->h'.get? b=Z u)(hp:h.objs.size<=a)(new:eX P w (upd H a o) h' a o):lF P w (upd H a o) h':=λb u e=>by
 have f:=x.fresh hp;by_cases d:b=a
 ·subst d;rw[d9]at e;cases e;exact new
 ·rw[d0 d]at e;exact(x b u e).stay (λc v _ q=>k c v q) (λc q=>by rw[d0 (eI q f)];exact q) λc xs q=>by rw[d0 (eI q f)];exact q
end
def Rd(H:Hp)(a:dE)(u:HO):Prop:=H a=Z u \/ ∃o,H a=Z (.frz o u)
theorem Rd.ok{P:dF}{w:dH}{H:Hp}{h:dP}{a:dE}{u:HO}(r:Rd H a u)(x:lF P w H h):eX P w H h a u:=by
 rcases r with r|⟨o,r⟩
 ·exact x a u r
 ·obtain⟨_,q⟩:=x a _ r;exact q
def Mut:Option HO->Prop
 |some (.lst _)=>True
 |some (.dK _)=>True
 |some (.dT _)=>True
 |some (.set _ _)=>True
 |some (.ins _ _ _)=>True
 |some (.ext _)=>True
 |_=>False
section
variable{P:dF}{w:dH}{H:Hp}{h h':dP}{x e:dE}{o':HO}
theorem lF.write(ok:lF P w H h)(mu:Mut (H x))(he:e=x\/H e=Z (.own x))(k:∀ b u,b≠e->h.get? b=Z u->h'.get? b=Z u)(i:∃ u,h'.get? e=Z u)(new:eX P w (upd H x o') h' x o'):lF P w (upd H x o') h':=λb u q=>by
 have d:∀c y,H c=Z (.own y)->c≠x:=λc y r z=>by subst z;rw[r]at mu;exact mu
 have f:∀c xs,H c=Z (.tup xs)->c≠x:=λc xs r z=>by subst z;rw[r]at mu;exact mu
 by_cases g:b=x
 ·subst g;rw[d9]at q;cases q;exact new
 ·rw[d0 g]at q;by_cases a:b=e
  ·have j:H b=some (.own x):=by
    rcases he with z|z
    ·exact absurd (a.trans z) g
    ·rw[a];exact z
   rw[q]at j;cases j;obtain⟨v,l⟩:=i;exact⟨v,by rw[a];exact l⟩
  ·refine(ok b u q).stay (λc v hc r=>k c v ?_ r) (λc r=>by rw[d0 (d c b r)];exact r) λc xs r=>by rw[d0 (f c xs r)];exact r
   rcases hc with rfl|hc
   ·exact a
   ·rintro rfl;rcases he with z|z
    ·exact d c b hc z
    ·rw[hc]at z;cases z;exact g O
end
structure Un (fs ex:List dE)(H H':Hp)(h h':dP):Prop where
 keep:∀b o,h.get? b=some o->H b=none->b∉fs->b∉ex->h'.get? b=some o
 slot:∀b o,h.get? b=some o->H b=none->b∈fs->b∉ex -> ∃sl,h'.get? b=some {o with slots:=sl}
 free:∀b o,h.get? b=some o->H b=none->b∉ex->H' b=none
 there:∀b o,h.get? b=some o->b∉ex -> ∃o',h'.get? b=some o'
 tups:∀b xs,H b=some (.tup xs)->H' b=some (.tup xs)
 frzs:∀b o u,H b=some (.frz o u)->H' b=some (.frz o u)
 tbls:∀b ps,H b=some (.tbl ps) -> ∃more,H' b=some (.tbl (ps++more))
section
variable{fs fs' ex ex':List dE}{H H1 H2:Hp}{h h1 h2 h':dP}{a x e:dE}{o:HO}
theorem Un.any(u:Un fs ex H H1 h h1){b:dE}{a:Obj}(q:h.get? b=Z a)(n:H b=Y)(hx:b∉ex):∃d,h1.get? b=Z {a with slots:=d}:=by
 by_cases c:b∈fs
 ·exact u.slot b a q n c hx
 ·exact⟨a.slots,u.keep b a q n c hx⟩
theorem Un.kept(k:∀b u,h.get? b=Z u->h'.get? b=Z u):Un fs ex H H h h':=
 ⟨λb a q _ _ _=>k b a q,λb a q _ _ _=>⟨a.slots,k b a q⟩,λ_ _ _ n _=>n,λb a q _=>⟨a,k b a q⟩,λ_ _ q=>q,λ_ _ _ q=>q,λ_ ps q=>⟨#[],by rw[q];simp⟩⟩
theorem Un.refl:Un fs ex H H h h:=Un.kept λ_ _ q=>q
theorem Un.laid(k:∀b u,h.get? b=Z u->h'.get? b=Z u)(hp:h.objs.size<=a)(hn:H a=Y):Un fs ex H (upd H a o) h h' where
 keep:=λb u q _ _ _=>k b u q
 slot:=λb u q _ _ _=>⟨u.slots,k b u q⟩
 free:=λb u q n _=>by rw[d0 (nN1 (nL1 (hL1 q) hp))];exact n
 there:=λb u q _=>⟨u,k b u q⟩
 tups:=λb xs q=>by rw[d0 (eI q hn)];exact q
 frzs:=λb u xs q=>by rw[d0 (eI q hn)];exact q
 tbls:=λb ps q=>⟨#[],by rw[d0 (eI q hn),q];simp⟩
theorem Un.write(mu:Mut (H x))(he:e=x\/H e=Z (.own x))(k:∀b u,b≠e->h.get? b=Z u->h'.get? b=Z u)(d:∃u,h'.get? e=Z u):Un fs ex H (upd H x o) h h':=by
 have g:∀b,H b=Y->b≠x:=λb n z=>by subst z;rw[n]at mu;exact mu
 have f:∀b,H b=Y->b≠e:=λb n z=>by
  subst z;rcases he with r|r
  ·exact g b n r
  ·rw[n]at r;cases r
 have c:∀b u,H b=Z u -> ¬ Mut (Z u)->b≠x:=λb u q nm z=>by subst z;rw[q]at mu;exact nm mu
 refine⟨λb u q n _ _=>k b u (f b n) q,λb u q n _ _=>⟨u.slots,k b u (f b n) q⟩,λb u q n _=>by rw[d0 (g b n)];exact n,λb u q _=>?_,
  λb xs q=>by rw[d0 (c b _ q λz=>z)];exact q,λb u xs q=>by rw[d0 (c b _ q λz=>z)];exact q,λb ps q=>⟨#[],by rw[d0 (c b _ q λz=>z),q];simp⟩⟩
 by_cases a:b=e
 ·subst a;exact d
 ·exact⟨u,k b u a q⟩
end
noncomputable def trk(h:dP)(H:Hp):List dE:=(af h.objs.size).filter λa=>(H a).isSome
def rQ(h:dP)(H:Hp):dP:=PySem.W.hideAll h (trk h H)
theorem yg(h:dP)(H:Hp):(rQ h H).objs.size=h.objs.size:=PySem.W.hideAll_size _ _
theorem AU{h:dP}{H:Hp}{b:dE}{o:Obj}(e:h.get? b=Z o)(n:H b=Y):(rQ h H).get? b=Z o:=
 PySem.W.hideAll_get _ e λa=>by
  have q:(H b).isSome=M:=(aA.mp a).2;rw[n]at q;simp at q
theorem Cv{h:dP}{H:Hp}{b:dE}{o:Obj}(e:(rQ h H).get? b=Z o):h.get? b=Z o/\H b=Y:=by
 have a:h.get? b=Z o:=PySem.W.of_hideAll (trk h H) e;refine⟨a,?_⟩;cases q:H b with
 |none=>rfl
 |some x=>
  have c:b∈trk h H:=aA.mpr ⟨aB.mpr (hL1 a),by simp[q]⟩;have z:(rQ h H).get? b=Y:=PySem.W.hideAll_none (trk h H) c;rw[z]at e;cases e
noncomputable def DA(g h:dP)(L:dE):List (dE×Obj):=(af h.objs.size).filterMap λa=>if a=L\/(g.get? a).isSome=M then Y else(h.get? a).map λo=>(a,o)
def rest(g h:dP)(L d:dE):List (dE×Obj):=(DA g h L).filter λp=>decide (p.1≠d)
structure Mod (K:Fg1)(mg:Str->Option dB)(base:dP):Prop where
 kin:K.In base
 glob:base.Ns dI mg
 blt:∃mb,base.Ns builtinsNs mb /\ ∀x:Str,x≠"__name__"->mb x=bootBuiltins x
 nolimit:base.NoLimit
structure Cx where
 prog:dF
 w:dH
 K:Fg1
 mg:Str->Option dB
 base:dP
 A:dG
 N:List Str
 s₀:dD
 H₀:Hp
 env:Env
 outer:List Env
 stack:List Env
 ex:List dE
 fn:Str->Bool
 calm:Bool
 pn:List (dE×Obj)
 xe:dB->dD->Prop
noncomputable def frs(l:List Env):List dE:=l.filterMap (·.frame)
abbrev Cx.fs(X:Cx):List dE:=frs X.outer
def Vis(sc:dS)(x:Str):Prop:=sc.names.lookup x=Z .local\/sc.names.lookup x=Z .cell\/sc.names.lookup x=Z .free
def vM(sc:dS)(x:Str):Prop:=sc.names.lookup x=Z .local\/sc.names.lookup x=Z .cell
def Kf(env:Env)(h:dP)(m:Str->Option dB)(x:Str)(u:dB):Prop:=
 (env.kindOf x=Z .local/\m x=Z u)\/((env.kindOf x=Z .cell\/env.kindOf x=Z .free) /\ ∃c,env.cells.lookup x=Z c/\h.IsCell c (Z u))
structure Cx.Ok (X:Cx):Prop where
 mod:Mod X.K X.mg X.base
 kind:X.env.scope.kind = .function
 glob:X.env.globals=dI
 blt:X.env.builtins=builtinsNs
 above:X.s₀.heap.objs.size<=X.env.locals
 inj:∀x y c,X.env.cells.lookup x=some c->X.env.cells.lookup y=some c->x=y
 has:∀x,(X.env.kindOf x=some .cell\/X.env.kindOf x=some .free) -> ∃c,X.env.cells.lookup x=some c
 cab:∀x c,X.fn x=true->X.env.cells.lookup x=some c->X.s₀.heap.objs.size<=c
 hd:X.calm=true->X.A.handled=none
 frames:X.A.frames=some X.stack
 stk:X.stack=X.outer\/(X.stack=X.env::X.outer/\X.env.frame=some X.env.locals)
 exf:∀b∈X.ex,b≠X.env.locals /\ ∀x c,X.env.cells.lookup x=some c->c≠b
 bs:∀b o,X.base.get? b=some o->X.s₀.heap.get? b=some o/\X.H₀ b=none
 bsz:X.base.objs.size<=X.s₀.heap.objs.size
 noex:∀b o,X.base.get? b=some o->b∉X.ex
 exfs:∀b∈X.ex,b∉X.fs
 funs:X.s₀.heap.FunFrames X.base X.outer
 frf:∀b∈X.fs,X.H₀ b=none
structure Inv (X:Cx)(ag:List (dE×Obj))(σ:List (Option V))(H:Hp)(s:dD):Prop where
 ok:X.Ok
 os:s.os=X.s₀.os
 bare:AllBare s.gens
 base:Un X.fs X.ex X.H₀ H X.s₀.heap s.heap
 loc:∃m,s.heap.Ns X.env.locals m /\ ∀(i:Nat) (x:Str) (v:V),X.N[i]?=some x->σ[i]?=some (some v)->Vis X.env.scope x -> ∃u,d8 v u/\Kf X.env s.heap m x u
 cell:∀x c,X.env.cells.lookup x=some c -> ∃v,s.heap.IsCell c v
 free:H X.env.locals=none
 freeC:∀x c,X.env.cells.lookup x=some c->H c=none
 pin:∀p∈X.pn++ag,s.heap.get? p.1=some p.2/\H p.1=none/\p.1≠X.env.locals/\p.1∉X.fs /\ ∀v,p.2.data ≠ .cell v
 hok:lF X.prog X.w H s.heap
 len:σ.length=X.N.length
variable{X:Cx}
section
variable{ag:List (dE×Obj)}{σ:List (Option V)}{H H':Hp}{s:dD}{h':dP}
theorem Cx.Ok.nofr(ok:X.Ok){b:dE}{o:Obj}(e:X.base.get? b=Z o):b∉X.fs:=λa=>by
 have:=(ok.funs.mem a).1;rw[e]at this;cases this
theorem Inv.bs(I:Inv X ag σ H s):∀b o,X.base.get? b=Z o->s.heap.get? b=Z o/\H b=Y:=λb o e=>
 ⟨I.base.keep b o (I.ok.bs b o e).1 (I.ok.bs b o e).2 (I.ok.nofr e) (I.ok.noex b o e),I.base.free b o (I.ok.bs b o e).1 (I.ok.bs b o e).2 (I.ok.noex b o e)⟩
theorem Inv.bk(I:Inv X ag σ H s):∀b o,X.base.get? b=Z o->s.heap.get? b=Z o:=λb o e=>(I.bs b o e).1
theorem Inv.mod(I:Inv X ag σ H s):Mod X.K X.mg X.base:=I.ok.mod
theorem Inv.kIn(I:Inv X ag σ H s):X.K.In s.heap:=I.ok.mod.kin.keeps I.bk
theorem Inv.lt(I:Inv X ag σ H s):X.env.locals<s.heap.objs.size:=let ⟨_,hn,_⟩:=I.loc;hn.lt
theorem Inv.sz(I:Inv X ag σ H s):X.s₀.heap.objs.size<=s.heap.objs.size:=aC I.ok.above (aD I.lt)
theorem Inv.nofs(I:Inv X ag σ H s){a:dE}(h:s.heap.objs.size<=a):a∉X.fs:=λb=>by
 obtain⟨_,o,c,_⟩:=I.ok.funs.mem b;exact absurd (nL1 (hL1 c) (aC I.sz h)) (az _)
theorem Inv.cne(I:Inv X ag σ H s):∀x c,X.env.cells.lookup x=Z c->c≠X.env.locals:=λx c e z=>by
 obtain⟨v,o,d,f⟩:=I.cell x c e;obtain⟨m,⟨o',es,ep,b,a,_⟩,_⟩:=I.loc;rw[z,b]at d;cases d;rw[a]at f;cases f
theorem Inv.funs(I:Inv X ag σ H s):s.heap.FunFrames X.base X.outer:=by
 have all:∀(l:List Env),(∀b∈frs l,b∈X.fs)->X.s₀.heap.FunFrames X.base l->s.heap.FunFrames X.base l:=by
  intro l
  induction l with
  |nil=>intro _ _;trivial
  |cons k r ih=>
   intro f j;obtain⟨i,⟨L,o,c,g,n,m⟩,h⟩:=j;have d:L∈X.fs:=f L (by unfold frs;rw[aE,c];exact mS1);obtain⟨p,e⟩:=I.base.slot L o n (I.ok.frf L d) d λz=>I.ok.exfs L z d;exact⟨i,⟨L,_,c,g,e,m⟩,ih (λb a=>f b (by unfold frs;rw[aE,c];exact mC1 _ a)) h⟩
 exact all X.outer (λ_ a=>a) I.ok.funs
theorem Inv.stack(I:Inv X ag σ H s):s.heap.FunFrames X.base X.stack:=by
 rcases I.ok.stk with e|⟨e,b⟩
 ·rw[e];exact I.funs
 ·rw[e];obtain⟨m,a,_⟩:=I.loc;refine .cons (by rw[I.ok.kind];decide) b a ?_ I.funs;exact Heap.get?_none_of_le (aC I.ok.bsz I.ok.above)
theorem Inv.stkSub(I:Inv X ag σ H s):∀b∈frs X.stack,b∈X.env.locals::X.fs:=λb a=>by
 rcases I.ok.stk with e|⟨e,c⟩
 ·rw[e]at a;exact mC1 _ a
 ·rw[e]at a;unfold frs at a;rw[aE,c]at a;exact a
theorem Inv.stkFree(I:Inv X ag σ H s):∀b∈frs X.stack,H b=Y:=λb a=>by
 rcases aF.mp (I.stkSub b a)with e|a
 ·rw[e];exact I.free
 ·obtain⟨_,o,c,_⟩:=I.ok.funs.mem a;exact I.base.free b o c (I.ok.frf b a) λz=>I.ok.exfs b z a
theorem Inv.step{g':Array GenState}{t':Nat}{d':Drawn}{ch:List dE}(I:Inv X ag σ H s)(j:∀b∈ch,(b∈X.ex\/X.s₀.heap.objs.size<=b)/\b≠X.env.locals/\(∀x c,X.env.cells.lookup x=some c->c≠b) /\ ∀p∈X.pn++ag,p.1≠b)(keep:∀b o,b≠X.env.locals->b∉X.fs->b∉ch->s.heap.get? b=some o->H b=none->h'.get? b=some o)(slot:∀b o,b≠X.env.locals->b∈X.fs->b∉ch->s.heap.get? b=some o->H b=none -> ∃am,h'.get? b=some {o with slots:=am})(f:∀b o,b∉ch->s.heap.get? b=some o->H b=none->H' b=none)(A:∀b o,b∉ch->s.heap.get? b=some o -> ∃o',h'.get? b=some o')(G:∀b xs,H b=some (.tup xs)->H' b=some (.tup xs))(D:∀b o u,H b=some (.frz o u)->H' b=some (.frz o u))(C:∀b ps,H b=some (.tbl ps) -> ∃more,H' b=some (.tbl (ps++more)))(ns:∀m,s.heap.Ns X.env.locals m->h'.Ns X.env.locals m)(L:lF X.prog X.w H' h')(hg:AllBare g'):
  Inv X ag σ H' {s with heap:=h',gens:=g',drawn:=d',toks:=t'}:=by
 have E:∀b o,X.s₀.heap.get? b=Z o->b≠X.env.locals:=λb o e=>nN1 (nL1 (hL1 e) I.ok.above);have w:∀b o,X.s₀.heap.get? b=Z o->b∉X.ex->b∉ch:=λb o e a y=>by
  rcases(j b y).1 with z|z
  ·exact a z
  ·exact absurd (nL1 (hL1 e) z) (az _)
 have h:∀x c,X.env.cells.lookup x=Z c -> ∀v,s.heap.IsCell c v->h'.IsCell c v:=λx c e v ⟨o,B,K⟩=>by
  have g:c∉ch:=λz=>(j c z).2.2.1 x c e O;by_cases hc:c∈X.fs
  ·obtain⟨am,q⟩:=slot c o (I.cne x c e) hc g B (I.freeC x c e);exact⟨_,q,K⟩
  ·exact⟨o,keep c o (I.cne x c e) hc g B (I.freeC x c e),K⟩
 refine⟨I.ok,I.os,hg,⟨λb o e n y a=>?_,λb o e n y a=>?_,λb o e n a=>?_,λb o e a=>?_,λb xs e=>G b xs (I.base.tups b xs e),λb o xs e=>D b o xs (I.base.frzs b o xs e),λb ps e=>?_⟩,?_,λx c e=>?_,?_,λx c e=>?_,λp au=>?_,L,I.len⟩
 ·exact keep b o (E b o e) y (w b o e a) (I.base.keep b o e n y a) (I.base.free b o e n a)
 ·obtain⟨am,t⟩:=I.base.slot b o e n y a;obtain⟨ao,F⟩:=slot b _ (E b o e) y (w b o e a) t (I.base.free b o e n a);exact⟨ao,F⟩
 ·obtain⟨o',t⟩:=I.base.there b o e a;exact f b o' (w b o e a) t (I.base.free b o e n a)
 ·obtain⟨o',t⟩:=I.base.there b o e a;exact A b o' (w b o e a) t
 ·obtain⟨m1,t⟩:=I.base.tbls b ps e;obtain⟨m2,F⟩:=C b _ t;exact⟨m1++m2,by rw[F,Array.append_assoc]⟩
 ·obtain⟨m,P,Q⟩:=I.loc;refine⟨m,ns m P,λi x v t F R=>?_⟩;obtain⟨u,r,l⟩:=Q i x v t F R;refine⟨u,r,?_⟩;rcases l with l|⟨k,c,e,z⟩
  ·exact .inl l
  ·exact .inr ⟨k,c,e,h x c e _ z⟩
 ·obtain⟨v,z⟩:=I.cell x c e;exact⟨v,h x c e v z⟩
 ·obtain⟨m,⟨o,_,_,B,_⟩,_⟩:=I.loc;exact f _ o (λz=>(j _ z).2.1 O) B I.free
 ·obtain⟨v,o,B,K⟩:=I.cell x c e;exact f c o (λz=>(j c z).2.2.1 x c e O) B (I.freeC x c e)
 ·obtain⟨e,n,ne,N,d⟩:=I.pin p au;have g:p.1∉ch:=λz=>(j p.1 z).2.2.2 p au O;exact⟨keep p.1 p.2 ne N g e n,f p.1 p.2 g e n,ne,N,d⟩
theorem Inv.un{t':Nat}(I:Inv X ag σ H s)(u:Un X.fs [] H H' s.heap h')(f:lF X.prog X.w H' h'):Inv X ag σ H' {s with heap:=h',toks:=t'}:=by
 obtain⟨m,⟨o,es,ep,h,r⟩,_⟩:=id I.loc;obtain⟨l,k⟩:=u.any h I.free (by simp);exact I.step (g':=s.gens) (d':=s.drawn) (ch:=[]) (λ_ z=>nomatch z) (λb o _ d _ e n=>u.keep b o e n d (by simp)) (λb o _ d _ e n=>u.slot b o e n d (by simp)) (λb o _ e n=>u.free b o e n (by simp)) (λb o _ e=>u.there b o e (by simp)) u.tups u.frzs u.tbls (λp j=>by
  obtain⟨o',g,c,a,i⟩:=j;rw[h]at a;cases a;exact⟨_,g,c,k,i⟩) f I.bare
theorem Inv.call{g':Array GenState}{t':Nat}{d':Drawn}{ch:List dE}(I:Inv X ag σ H s)(u:Un (frs X.stack) ch H H' s.heap h')(g:lF X.prog X.w H' h')(hg:AllBare g')(a:∀b∈ch,(b∈X.ex\/X.s₀.heap.objs.size<=b)/\b≠X.env.locals/\(∀x c,X.env.cells.lookup x=some c->c≠b) /\ ∀p∈X.pn++ag,p.1≠b):
  Inv X ag σ H' {s with heap:=h',gens:=g',drawn:=d',toks:=t'}:=by
 obtain⟨m,⟨o,es,ep,j,r⟩,_⟩:=id I.loc;obtain⟨t,h⟩:=u.any j I.free λz=>(a _ z).2.1 O;exact I.step (ch:=ch) a (λb o h l hc e n=>u.keep b o e n (λz=>(aF.mp (I.stkSub b z)).elim h l) hc) (λb o _ _ hc e n=>u.any e n hc) (λb o hc e n=>u.free b o e n hc) (λb o hc e=>u.there b o e hc) u.tups u.frzs u.tbls (λv q=>by
  obtain⟨o',i,f,d,k⟩:=q;rw[j]at d;cases d;exact⟨_,i,f,h,k⟩) g hg
theorem Inv.turned{t':Nat}{it:dE}(I:Inv X ag σ H s)(k:∀ b o,b≠it->s.heap.get? b=Z o->h'.get? b=Z o)(hn:H it=Y)(d:it≠X.env.locals)(h1:it∈X.ex\/X.s₀.heap.objs.size<=it)(h2:∀x c,X.env.cells.lookup x=Z c->c≠it)(h:∀p∈X.pn++ag,p.1≠it):Inv X ag σ H {s with heap:=h',toks:=t'}:=by
 have a:∀b u,H b=Z u->b≠it:=λb u e z=>by rw[z,hn]at e;cases e
 refine I.step (g':=s.gens) (d':=s.drawn) (ch:=[it]) (λb f=>?_) (λb o _ _ hc e _=>k b o (λz=>hc (by simp[z])) e) (λb o _ _ hc e _=>⟨o.slots,k b o (λz=>hc (by simp[z])) e⟩) (λ_ _ _ _ n=>n)
  (λb o hc e=>⟨o,k b o (λz=>hc (by simp[z])) e⟩) (λ_ _ e=>e) (λ_ _ _ e=>e) (λb ps e=>⟨#[],by rw[e];simp⟩) (λm g=>?_) (λb u e=>?_) I.bare
 ·have e:b=it:=by simpa using f
  subst e;exact⟨h1,d,h2,h⟩
 ·obtain⟨o,es,ep,i,r⟩:=g;exact⟨o,es,ep,k _ o (Ne.symm d) i,r⟩
 ·refine(I.hok b u e).stay (λc v hc q=>k c v ?_ q) (λ_ q=>q) λ_ _ q=>q;rcases hc with z|z
  ·rw[z];exact a b u e
  ·exact a c _ z
theorem Inv.tok(I:Inv X ag σ H s)(t:Nat):Inv X ag σ H {s with toks:=t}:=I.un (h':=s.heap) (t':=t) Un.refl I.hok
theorem Inv.kept{t':Nat}(I:Inv X ag σ H s)(k:∀b u,s.heap.get? b=Z u->h'.get? b=Z u):Inv X ag σ H {s with heap:=h',toks:=t'}:=I.un (Un.kept k) (I.hok.kept k)
theorem Inv.laid{a:dE}{o:HO}{t':Nat}(I:Inv X ag σ H s)(k:∀ b u,s.heap.get? b=some u->h'.get? b=some u)(hp:s.heap.objs.size<=a)(new:eX X.prog X.w (upd H a o) h' a o):
  Inv X ag σ (upd H a o) {s with heap:=h',toks:=t'}:=I.un (Un.laid k hp (I.hok.fresh hp)) (I.hok.laid k hp new)
theorem Inv.write{x e:dE}{o:HO}{t':Nat}(I:Inv X ag σ H s)(mu:Mut (H x))(he:e=x\/H e=Z (.own x))(k:∀ b u,b≠e->s.heap.get? b=Z u->h'.get? b=Z u)(a:∃ u,h'.get? e=Z u)(new:eX X.prog X.w (upd H x o) h' x o):Inv X ag σ (upd H x o) {s with heap:=h',toks:=t'}:=I.un (Un.write mu he k a) (I.hok.write mu he k a new)
theorem Inv.pins_of{a:List (dE×Obj)}(I:Inv X ag σ H s)(h:∀p∈a,s.heap.get? p.1=Z p.2/\H p.1=Y/\p.1≠X.env.locals/\p.1∉X.fs /\ ∀v,p.2.data ≠ .cell v):Inv X a σ H s:=
 ⟨I.ok,I.os,I.bare,I.base,I.loc,I.cell,I.free,I.freeC,λp b=>(aG.mp b).elim (λz=>I.pin p (aH _ z)) (h p),I.hok,I.len⟩
theorem tG{N:List Str}(hN:N.Nodup){i j:Nat}{x:Str}(a:N[i]?=Z x)(b:N[j]?=Z x):i=j:=by
 obtain⟨h1,c⟩:=gE1.mp a;obtain⟨h2,d⟩:=gE1.mp b;exact(List.getElem_inj hN).mp (c.trans d.symm)
theorem xG{ao:Model}{A:dG}{E:dB->dD->Prop}{i:Nat}{x:Str}{v:V}{u:dB}{Q:Unit->dD->Prop}(I:Inv X ag σ H s)(hN:X.N.Nodup)(hi:X.N[i]? = Z x)(hx:vM X.env.scope x)(r:d8 v u)(h:∀s',Inv X ag (σ.set i (Z v)) H s'->(∃a,Heap.SameBut a s.heap s'.heap/\(a=X.env.locals\/X.env.cells.lookup x=Z a))->Q () s')(hf:autoParam (X.fn x=M\/X.env.scope.names.lookup x=Z .local) au0):dM ao A (storeName X.env x u) Q E s:=by
 obtain⟨m,S,hl⟩:=id I.loc;have L:(X.env.scope.kind == .class||(X.env.scope.kind == .module&&X.env.locals != X.env.globals))=J:=by rw[I.ok.kind];rfl
 have B:i<σ.length:=by rw[I.len];exact(gE1.mp hi).1
 have cne:=I.cne;have tracked:∀{a:dE} {h':dP},(∃o,s.heap.get? a=Z o/\H a=Y)->Heap.SameBut a s.heap h'->lF X.prog X.w H h':=λ{a h'} ha f b ob e=>by
  obtain⟨_,_,l⟩:=ha;refine(I.hok b ob e).stay (λc P hc q=>(f.2 c ?_).trans q) (λ_ q=>q) λ_ _ q=>q;rintro rfl;rcases hc with rfl|hc
  ·rw[l]at e;cases e
  ·rw[l]at hc;cases hc
 rcases hx with w|w
 ·refine wpAny_storeName_local w S (λh' T f=>?_) L;obtain⟨oL,_,_,hoL,_⟩:=id S;refine h _ ⟨I.ok,I.os,I.bare,⟨λb o e n D hx=>?_,λb o e n D hx=>?_,I.base.free,λb o e hx=>?_,I.base.tups,I.base.frzs,I.base.tbls⟩,⟨_,T,λj y W g t e3=>?_⟩,λy c e=>?_,I.free,I.freeC,λp hp=>?_,tracked ⟨oL,hoL,I.free⟩ f,by simpa using I.len⟩ ⟨_,f,.inl O⟩
  ·exact(f.2 b (nN1 (nL1 (hL1 e) I.ok.above))).trans (I.base.keep b o e n D hx)
  ·obtain⟨R,g⟩:=I.base.slot b o e n D hx;exact⟨R,(f.2 b (nN1 (nL1 (hL1 e) I.ok.above))).trans g⟩
  ·obtain⟨o',g⟩:=I.base.there b o e hx;exact⟨o',(f.2 b (nN1 (nL1 (hL1 e) I.ok.above))).trans g⟩
  ·by_cases C:j=i
   ·subst C;rw[hi]at g;cases g;rw[aI B]at t;cases t;exact⟨u,r,.inl ⟨w,by simp⟩⟩
   ·rw[gS1 (Ne.symm C)]at t;obtain⟨wq,aq,q⟩:=hl j y W g t e3;refine⟨wq,aq,?_⟩;rcases q with⟨k,e⟩|⟨k,c,e,z⟩
    ·refine .inl ⟨k,?_⟩;have:y≠x:=λe=>C (tG hN g (e ▸ hi));simp[this,e]
    ·exact .inr ⟨k,c,e,z.sameBut f (cne y c e)⟩
  ·obtain⟨P,z⟩:=I.cell y c e;exact⟨P,z.sameBut f (cne y c e)⟩
  ·obtain⟨e,n,ne,U,d⟩:=I.pin p hp;exact⟨(f.2 p.1 ne).trans e,n,ne,U,d⟩
 ·have F:X.fn x=true:=by
   rcases hf with z|z
   ·exact z
   ·rw[z]at w;cases w
  obtain⟨c,hc⟩:=I.ok.has x (.inl w);obtain⟨P,z⟩:=I.cell x c hc;refine wpAny_storeName_cell I.ok.kind w hc z (λh' K f=>?_);obtain⟨oc,N,G⟩:=id z;refine h {s with heap:=h'} ⟨I.ok,I.os,I.bare,⟨λb o e n D hx=>?_,λb o e n D hx=>?_,I.base.free,λb o e hx=>?_,I.base.tups,I.base.frzs,I.base.tbls⟩,⟨m,S.sameBut f (Ne.symm (cne x c hc)),λj y W g t e3=>?_⟩,λy au e=>?_,I.free,I.freeC,λp hp=>?_,tracked ⟨oc,N,I.freeC x c hc⟩ f,by simpa using I.len⟩ ⟨c,f,.inr hc⟩
  ·exact(f.2 b (nN1 (nL1 (hL1 e) (I.ok.cab x c F hc)))).trans (I.base.keep b o e n D hx)
  ·obtain⟨R,g⟩:=I.base.slot b o e n D hx;exact⟨R,(f.2 b (nN1 (nL1 (hL1 e) (I.ok.cab x c F hc)))).trans g⟩
  ·obtain⟨o',g⟩:=I.base.there b o e hx;exact⟨o',(f.2 b (nN1 (nL1 (hL1 e) (I.ok.cab x c F hc)))).trans g⟩
  ·by_cases C:j=i
   ·subst C;rw[hi]at g;cases g;rw[aI B]at t;cases t;exact⟨u,r,.inr ⟨.inl w,c,hc,K⟩⟩
   ·rw[gS1 (Ne.symm C)]at t;obtain⟨wq,aq,q⟩:=hl j y W g t e3;refine⟨wq,aq,?_⟩;rcases q with q|⟨k,au,e,z'⟩
    ·exact .inl q
    ·refine .inr ⟨k,au,e,z'.sameBut f ?_⟩;rintro rfl;exact C (tG hN g (I.ok.inj _ _ _ e hc ▸ hi))
  ·by_cases am:au=c
   ·subst am;exact⟨_,K⟩
   ·obtain⟨w2,z2⟩:=I.cell y au e;exact⟨w2,z2.sameBut f am⟩
  ·obtain⟨e,n,ne,U,d⟩:=I.pin p hp;refine⟨(f.2 p.1 ?_).trans e,n,ne,U,d⟩;intro q;rw[q,N]at e;have q':oc=p.2:=Option.some.inj e;exact d P (by rw[<- q'];exact G)
theorem jf{ao:Model}{A:dG}{E:dB->dD->Prop}{i:Nat}{x:Str}{v:V}{u:dB}{Q:Unit->dD->Prop}(I:Inv X ag σ H s)(hN:X.N.Nodup)(hi:X.N[i]? = Z x)(hx:vM X.env.scope x)(r:d8 v u)(h:∀s',Inv X ag (σ.set i (Z v)) H s'->Q () s')(hf:autoParam (X.fn x=M\/X.env.scope.names.lookup x=Z .local) au0):dM ao A (storeName X.env x u) Q E s:=
 xG I hN hi hx r (λs' a _=>h s' a) hf
theorem Inv.call'{s':dD}{ch:List dE}(I:Inv X ag σ H s)(ho:s'.os=s.os)(u:Un (frs X.stack) ch H H' s.heap s'.heap)(a:lF X.prog X.w H' s'.heap)(hg:AllBare s'.gens)(d:∀b∈ch,(b∈X.ex\/X.s₀.heap.objs.size<=b)/\b≠X.env.locals/\(∀x c,X.env.cells.lookup x=Z c->c≠b) /\ ∀p∈X.pn++ag,p.1≠b):Inv X ag σ H' s':=by
 obtain⟨h',g,h,f,o'⟩:=s';have e:o'=s.os:=ho;subst e;exact I.call (g':=g) (t':=f) (d':=h) u a hg d
end
abbrev XK:=dB->Option dE->Hp->Prop
abbrev St:=List (Option V)
abbrev VK:=V->Hp->Prop
abbrev TE:=St->Hp->VK->Prop
abbrev TT:=St->Hp->(Bool->Hp->Prop)->Prop
abbrev TA:=St->Hp->(List V->Hp->Prop)->Prop
structure jH where
 nx:St->Hp->Prop
 rt:VK
 bk:St->Hp->Prop:=λ_ _=>False
 ct:St->Hp->Prop:=λ_ _=>False
abbrev TS:=jH->St->Hp->Prop
def EP(X:Cx)(ag:List (dE×Obj))(σ:St)(Q:VK)(u:dB)(s':dD):Prop:=∃v H',Inv X ag σ H' s'/\d8 v u/\Q v H'
def TP(X:Cx)(ag:List (dE×Obj))(σ:St)(Q:Bool->Hp->Prop)(b:Bool)(s':dD):Prop:=∃H',Inv X ag σ H' s'/\Q b H'
def AP(X:Cx)(ag:List (dE×Obj))(σ:St)(Q:List V->Hp->Prop)(us:List dB)(s':dD):Prop:=∃vs H',Inv X ag σ H' s'/\eE vs us/\Q vs H'
def SP(X:Cx)(ag:List (dE×Obj))(D:jH)(f:Flow)(s':dD):Prop:=
 match f with
 | .next=>∃ σ' H',Inv X ag σ' H' s'/\D.nx σ' H'
 | .brk=>∃ σ' H',Inv X ag σ' H' s'/\D.bk σ' H'
 | .cont=>∃ σ' H',Inv X ag σ' H' s'/\D.ct σ' H'
 | .ret u=>∃v σ' H',Inv X ag σ' H' s'/\d8 v u/\D.rt v H'
def PE(X:Cx)(e:Expr)(t:TE):Prop:=
 ∀(ag:List (dE×Obj)) (s:dD) (σ:St) (H:Hp) (Q:VK),Inv X ag σ H s->t σ H Q->dM (model X.prog X.w) X.A (eval e X.env) (EP X ag σ Q) X.xe s
def PT(X:Cx)(e:Expr)(t:TT):Prop:=
 ∀(ag:List (dE×Obj)) (s:dD) (σ:St) (H:Hp) (Q:Bool->Hp->Prop),Inv X ag σ H s->t σ H Q->dM (model X.prog X.w) X.A (isTrue e X.env (eval e X.env)) (TP X ag σ Q) X.xe s
def PW(X:Cx)(e:Expr)(t:TT):Prop:=
 ∀(whole:Sem dB) (ag:List (dE×Obj)) (s:dD) (σ:St) (H:Hp) (Q:Bool->Hp->Prop),Inv X ag σ H s->t σ H Q->dM (model X.prog X.w) X.A (isTrue e X.env whole) (TP X ag σ Q) X.xe s
theorem PW.pt{X:Cx}{e:Expr}{t:TT}(h:PW X e t):PT X e t:=h _
def PA(X:Cx)(es:List Expr)(t:TA):Prop:=
 ∀(pos:Pos) (ag:List (dE×Obj)) (s:dD) (σ:St) (H:Hp) (Q:List V->Hp->Prop),Inv X ag σ H s->t σ H Q->dM (model X.prog X.w) X.A (spliced (backTo pos (dJ es X.env))) (AP X ag σ Q) X.xe s
def PS(X:Cx)(st:dR)(t:TS):Prop:=
 ∀(ag:List (dE×Obj)) (s:dD) (σ:St) (H:Hp) (D:jH),Inv X ag σ H s->t D σ H->dM (model X.prog X.w) X.A (exec st X.env) (SP X ag D) X.xe s
def uL(X:Cx)(st:List dR)(t:TS):Prop:=
 ∀(ag:List (dE×Obj)) (s:dD) (σ:St) (H:Hp) (D:jH),Inv X ag σ H s->t D σ H->dM (model X.prog X.w) X.A (execs st X.env) (SP X ag D) X.xe s
theorem fD{α:Type}{t:Sem α}{Q b:α->dD->Prop}{ao:Model}{A:dG}{E:dB->dD->Prop}{s:dD}(h:dM ao A t Q E s)(c:∀a s,Q a s->b a s):dM ao A t b E s:=wpAny_mono h c λ_ _ x=>x
section
theorem Lw{a b:Expr}{ta tb:TE}(ha:PE X a ta)(hb:PE X b tb){ag:List (dE×Obj)}{s:dD}{σ:St}{H:Hp}{R:V->V->Hp->Prop}(I:Inv X ag σ H s)(h:ta σ H fun x H1=>tb σ H1 fun y H2=>R x y H2){α:Type}{Q:α->dD->Prop}{f:dB->dB->Sem α}(hf:∀v u e x y H2,Inv X ag σ H2 e->d8 x v->d8 y u->R x y H2->dM (model X.prog X.w) X.A (f v u) Q X.xe e):
  dM (model X.prog X.w) X.A (eval a X.env) (λv c=>dM (model X.prog X.w) X.A (eval b X.env) (λu d=>dM (model X.prog X.w) X.A (f v u) Q X.xe d) X.xe c) X.xe s:=by
 refine fD (ha ag s σ H _ I h) λv k ⟨x,H1,m,j,g⟩=>?_;refine fD (hb ag k σ H1 _ m g) λu e ⟨y,H2,l,r2,i⟩=>?_;exact hf v u e x y H2 l j r2 i
noncomputable def GX(i:Nat):TE:=fun σ H Q=>∃v,σ[i]?=Z (Z v)/\Q v H
noncomputable def tC(v:V):TE:=λ_ H Q=>Q v H
theorem zX {i:Nat}{x:Str}{pos:Pos}(hN:X.N[i]?=Z x)(hv:Vis X.env.scope x)(hd:autoParam ((x == ("__debug__":Str))=J) bu0)(hcd:autoParam ((x == ("__classdict__":Str))=J) bu0):PE X (.Name x pos) (GX i):=by
 intro ag s σ H Q I h;obtain⟨v,e,h⟩:=h;obtain⟨m,f,j⟩:=I.loc;obtain⟨u,r,l⟩:=j i x v hN e hv;have b:EP X ag σ Q u s:=⟨v,H,I,r,h⟩;rcases l with⟨d,g⟩|⟨d,c,hc,a⟩
 ·exact wpAny_Name (wpAny_loadName_local I.ok.kind d f g b) hd
 ·rcases d with d|d
  ·exact wpAny_Name (wpAny_loadName_cell I.ok.kind d hc a b) hd
  ·exact wpAny_Name (wpAny_loadName_free I.ok.kind d hc a b hcd) hd
theorem E8{i j pos}:PE X (.Constant (.int i) j pos) (tC (.int i)):=λ_ _ _ H _ I h=>wpAny_Constant_int ⟨.int i,H,I.tok _,⟨_,O⟩,h⟩
theorem Hs{b j pos}:PE X (.Constant (.bool b) j pos) (tC (.bl b)):=λ_ _ _ H _ I h=>Constant_bool ⟨.bl b,H,I,O,h⟩
theorem E6{j pos}:PE X (.Constant .none j pos) (tC .non):=λ_ _ _ H _ I h=>Constant_none ⟨.non,H,I,O,h⟩
theorem E5{x j pos}:PE X (.Constant (.str x) j pos) (tC (.str x)):=λ_ _ _ H _ I h=>Calls.Constant_str ⟨.str x,H,I.tok _,⟨_,O⟩,h⟩
def Gl(X:Cx)(x:Str):Prop:=X.env.kindOf x=Z .globalImplicit
theorem wH {E:dB->dD->Prop}{ag:List (dE×Obj)}{s:dD}{σ:St}{H:Hp}{x:Str}{u:dB}{pos:Pos}{Q:dB->dD->Prop}(I:Inv X ag σ H s)(hg:Gl X x)(hm:X.mg x=some u)(h:Q u s)
  (hd:autoParam ((x == ("__debug__":Str))=J) bu0):dM (model X.prog X.w) X.A (eval (.Name x pos) X.env) Q E s:=
 Calls.Name_function_global I.ok.kind hg (Calls.loadGlobal_global (by rw[I.ok.glob];exact I.mod.glob.keeps I.bk) hm h) hd
theorem kh {E:dB->dD->Prop}{ag:List (dE×Obj)}{s:dD}{σ:St}{H:Hp}{x:Str}{u:dB}{pos:Pos}{Q:dB->dD->Prop}(I:Inv X ag σ H s)(hg:Gl X x)(hm:X.mg x=none)(hv:bootBuiltins x=some u)(h:Q u s)
  (hn:autoParam (x≠"__name__") bu0) (hd:autoParam ((x == ("__debug__":Str))=J) bu0):dM (model X.prog X.w) X.A (eval (.Name x pos) X.env) Q E s:=by
 obtain⟨a,h1,h2⟩:=I.mod.blt;exact Calls.Name_function_global I.ok.kind hg (Calls.loadGlobal_builtin (by rw[I.ok.glob];exact I.mod.glob.keeps I.bk) hm (by rw[I.ok.blt];exact h1.keeps I.bk) ((h2 x hn).trans hv) h) hd
theorem Cn {x:Str}{v:V}{u:dB}{pos:Pos}(hg:Gl X x)(hm:X.mg x=Z u)(r:d8 v u)(hd:autoParam ((x == ("__debug__":Str))=J) bu0):PE X (.Name x pos) (tC v):=
 λ_ _ _ H _ I h=>wH I hg hm ⟨v,H,I,r,h⟩ hd
variable{a b:Expr}{ta tb:TE}{pos:Pos}
noncomputable def tB(t:TE):TT:=fun σ H Q=>t σ H λx H1=>∃c,x = .bl c/\Q c H1
variable{tA tB':TT}{rest:List Expr}
noncomputable def Ju(t u:TT):TT:=fun σ H Q=>t σ H λc H1=>if c=M then u σ H1 Q else Q J H1
noncomputable def KI(t u:TT):TT:=fun σ H Q=>t σ H λc H1=>if c=M then Q M H1 else u σ H1 Q
noncomputable def Jl(t:TT):TT:=fun σ H Q=>t σ H λc H1=>Q (!c) H1
theorem B7(ha:PT X a tA):PW X (.BoolOp .And [a] pos) tA:=by
 intro b ag s σ H Q I h;refine isTrue_and (fD (ha ag s σ H Q I h) λc d e=>?_);cases c with
 |true=>exact isTrue_and_nil e
 |false=>exact e
theorem EL(ha:PT X a tA):PW X (.BoolOp .Or [a] pos) tA:=by
 intro b ag s σ H Q I h;refine isTrue_or (fD (ha ag s σ H Q I h) λc d e=>?_);cases c with
 |false=>exact isTrue_or_nil e
 |true=>exact e
theorem EM(ha:PT X a tA)(hb:PW X (.BoolOp .And (b::rest) pos) tB'):PW X (.BoolOp .And (a::b::rest) pos) (Ju tA tB'):=by
 intro f ag s σ H Q I h;refine isTrue_and (fD (ha ag s σ H _ I h) λc g ⟨H1,e,d⟩=>?_);cases c with
 |true=>exact hb f ag g σ H1 Q e d
 |false=>exact⟨H1,e,d⟩
theorem Hl(ha:PT X a tA)(hb:PW X (.BoolOp .Or (b::rest) pos) tB'):PW X (.BoolOp .Or (a::b::rest) pos) (KI tA tB'):=by
 intro f ag s σ H Q I h;refine isTrue_or (fD (ha ag s σ H _ I h) λc g ⟨H1,e,d⟩=>?_);cases c with
 |true=>exact⟨H1,e,d⟩
 |false=>exact hb f ag g σ H1 Q e d
theorem EN(ha:PT X a tA):PT X (.UnaryOp .Not a pos) (Jl tA):=by
 intro ag s σ H Q I h;exact isTrue_not (ha ag s σ H (λc H1=>Q (!c) H1) I h)
noncomputable def KL(t:TT)(ta tb:TE):TE:=fun σ H Q=>t σ H λc H1=>if c=M then ta σ H1 Q else tb σ H1 Q
theorem zZ{c:Expr}(hc:PT X c tA)(ha:PE X a ta)(hb:PE X b tb):PE X (.IfExp c a b pos) (KL tA ta tb):=by
 intro ag s σ H Q I h;refine wpAny_IfExp (fD (hc ag s σ H _ I h) λd f ⟨H1,g,e⟩=>?_);cases d with
 |true=>exact ha ag f σ H1 Q g e
 |false=>exact hb ag f σ H1 Q g e
end
def mU(K:Fg1)(H:Hp)(a:dE)(xs:List V):Prop:=
 Rd H a (.lst xs) \/
  ∃(o:Obj) (its:Array dB) (n:Nat),K.lookup a=Z o/\o.cls = .type "list"/\o.dict=Y/\o.data = .seq its n/\its.size<=dL/\eE xs its.toList
def kr(K:Fg1)(H:Hp)(a:dE)(xs:List V):Prop:=
 Rd H a (.tup xs) \/
  ∃(o:Obj) (its:Array dB) (n:Nat),K.lookup a=Z o/\o.cls = .type "tuple"/\o.data = .seq its n/\its.size<=dL/\eE xs its.toList
noncomputable def J9:dB->Option V
 | .none=>Z .non
 | .bool b=>Z (.bl b)
 | .int i _=>Z (.int i)
 | .str x _=>Z (.str x)
 | .bytes b _=>Z (.byt b)
 | .float b _=>Z (.flt b)
 | .ref a=>Z (.ref a)
 | .type n=>Z (.ty n)
 |_=>Y
theorem d8.abs{x:V}{u:dB}(r:d8 x u):J9 u=Z x:=by
 cases x with
 |non=>cases r;rfl
 |bl _=>cases r;rfl
 |int _=>obtain⟨t,rfl⟩:=r;rfl
 |str _=>obtain⟨t,rfl⟩:=r;rfl
 |byt _=>obtain⟨t,rfl⟩:=r;rfl
 |flt _=>obtain⟨t,rfl⟩:=r;rfl
 |ref _=>cases r;rfl
 |ty _=>cases r;rfl
theorem d8.inj{x y:V}{u:dB}(r:d8 x u)(q:d8 y u):x=y:=Option.some.inj (r.abs.symm.trans q.abs)
theorem eE.inj:∀{xs ys:List V} {a:List dB},eE xs a->eE ys a->xs=ys:=by
 intro xs ys a h g
 induction h generalizing ys with
 |nil=>cases g;rfl
 |cons r t ih=>cases g with
  |cons c b=>rw[r.inj c,ih b]
section
variable{ag:List (dE×Obj)}{σ:St}{H:Hp}{s:dD}{a:dE}{xs ys:List V}
theorem mU.of{K:Fg1}(h:H a=Z (.lst xs)):mU K H a xs:=.inl (.inl h)
theorem kr.of{K:Fg1}(h:H a=Z (.tup xs)):kr K H a xs:=.inl (.inl h)
theorem Inv.list(I:Inv X ag σ H s)(h:mU X.K H a xs):∃b:List dB,eE xs b/\PlainL s.heap a b.toArray/\xs.length<=dL:=by
 rcases h with h|⟨o,b,n,d,hc,f,c,g,r⟩
 ·obtain⟨z,b,n,r,e⟩:=h.ok I.hok;exact⟨b,r,⟨_,n,e,O,O,O⟩,z⟩
 ·refine⟨b.toList,r,⟨o,n,I.kIn a o d,hc,f,by simpa using c⟩,?_⟩;have e:=r.length;simp only[aJ]at e;lia
theorem Inv.tuple(I:Inv X ag σ H s)(h:kr X.K H a xs):∃b:List dB,eE xs b/\IsTup s.heap a b.toArray/\xs.length<=dL:=by
 rcases h with h|⟨o,b,n,d,hc,c,f,r⟩
 ·obtain⟨z,b,r,p⟩:=h.ok I.hok;exact⟨b,r,p,z⟩
 ·refine⟨b.toList,r,⟨o,I.kIn a o d,hc,n,by simpa using c⟩,?_⟩;have e:=r.length;simp only[aJ]at e;lia
theorem Inv.list_inj(I:Inv X ag σ H s)(h:mU X.K H a xs)(h':mU X.K H a ys):xs=ys:=by
 obtain⟨b,r,⟨o,n,e,_,_,d⟩,_⟩:=I.list h;obtain⟨its',i,⟨o',j,c,_,_,f⟩,_⟩:=I.list h';rw[e]at c;cases c;rw[d]at f;injection f with g _;have:b=its':=by simpa using congrArg Array.toList g
 subst this;exact r.inj i
theorem Inv.tuple_inj(I:Inv X ag σ H s)(h:kr X.K H a xs)(h':kr X.K H a ys):xs=ys:=by
 obtain⟨b,r,⟨o,e,_,n,d⟩,_⟩:=I.tuple h;obtain⟨its',i,⟨o',c,_,j,f⟩,_⟩:=I.tuple h';rw[e]at c;cases c;rw[d]at f;injection f with g _;have:b=its':=by simpa using congrArg Array.toList g
 subst this;exact r.inj i
end
abbrev Cx.wish(X:Cx)(E:dB->dD->Prop):Cx:={X with xe:=E}
abbrev Cx.nox(X:Cx):Cx:=X.wish λ_ _=>False
theorem Cx.Ok.wish{X:Cx}(ok:X.Ok)(E:dB->dD->Prop):(X.wish E).Ok:=
 ⟨ok.mod,ok.kind,ok.glob,ok.blt,ok.above,ok.inj,ok.has,ok.cab,ok.hd,ok.frames,ok.stk,ok.exf,ok.bs,ok.bsz,ok.noex,ok.exfs,ok.funs,ok.frf⟩
theorem Cx.Ok.unwish{X:Cx}{E:dB->dD->Prop}(ok:(X.wish E).Ok):X.Ok:=
 ⟨ok.mod,ok.kind,ok.glob,ok.blt,ok.above,ok.inj,ok.has,ok.cab,ok.hd,ok.frames,ok.stk,ok.exf,ok.bs,ok.bsz,ok.noex,ok.exfs,ok.funs,ok.frf⟩
section
variable{ag:List (dE×Obj)}{σ:St}{H:Hp}{s:dD}{E:dB->dD->Prop}
theorem Inv.wish(I:Inv X ag σ H s)(E:dB->dD->Prop):Inv (X.wish E) ag σ H s:=⟨I.ok.wish E,I.os,I.bare,I.base,I.loc,I.cell,I.free,I.freeC,I.pin,I.hok,I.len⟩
theorem Inv.unwish(I:Inv (X.wish E) ag σ H s):Inv X ag σ H s:=⟨I.ok.unwish,I.os,I.bare,I.base,I.loc,I.cell,I.free,I.freeC,I.pin,I.hok,I.len⟩
theorem SP.unwish{D:jH}{f:Flow}{s':dD}(h:SP (X.wish E) ag D f s'):SP X ag D f s':=by
 cases f with
 |next=>obtain⟨a,H',I,q⟩:=h;exact⟨a,H',I.unwish,q⟩
 |brk=>obtain⟨a,H',I,q⟩:=h;exact⟨a,H',I.unwish,q⟩
 |cont=>obtain⟨a,H',I,q⟩:=h;exact⟨a,H',I.unwish,q⟩
 |ret u=>obtain⟨v,a,H',I,r,q⟩:=h;exact⟨v,a,H',I.unwish,r,q⟩
theorem uL.nox{st:List dR}{t:TS}(h:uL X.nox st t):uL X st t:=λag s σ H D I a=>
 wpAny_mono (h ag s σ H D (I.wish _) a) (λ_ _ q=>q.unwish) λ_ _ z=>False.elim z
end
section
variable{st:dR}{rest:List dR}{t u:TS}{e:Expr}{te:TE}{pos:Pos}
noncomputable def G5:TS:=λD σ H=>D.nx σ H
noncomputable def Ji(t u:TS):TS:=λD σ H=>t {D with nx:=u D} σ H
theorem Cb:uL X [] G5:=λ_ _ σ H _ I h=>wpAny_execs_nil ⟨σ,H,I,h⟩
theorem zN(h1:PS X st t)(h2:uL X rest u):uL X (st::rest) (Ji t u):=by
 intro ag s σ H D I h;refine wpAny_execs_cons (fD (h1 ag s σ H {D with nx:=u D} I h) λf b q=>?_);cases f with
 |next=>
  obtain⟨a,H',c,q⟩:=q;exact h2 ag b a H' D c q
 |ret v=>exact q
 |brk=>exact q
 |cont=>exact q
theorem Ca(h1:PS X st t):uL X [st] t:=by
 intro ag s σ H D I h;refine wpAny_execs_cons (fD (h1 ag s σ H D I h) λf a q=>?_);cases f with
 |next=>exact wpAny_execs_nil q
 |ret v=>exact q
 |brk=>exact q
 |cont=>exact q
theorem Inv.quiet{ag:List (dE×Obj)}{σ:St}{H:Hp}{s:dD}(I:Inv X ag σ H s):interactive X.env=J:=by simp[interactive,I.ok.kind]
noncomputable def G8(te:TE):TS:=λD σ H=>te σ H λ_ H1=>D.nx σ H1
theorem Cc(he:PE X e te)(hs:autoParam (swapsWith e Y pos.line X.env=pure J) au0):PS X (.Expr e pos) (G8 te):=by
 intro ag s σ H D I h;exact wpAny_Expr_any (fD (he ag s σ H _ I h) λv d ⟨x,H1,b,c,a⟩=>⟨σ,H1,b,a⟩) I.quiet hs
noncomputable def Jj(te:TE):TS:=λD σ H=>te σ H D.rt
theorem ER(he:PE X e te):PS X (.Return (Z e) pos) (Jj te):=by
 intro ag s σ H D I h;exact wpAny_Return_some (fD (he ag s σ H _ I h) λv d ⟨x,H1,c,b,a⟩=>⟨x,σ,H1,c,b,a⟩)
noncomputable def Jr(c:TT)(t u:TS):TS:=λD σ H=>c σ H λb H1=>if b=M then t D σ H1 else u D σ H1
theorem Hm{c:Expr}{a b:List dR}{tc:TT}(hc:PT X c tc)(ha:uL X a t)(hb:uL X b u):PS X (.If c a b pos) (Jr tc t u):=by
 intro ag s σ H D I h;refine wpAny_If (fD (hc ag s σ H _ I h) λd f ⟨H1,g,e⟩=>?_);cases d with
 |true=>exact ha ag f σ H1 D g e
 |false=>exact hb ag f σ H1 D g e
end
abbrev TG:=V->St->Hp->(St->Hp->Prop)->Prop
abbrev D5:=List V->St->Hp->(St->Hp->Prop)->Prop
def PG(X:Cx)(target:Expr)(t:TG):Prop:=
 ∀(ag:List (dE×Obj)) (s:dD) (σ:St) (H:Hp) (v:V) (u:dB) (Q:St->Hp->Prop),Inv X ag σ H s->d8 v u->t v σ H Q ->
  dM (model X.prog X.w) X.A (assign target X.env u) (λ_ s'=>∃ σ' H',Inv X ag σ' H' s'/\Q σ' H') X.xe s
def GK(X:Cx)(ts:List Expr)(t:D5):Prop:=
 ∀(ag:List (dE×Obj)) (s:dD) (σ:St) (H:Hp) (vs:List V) (us:List dB) (Q:St->Hp->Prop),Inv X ag σ H s->eE vs us->t vs σ H Q ->
  dM (model X.prog X.w) X.A (assignInOrder ((assignEach ts X.env).map (·.2)) us) (λ_ s'=>∃ σ' H',Inv X ag σ' H' s'/\Q σ' H') X.xe s
abbrev GI:=V->V->V->Hp->(Hp->Prop)->Prop
def vL(X:Cx)(t:GI):Prop:=
 ∀(ag:List (dE×Obj)) (s:dD) (σ:St) (H:Hp) (o i v:V) (ov iv u:dB) (Q:Hp->Prop),Inv X ag σ H s->d8 o ov->d8 i iv->d8 v u->t o i v H Q ->
  dM (model X.prog X.w) X.A (setItem ov iv u) (λ_ s'=>∃H',Inv X ag σ H' s'/\Q H') X.xe s
abbrev Kd:=V->V->Hp->VK->Prop
def Je(X:Cx)(op:Operator)(t:Kd):Prop:=
 ∀(ag:List (dE×Obj)) (s:dD) (σ:St) (H:Hp) (x y:V) (v u:dB) (Q:VK),Inv X ag σ H s->d8 x v->d8 y u->t x y H Q ->
  dM (model X.prog X.w) X.A (inplaceOp op v u) (EP X ag σ Q) X.xe s
section
variable{pos:Pos}
noncomputable def wU(i:Nat):TG:=λv σ H Q=>Q (σ.set i (Z v)) H
theorem wl{i:Nat}{x:Str}(hN:X.N.Nodup)(hi:X.N[i]?=Z x)(hx:vM X.env.scope x)(hf:autoParam (X.fn x=M\/X.env.scope.names.lookup x=Z .local) au0):PG X (.Name x pos) (wU i):=by
 intro ag s σ H v u Q I r h;exact wpAny_assign_Name (jf I hN hi hx r (λs' a=>⟨_,H,a,h⟩) hf)
noncomputable def JW:D5:=λvs σ H Q=>vs=[]/\Q σ H
noncomputable def Ib(t:TG)(u:D5):D5:=λvs σ H Q=>∃v r,vs=v::r/\t v σ H fun σ' H'=>u r σ' H' Q
theorem Cm:GK X [] JW:=by
 intro ag s σ H vs a Q I r h;obtain⟨e,h⟩:=h;subst e;cases r;exact assignInOrder_nil ⟨σ,H,I,h⟩
theorem zW{e:Expr}{es:List Expr}{t:TG}{u:D5}(h1:PG X e t)(h2:GK X es u)(hs:autoParam ((assignEach (e::es) X.env).map (·.2)=assign e X.env::(assignEach es X.env).map (·.2)) au0):GK X (e::es) (Ib t u):=by
 intro ag s σ H vs j Q I r h;obtain⟨v,i,g,h⟩:=h;subst g;cases r with
 |cons r c=>
  rw[hs];refine assignInOrder_cons (fD (h1 ag s σ H _ _ _ I r h) λ_ d ⟨a,H1,f,b⟩=>?_);exact h2 ag d a H1 _ _ Q f c b
noncomputable def gTup(K:Fg1)(n:Nat)(t:D5):TG:=λv σ H Q=>∃a xs,v = .ref a/\kr K H a xs/\xs.length=n/\t xs σ H Q
theorem E1{es:List Expr}{k:Nat}{t:D5}{n:Nat}(hc:X.calm=M)(h:GK X es t)(hn:autoParam ((assignEach es X.env).length=n) au0)(hst:autoParam ((assignEach es X.env).findIdx? (·.1)=Y) au0):PG X (.Tuple es k pos) (gTup X.K n t):=by
 intro ag s σ H v u Q I r c;obtain⟨a,xs,p,m,i,c⟩:=c;subst p;cases r;obtain⟨j,d,f,q⟩:=I.tuple m;refine assign_Tuple_tuple (I.ok.hd hc) f (by simp[hn,<- i,d.length]) hst λh' g=>?_;have l:Inv X ag σ H {s with heap:=h'}:=I.kept (t':=s.toks) λb o e=>g b o (nN1 (hL1 e)) e;exact h ag _ σ H xs _ Q l (by simpa using d) c
noncomputable def gSub(to ti:TE)(t:GI):TG:=λv σ H Q=>to σ H λo H1=>ti σ H1 λi H2=>t o i v H2 λH3=>Q σ H3
theorem E2{o i:Expr}{to ti:TE}{t:GI}(ho:PE X o to)(hi:PE X i ti)(hs:vL X t)(ha:autoParam (∀v,assign (.Subscript o i pos) X.env v=(do
   let a<-holding [v] (eval o X.env)
   let b<-holding [v,a] (eval i X.env)
   standAt pos
   holding [v,a,b] (setItem a b v)
   release [v,a,b] [])) du0):PG X (.Subscript o i pos) (gSub to ti t):=by
 intro ag s σ H v u Q I r h;rw[ha];refine wB1 (wpAny_holding (fD (ho ag s σ H _ I h) λa k ⟨x,H1,m,e,c⟩=>?_));refine wB1 (wpAny_holding (fD (hi ag k σ H1 _ m c) λb f ⟨y,H2,l,r2,d⟩=>?_));refine wB1 (wpAny_standAt (wB1 (wpAny_holding (fD (hs ag f σ H2 x y v a b u _ l e r2 r d) λ_ p ⟨g,j,n⟩=>?_))));exact wpAny_release ⟨σ,g,j,n⟩
noncomputable def zm(te:TE)(g:TG):TS:=λD σ H=>te σ H λx H1=>g x σ H1 D.nx
theorem EV{tg e:Expr}{te:TE}{g:TG}(he:PE X e te)(hg:PG X tg g)(hs:autoParam (swapsWithSole [tg] e pos.line X.env=pure J) au0)(hw:autoParam (swappedStores [tg] e X.env=pure Y) au0)(h1:autoParam ((assignEach [tg] X.env).map (·.2)=[assign tg X.env]) au0):PS X (.Assign [tg] e pos) (zm te g):=by
 intro ag s σ H D I h;refine wpAny_Assign_stores (fD (he ag s σ H _ I h) λv c ⟨x,H1,d,b,a⟩=>?_) hs hw;rw[h1];exact fD (hg ag c σ H1 x v _ d b a) λ_ f q=>q
theorem EQ{i:Nat}{x:Str}{e:Expr}{te:TE}{pos':Pos}(hN:X.N.Nodup)(hi:X.N[i]? = some x)(hx:vM X.env.scope x)(he:PE X e te)(hs:autoParam (swapsWith e (some (.Name x pos')) pos.line X.env=pure false) au0)(hf:autoParam (X.fn x=true\/X.env.scope.names.lookup x=some .local) au0):
  PS X (.Assign [.Name x pos'] e pos) (zm te (wU i)):=by
 intro ag s σ H D I h;refine wpAny_Assign_Name (fD (he ag s σ H _ I h) λv g ⟨y,H1,c,b,a⟩=>?_) hs;exact jf c hN hi hx b (λf d=>⟨_,H1,d,a⟩) hf
noncomputable def Jk(i j:Nat)(ta:TA):TS:=λD σ H=>ta σ H λvs H1=>∃v w,vs=[v,w]/\D.nx ((σ.set i (Z v)).set j (Z w)) H1
theorem ES{i j:Nat}{x y:Str}{a b:Expr}{ta:TA}{f l pt:Pos}{kt k2 pt2}(hc:X.calm=true)(hN:X.N.Nodup)(hi:X.N[i]? = some x)(u:X.N[j]? = some y)(m:i≠j)(hx:X.env.scope.names.lookup x=some .local)(hy:X.env.scope.names.lookup y=some .local)(ha:PA X [a,b] ta)(hw:swappedStores [.Tuple [.Name x f,.Name y l] kt pt] (.Tuple [a,b] k2 pt2) X.env=pure (some [x,y]))(hs:autoParam (swapsWithSole [.Tuple [.Name x f,.Name y l] kt pt] (.Tuple [a,b] k2 pt2) pos.line X.env=pure false) au0):
  PS X (.Assign [.Tuple [.Name x f,.Name y l] kt pt] (.Tuple [a,b] k2 pt2) pos) (Jk i j ta):=by
 intro ag s σ H D I h;rw[exec_Assign_arm];refine wB1 (wpAny_standAt ?_);rw[hs];refine wB1 (wP1 ?_);rw[aj (by decide)];refine wB1 (Tuple_ (fD (ha _ ag s σ H _ I h) λK c ⟨vs,H1,am,t,g⟩=>?_));obtain⟨v,w,G,g⟩:=g;subst G;obtain⟨d,u2,rfl,z,n⟩:∃d u2,K=[d,u2]/\d8 v d/\d8 w u2:=by
  cases t with
  |cons p q=>
   cases q with
   |cons E A=>
    cases A;exact⟨_,_,O,p,E⟩
 refine wO1 ?_ (by show 2<=dL;decide);have B:Inv X ag σ H1 {c with heap:=c.heap.push {cls:=.type "tuple",data:=.seq [d,u2].toArray}}:=am.kept (t':=c.toks) λb o e=>hP1 _ e;rw[hw];refine wB1 (wP1 ?_);show dM (model X.prog X.w) X.A (do rule "assign.swapped-stores";let items<-unpackItems (.ref c.heap.objs.size) 2 Y;assignInOrder [λv=>bindName X.env y v,λv=>bindName X.env x v] items.reverse;pure Flow.next) _ _ _;refine wB1 (wpAny_rule (wB1 (unpackItems_tuple (items:= #[d,u2]) (I.ok.hd hc) (IsTup.new c.heap _) λh' k=>?_)));have C:=B.kept (h':=h') (t':=c.toks) λb o e=>k b o (nN1 (hL1 e)) e;show dM _ _ (assignInOrder [λv=>bindName X.env y v,λv=>bindName X.env x v] [u2,d] >>= λ_=>pure Flow.next) _ _ _;refine wB1 (assignInOrder_cons (wpAny_bindName (jf C hN u (.inl hy) n (λL F=>?_) (.inr hy))));refine assignInOrder_cons (wpAny_bindName (jf F hN hi (.inl hx) z (λao r=>assignInOrder_nil (wP1 ?_)) (.inr hx)));rw[List.set_comm _ _ (Ne.symm m)]at r;exact⟨_,H1,r,g⟩
noncomputable def Jt(i:Nat)(te:TE)(ti:Kd):TS:=λD σ H=>∃x,σ[i]?=Z (Z x)/\te σ H λy H1=>ti x y H1 λz H2=>D.nx (σ.set i (Z z)) H2
theorem EU{i:Nat}{x:Str}{e:Expr}{te:TE}{op:Operator}{ti:Kd}{pos':Pos}(hN:X.N.Nodup)(hi:X.N[i]? = some x)(hx:vM X.env.scope x)(he:PE X e te)(ho:Je X op ti)(hf:autoParam (X.fn x=true\/X.env.scope.names.lookup x=some .local) au0):
  PS X (.AugAssign (.Name x pos') op e pos) (Jt i te ti):=by
 intro ag s σ H D I h;obtain⟨v,E,h⟩:=h;obtain⟨m,p,F⟩:=I.loc;have g:Vis X.env.scope x:=by rcases hx with k|k;exact .inl k;exact .inr (.inl k)
 obtain⟨u,r,l⟩:=F i x v hi E g;refine wpAny_AugAssign_Name ?_;have j:dM (model X.prog X.w) X.A (eval e X.env) (λw f=>dM (model X.prog X.w) X.A (inplaceOp op u w) (λr d=>dM (model X.prog X.w) X.A (storeName X.env x r) (λ_=>SP X ag D .next) X.xe d) X.xe f) X.xe s:=by
  refine fD (he ag s σ H _ I h) λw t ⟨y,H1,G,o,B⟩=>?_;refine fD (ho ag t σ H1 v y u w _ G r o B) λz am ⟨L,H2,A,r2,n⟩=>?_;exact jf A hN hi hx r2 (λK C=>⟨_,H2,C,n⟩) hf
 rcases l with⟨a,q⟩|⟨a,c,hc,b⟩
 ·exact wpAny_loadName_local I.ok.kind a p q j
 ·rcases a with a|a
  ·exact wpAny_loadName_cell I.ok.kind a hc b j
  ·rcases hx with k|k
   ·have:X.env.scope.names.lookup x=Z .free:=a;rw[k]at this;cases this
   ·have:X.env.scope.names.lookup x=Z .free:=a;rw[k]at this;cases this
noncomputable def zk(c:TT)(tb:TS):TS:=λD σ H=>∃W:Nat->St->Hp->Prop,(∃m,W m σ H) /\ ∀m σ H,W m σ H ->
 c σ H λb H1=>if b=M then∃N:St->Hp->Prop,(∀ σ' H',N σ' H' -> ∃m',m'<m/\W m' σ' H')/\tb {D with nx:=N,ct:=N,bk:=D.nx} σ H1 else D.nx σ H1
theorem zO{c:Expr}{e:List dR}{tc:TT}{tb:TS}(hp:PassesOwn (model X.prog X.w) X.A X.env X.xe)(hc:PT X c tc)(hb:uL X e tb):PS X (.While c e [] pos) (zk tc tb):=by
 intro ag s σ H D I h;obtain⟨W,⟨y,z⟩,i⟩:=h;refine wpAny_While (codeAny_whileLoop (λn s'=>∃g H',Inv X ag g H' s'/\W n g H') ?_ y ⟨σ,H,I,z⟩);rintro n x ⟨d,H1,A,B⟩;refine wpAny_passesOwn hp (fD (hc ag x d H1 _ A (i n d H1 B)) λb w ⟨H2,u,k⟩=>?_);cases b with
 |true=>
  obtain⟨N,t,k⟩:=k;rw[ak O];refine wpAny_passesOwn hp (fD (hb ag w d H2 _ u k) λf C l=>?_);cases f with
  |next=>
   obtain⟨a,j,q,o⟩:=l;obtain⟨p,m,r⟩:=t a j o;exact⟨p,m,a,j,q,r⟩
  |cont=>
   obtain⟨a,j,q,o⟩:=l;obtain⟨p,m,r⟩:=t a j o;exact⟨p,m,a,j,q,r⟩
  |brk=>exact l
  |ret v=>exact l
 |false=>
  rw[aj aK];exact wpAny_execs_nil ⟨d,H2,u,k⟩
end
structure It where
 go:Nat->Hp->Prop
 yld:Nat->Hp->V->Hp->Prop
 stop:Nat->Hp->Prop
def jW(X:Cx)(ag:List (dE×Obj))(H:Hp)(b:dE):Prop:=
 H b=Y/\b≠X.env.locals/\b∉X.fs/\(b∈X.ex\/X.s₀.heap.objs.size<=b)/\(∀x c,X.env.cells.lookup x=Z c->c≠b) /\ ∀p∈X.pn++ag,p.1≠b
theorem Inv.fpOk{X:Cx}{ag:List (dE×Obj)}{σ:St}{H H':Hp}{s:dD}{b:dE}(I:Inv X ag σ H s)(hb:s.heap.objs.size<=b)(hn:H' b=Y):jW X ag H' b:=by
 refine⟨hn,nG1 (nL1 I.lt hb),I.nofs hb,.inr (aC I.sz hb),λx c e z=>?_,λp a z=>?_⟩
 ·obtain⟨v,q⟩:=I.cell x c e;exact absurd (nL1 q.lt (by rw[z];exact hb)) (az _)
 ·exact absurd (nL1 (hL1 (I.pin p a).1) (by rw[z];exact hb)) (az _)
structure uG (P:dF)(w:dH)(K:Fg1)(tg:Expr)(am:It)(fp:List dE)(it:dE)(tn:Nat->dP->Prop):Prop where
 mem:it∈fp
 obj:∀i h,tn i h -> ∀b∈fp,∃o,h.get? b=some o /\ ∀v,o.data ≠ .cell v
 keep:∀i h h',tn i h->(∀b∈fp,∀o,h.get? b=some o->h'.get? b=some o)->tn i h'
 item:∀(X:Cx),X.prog=P->X.w=w->X.K=K->X.calm=true -> ∀(i:Nat) (ag:List (dE×Obj)) (s:dD) (σ:St) (H:Hp) (E:dB->dD->Prop),Inv X ag σ H s->(∀b∈fp,jW X ag H b)->tn i s.heap->am.go i H ->
  dM (model P w) X.A (pyNext (.ref it)) (λr s1=>∃u,r=some u /\
   dM (model P w) X.A (letOwnedTupleGo tg (.ref it) u) (λ_ s2=>∃x H',Inv X ag σ H' s2/\d8 x u/\am.yld i H x H'/\tn (i+1) s2.heap /\ ∀b∈fp,H' b=none) E s1) E s
 done:∀(X:Cx),X.prog=P->X.w=w->X.K=K->X.calm=true -> ∀(i:Nat) (ag:List (dE×Obj)) (s:dD) (σ:St) (H:Hp) (E:dB->dD->Prop),Inv X ag σ H s->(∀b∈fp,jW X ag H b)->tn i s.heap->am.stop i H ->
  dM (model P w) X.A (pyNext (.ref it)) (λr s1=>r=none/\Inv X ag σ H s1) E s
 self:∀(A:dG) (i:Nat) (s:dD) (Q:dB->dD->Prop) (E:dB->dD->Prop),tn i s.heap->Q (.ref it) s->dM (model P w) A (pyIter (.ref it)) Q E s
abbrev TI:=St->Hp->(It->Hp->Prop)->Prop
def KA(X:Cx)(ag:List (dE×Obj))(σ:St)(tg:Expr)(R:It->Hp->Prop)(itv:dB)(s2:dD):Prop:=
 ∃(it:dE) (fp:List dE) (tn:Nat->dP->Prop) (am:It) (H':Hp),itv = .ref it/\Inv X ag σ H' s2/\uG X.prog X.w X.K tg am fp it tn/\tn 0 s2.heap/\(∀b∈fp,jW X ag H' b)/\R am H'
def PI(X:Cx)(tg iter:Expr)(wi:TI):Prop:=
 ∀(ag:List (dE×Obj)) (s:dD) (σ:St) (H:Hp) (R:It->Hp->Prop),Inv X ag σ H s->wi σ H R ->
  dM (model X.prog X.w) X.A (eval iter X.env) (λv s1=>dM (model X.prog X.w) X.A (pyIter v) (KA X ag σ tg R) X.xe s1) X.xe s
theorem wS {ao:Model}{A:dG}{E:dB->dD->Prop}{s:dD}{tg:Expr}{it:dE}{u:dB}{o:Obj}{n:String}{vs:Array dB}{Q:Unit->dD->Prop}(ho:s.heap.get? it=some o)(hc:o.cls = .type n)(hd:o.data = .fields vs)
   (hn:["enumerate","zip","dict_itemiterator","dict_reverseitemiterator","odict_iterator","itertools.zip_longest","itertools.pairwise"].contains n=J) (a:Q () s):dM ao A (letOwnedTupleGo tg (.ref it) u) Q E s:=by
 unfold letOwnedTupleGo;cases tg <;> first
   |exact wP1 a
   | (cases u<;>first
       |exact wP1 a
       | (refine wB1 (wpAny_load ho ?_)
          rw[hc,hd];show dM ao A (if(["enumerate","zip","dict_itemiterator","dict_reverseitemiterator","odict_iterator","itertools.zip_longest","itertools.pairwise"].contains n&&vs[0]? == Z (rawInt _))=M then _ else _) Q E s;rw[aj (by intro h;rw[hn,Bool.false_and]at h;cases h)];exact wP1 a))
noncomputable def KE(K:Fg1)(a:dE):It:=
 ⟨λi H=>∃xs x,mU K H a xs/\xs[i]?=Z x,λi H x H'=>H'=H /\ ∀xs,mU K H a xs->xs[i]?=Z x,λi H=>∃xs,mU K H a xs/\xs.length<=i⟩
noncomputable def KD(K:Fg1)(a:dE):It:=
 ⟨λi H=>∃xs x,kr K H a xs/\xs[i]?=Z x,λi H x H'=>H'=H /\ ∀xs,kr K H a xs->xs[i]?=Z x,λi H=>∃xs,kr K H a xs/\xs.length<=i⟩
noncomputable def II(lo:Int)(n:Nat):It:=⟨λi _=>i<n,λi H x H'=>H'=H/\x = .int (lo+i),λi _=>n<=i⟩
theorem xD{P:dF}{w:dH}{K:Fg1}{tg:Expr}(a it:dE):uG P w K tg (KE K a) [it] it (λi h=>h.IsListIter it a i) where
 mem:=by simp
 obj:=λi h st b f=>by
  have e:b=it:=by simpa using f
  subst e;obtain⟨o,e,c,d⟩:=st;exact⟨o,e,λv z=>by rw[d]at z;cases z⟩
 keep:=λi h h' st k=>st.at λo e=>k it (by simp) o e
 item:=by
  intro X D t n hc i ag s σ H E I g st C;subst D t n;obtain⟨xs,x,j,r⟩:=C;obtain⟨y,m,p,L⟩:=I.list j;obtain⟨u,am,N⟩:=m.get r;obtain⟨q,l,G,B,F,A⟩:=g it (by simp);refine wpAny_pyNext_list_item st p.isList (x:=u) (by simpa using am) λh' st' Q=>?_;have R:Inv X ag σ H {s with heap:=h'}:=I.turned (t':=s.toks) (λb o f e=>(Q.2 b f).trans e) q l B F A;obtain⟨o,e,c,d⟩:=id st';exact⟨u,O,wS (s:={s with heap:=h'}) e c d (by decide) ⟨x,H,R,N,⟨O,λys ao=>by rw[I.list_inj ao j];exact r⟩,st',λb f=>(g b f).1⟩⟩
 done:=by
  intro X D t n hc i ag s σ H E I g st C;subst D t n;obtain⟨xs,j,r⟩:=C;obtain⟨y,m,p,L⟩:=I.list j;obtain⟨q,l,G,B,F,A⟩:=g it (by simp);have S:=m.length;exact wpAny_pyNext_list_end (I.ok.hd hc) st p.isList (by simp;lia) λh' au=>⟨O,I.turned (t':=s.toks) (λb o f e=>au b o f e) q l B F A⟩
 self:=λ_ _ _ _ _ st h=>wpAny_pyIter_listiter st h
theorem uU{P:dF}{w:dH}{K:Fg1}{tg:Expr}(a it:dE):uG P w K tg (KD K a) [it] it (λi h=>h.IsTupleIter it a i) where
 mem:=by simp
 obj:=λi h st b f=>by
  have e:b=it:=by simpa using f
  subst e;obtain⟨o,e,c,d⟩:=st;exact⟨o,e,λv z=>by rw[d]at z;cases z⟩
 keep:=λi h h' st k=>st.at λo e=>k it (by simp) o e
 item:=by
  intro X D y q hc i ag s σ H E I j st C;subst D y q;obtain⟨xs,x,l,t⟩:=C;obtain⟨g,n,p,L⟩:=I.tuple l;obtain⟨u,am,N⟩:=n.get t;obtain⟨r,m,G,B,F,A⟩:=j it (by simp);refine wpAny_pyNext_tuple_item st (show s.heap.IsTuple a g.toArray from p) (x:=u) (by simpa using am) λh' st' Q=>?_;have R:Inv X ag σ H {s with heap:=h'}:=I.turned (t':=s.toks) (λb o f e=>(Q.2 b f).trans e) r m B F A;obtain⟨o,e,c,d⟩:=id st';exact⟨u,O,wS (s:={s with heap:=h'}) e c d (by decide) ⟨x,H,R,N,⟨O,λys ao=>by rw[I.tuple_inj ao l];exact t⟩,st',λb f=>(j b f).1⟩⟩
 done:=by
  intro X D y q hc i ag s σ H E I j st C;subst D y q;obtain⟨xs,l,t⟩:=C;obtain⟨g,n,p,L⟩:=I.tuple l;obtain⟨r,m,G,B,F,A⟩:=j it (by simp);have S:=n.length;exact wpAny_pyNext_tuple_end (I.ok.hd hc) st (show s.heap.IsTuple a g.toArray from p) (by simp;lia) λh' au=>⟨O,I.turned (t':=s.toks) (λb o f e=>au b o f e) r m B F A⟩
 self:=λ_ _ _ _ _ st h=>wpAny_pyIter_tupleiter st h
theorem uV{P:dF}{w:dH}{K:Fg1}{tg:Expr}(it:dE)(lo:Int)(n:Nat):uG P w K tg (II lo n) [it] it (λi h=>IsRangeIter h it (lo+(i:Nat)*1) ((n:Int)-(i:Nat)) 1) where
 mem:=by simp
 obj:=λi h st b a=>by
  have e:b=it:=by simpa using a
  subst e;exact⟨_,st,λv z=>by
   have u:Data.fields _=Data.cell v:=z;cases u⟩
 keep:=λi h h' st k=>k it (by simp) _ st
 item:=by
  intro X m j d hc i ag s σ H E I c st p;subst m j d;obtain⟨f,g,y,l,r,q⟩:=c it (by simp);have W:=Walks.range (prog:=X.prog) (w:=X.w) (I.ok.hd hc) it lo 1 n;refine W.item i s _ _ p st λv h' tk C st' A=>?_;obtain⟨t,rfl⟩:=C;have B:Inv X ag σ H {s with heap:=h',toks:=tk}:=I.turned (λb o a e=>A b o (by simpa using a) e) f g l r q;refine⟨_,O,wS (s:={s with heap:=h',toks:=tk}) (n:="range_iterator") st' O O (by decide) ⟨.int (lo+i),H,B,⟨t,?_⟩,⟨O,O⟩,st',λb a=>(c b a).1⟩⟩;rw[Int.mul_one]
 done:=by
  intro X m j d hc i ag s σ H E I c st p;subst m j d;obtain⟨f,g,y,l,r,q⟩:=c it (by simp);exact wpAny_pyNext_range_end (I.ok.hd hc) st (by have:n<=i:=p;lia) λh' x=>⟨O,I.turned (t':=s.toks) (λb o a e=>x b o a e) f g l r q⟩
 self:=λ_ _ _ _ _ st h=>wpAny_pyIter_rangeiter st h
section
variable{tg:Expr}
def HY(K:Fg1)(tl:TE):TI:=fun σ H R=>tl σ H λx H1=>∃a,x = .ref a/\(∃xs,mU K H1 a xs)/\R (KE K a) H1
def JV(K:Fg1)(tl:TE):TI:=fun σ H R=>tl σ H λx H1=>∃a,x = .ref a/\(∃xs,kr K H1 a xs)/\R (KD K a) H1
theorem Cj{l:Expr}{tl:TE}(j:PE X l tl):PI X tg l (HY X.K tl):=by
 intro ag s σ H R I h;refine fD (j ag s σ H _ I h) λv c ⟨x,H1,d,i,f⟩=>?_;obtain⟨a,e,⟨xs,m⟩,q⟩:=f;subst e;cases i;obtain⟨k,r,p,n⟩:=d.list m;refine wpAny_pyIter_list p.isList ?_;refine⟨c.heap.objs.size,[c.heap.objs.size],_,_,H1,O,d.kept (t':=c.toks) λb o e=>hP1 _ e,xD a _,⟨_,hS1 _ O,O,O⟩,λb g=>?_,q⟩;have e:b=c.heap.objs.size:=by simpa using g
 subst e;exact d.fpOk (nR1 _) (d.hok.fresh (nR1 _))
theorem EY{l:Expr}{tl:TE}(k:PE X l tl):PI X tg l (JV X.K tl):=by
 intro ag s σ H R I h;refine fD (k ag s σ H _ I h) λv c ⟨x,H1,d,j,g⟩=>?_;obtain⟨a,e,⟨xs,m⟩,q⟩:=g;subst e;cases j;obtain⟨f,r,p,n⟩:=d.tuple m;refine wpAny_pyIter_tuple (show c.heap.IsTuple a f.toArray from p) ?_;refine⟨c.heap.objs.size,[c.heap.objs.size],_,_,H1,O,d.kept (t':=c.toks) λb o e=>hP1 _ e,uU a _,⟨_,hS1 _ O,O,O⟩,λb i=>?_,q⟩;have e:b=c.heap.objs.size:=by simpa using i
 subst e;exact d.fpOk (nR1 _) (d.hok.fresh (nR1 _))
theorem s0{ag:List (dE×Obj)}{σ:St}{H:Hp}{s:dD}{R:It->Hp->Prop}{E:dB->dD->Prop}{lo hi:Int}{t u v:Tok}{tk:Nat}(I:Inv X ag σ H s)(h1: -(2^62)<=lo)(h2:lo<2^62)(f: -(2^62)<=hi)(g:hi<2^62)(q:R (II lo (hi-lo).toNat) H):dM (model X.prog X.w) X.A (pyIter (.ref s.heap.objs.size)) (KA X ag σ tg R) E {s with heap:=s.heap.push {cls:=.type "range",data:=.fields #[.int lo t,.int hi u,.int 1 v]},toks:=tk}:=by
 refine wpAny_pyIter_range (IsRange.new ..) (small_one h1 h2 f g) ?_;have a:Inv X ag σ H {s with heap:=s.heap.push {cls:=.type "range",data:=.fields #[.int lo t,.int hi u,.int 1 v]},toks:=tk}:=I.kept λb o e=>hP1 _ e;refine⟨(s.heap.push {cls:=.type "range",data:=.fields #[.int lo t,.int hi u,.int 1 v]}).objs.size,[(s.heap.push {cls:=.type "range",data:=.fields #[.int lo t,.int hi u,.int 1 v]}).objs.size],_,_,H,O,
  a.kept (t':=tk) λb o e=>hP1 _ e,uV _ lo (hi-lo).toNat,?_,λb d=>?_,q⟩
 ·have h:lo+((0:Nat):Int)*1=lo:=by simp
  have c:(((hi-lo).toNat:Nat):Int)-((0:Nat):Int)=Builtin.Range.rangeSize lo hi 1:=by rw[rangeSize_one];split<;>lia
  show IsRangeIter _ _ (lo+((0:Nat):Int)*1) ((((hi-lo).toNat:Nat):Int)-((0:Nat):Int)) 1;rw[h,c];exact hS1 _ O
 ·have e:b=(s.heap.push {cls:=.type "range",data:=.fields #[.int lo t,.int hi u,.int 1 v]}).objs.size:=by simpa using d
  subst e;exact a.fpOk (nR1 _) (a.hok.fresh (nR1 _))
def HW(ta:TA):TI:=fun σ H R=>ta σ H λvs H1=>∃j:Int,vs=[.int j] /\ -(2^62)<=j/\j<2^62/\R (II 0 j.toNat) H1
def HV(ta:TA):TI:=fun σ H R=>ta σ H λvs H1=>∃i j:Int,vs=[.int i,.int j]/\(-(2^62)<=i/\i<2^62 /\ -(2^62)<=j/\j<2^62)/\R (II i (j-i).toNat) H1
theorem xP {a:Expr}{ta:TA}{p pos:Pos}(hg:Gl X "range")(hm:X.mg "range"=Y)(ha:PA X [a] ta)(hs:autoParam (dJ [a] X.env=[(J,eval a X.env)]) au0):PI X tg (.Call (.Name "range" p) [a] [] pos) (HW ta):=by
 intro ag s σ H R I h;refine Call_ (kh I hg hm boot_range (PyProof.Rows.callWith_type1 (fD (ha pos ag s σ H _ I h) λk i ⟨vs,H1,g,f,b⟩=>?_) hs O));obtain⟨j,e,b,c,q⟩:=b;subst e;cases f with
 |cons r d=>
  cases d;obtain⟨t,rfl⟩:=r;exact call_range_1 (s0 g (by lia) (by lia) b c (by simpa using q))
theorem xO {a b:Expr}{ta:TA}{p pos:Pos}(hg:Gl X "range")(hm:X.mg "range"=none)(ha:PA X [a,b] ta)(hs:autoParam (dJ [a,b] X.env=[(false,eval a X.env),(false,eval b X.env)]) au0)(hs2:autoParam (dJ [b] X.env=[(false,eval b X.env)]) au0):
  PI X tg (.Call (.Name "range" p) [a,b] [] pos) (HV ta):=by
 intro ag s σ H R I h;refine Call_ (kh I hg hm boot_range (PyProof.Rows.callWith_type1 (fD (ha pos ag s σ H _ I h) λv u ⟨vs,H1,m,k,c⟩=>?_) (by rw[hs,hs2]) (by rw[hs2];rfl)));obtain⟨i,j,e,⟨c,f,n,l⟩,q⟩:=c;subst e;cases k with
 |cons r d=>
  cases d with
  |cons g d=>
   cases d;obtain⟨t,rfl⟩:=r;obtain⟨o,rfl⟩:=g;exact call_range_2 (s0 m c f n l q)
noncomputable def G7(wi:TI)(g:TG)(tb:TS):TS:=λD σ H=>wi σ H λam H1=>∃W:Nat->Nat->St->Hp->Prop,(∃m,W 0 m σ H1) /\ ∀i m σ H,W i m σ H ->
 (am.stop i H/\D.nx σ H)\/(am.go i H /\ ∃N:St->Hp->Prop,(∀ σ' H',N σ' H' -> ∃m',m'<m/\W (i+1) m' σ' H') /\ ∀x H',am.yld i H x H'->g x σ H' fun σ2 H2=>tb {D with nx:=N,ct:=N,bk:=D.nx} σ2 H2)
noncomputable def nO(fp:List dE)(h:dP):List (dE×Obj):=fp.filterMap λb=>(h.get? b).map λo=>(b,o)
theorem iX{a:List dE}{h:dP}{b:dE}{o:Obj}(hb:b∈a)(e:h.get? b=Z o):(b,o)∈nO a h:=aL.mpr ⟨b,hb,by rw[e];rfl⟩
theorem xS{a:List dE}{h:dP}{p:dE×Obj}(hp:p∈nO a h):p.1∈a/\h.get? p.1=Z p.2:=by
 obtain⟨b,c,e⟩:=aL.mp hp;cases q:h.get? b with
 |none=>rw[q]at e;cases e
 |some o=>
  rw[q]at e;have d:(b,o)=p:=Option.some.inj e;subst d;exact⟨c,q⟩
theorem Inv.pinned{ag:List (dE×Obj)}{σ:St}{H:Hp}{s:dD}{a:List dE}(I:Inv X ag σ H s)(hf:∀b∈a,jW X ag H b)(ho:∀b∈a,∃o,s.heap.get? b=Z o /\ ∀v,o.data ≠ .cell v):Inv X (ag++nO a s.heap) σ H s:=
 I.pins_of λp j=>(aG.mp j).elim (λz=>I.pin p (mA1 _ z)) λz=>by
  obtain⟨c,e⟩:=xS z;obtain⟨g,i,h,_⟩:=hf p.1 c;obtain⟨o,f,d⟩:=ho p.1 c;rw[e]at f;cases f;exact⟨e,g,i,h,d⟩
theorem Inv.unpinned{ag pl:List (dE×Obj)}{σ:St}{H:Hp}{s:dD}(I:Inv X (ag++pl) σ H s):Inv X ag σ H s:=I.pins_of λp a=>I.pin p (mA1 _ (aH _ a))
theorem ET{iter:Expr}{t:List dR}{wi:TI}{g:TG}{tb:TS}{pos:Pos}(hp:PassesOwn (model X.prog X.w) X.A X.env X.xe)(hc:X.calm=M)(hi:PI X tg iter wi)(hg:PG X tg g)(hb:uL X t tb)(hs:autoParam (∀x,foldedSetIterable iter X.env x=pure x) du0):PS X (.For tg iter t [] pos) (G7 wi g tb):=by
 intro ag s σ H D I h;refine wpAny_For (fD (hi ag s σ H _ I h) λv s1 h1=>fD h1 λitv s2 h2=>?_) hs;obtain⟨it,C,wq,am,H2,e,I2,T,K,R,W,⟨m0,w0⟩,z⟩:=h2;subst e
 -- what stays M of the iterator's objects through the loop
 have l:∀{H':Hp},(∀b∈C,H' b=Y) -> ∀b∈C,jW X ag H' b:=λhn b hb=>⟨hn b hb,(R b hb).2⟩;refine codeAny_forLoop_any (λn s'=>∃i j H',Inv X ag j H' s'/\wq i s'.heap/\(∀b∈C,H' b=Y)/\W i n j H') ?_ m0 ⟨0,σ,H2,I2,K,λb hb=>(R b hb).1,w0⟩;rintro n U ⟨i,q,G,aq,A,E,w3⟩;rcases z i n q G w3 with⟨B,qn⟩|⟨go,N,hN,step⟩
 ·refine wpAny_passesOwn hp (fD (T.done X O O O hc i ag U q G X.xe aq (l E) A B) λr s4 ⟨P,I4⟩=>?_);subst P;exact wpAny_execs_nil ⟨q,G,I4,qn⟩
 ·refine wpAny_passesOwn hp (fD (T.item X rfl rfl rfl hc i ag U q G X.xe aq (l E) A go) fun r s4 ⟨u,P,h4⟩=>?_);subst P;refine wpAny_passesOwn hp (fD h4 fun _ S ⟨x,V,I5,r5,y5,y,ao⟩=>?_);have L:=I5.pinned (l ao) (T.obj _ _ y);refine wpAny_passesOwn hp (fD (hg _ S q V x u _ L r5 (step x V y5)) fun _ s6 ⟨Q,H6,I6,q6⟩=>?_);refine wpAny_passesOwn hp (fD (hb _ s6 Q H6 _ I6 q6) fun f au w=>?_);have k:∀ {a:St} {p:Hp},Inv X (ag++nO C S.heap) a p au->N a p -> ∃ m,m<n /\ ∃ i j H',Inv X ag j H' au/\wq i au.heap/\(∀ b∈C,H' b=none)/\W i m j H':=fun {a p} c F=>by
   obtain⟨m',hm,w7⟩:=hN a p F;refine⟨m',hm,i+1,a,p,c.unpinned,T.keep _ _ _ y λb hb o e=>(c.pin (b,o) (mA1 _ (mA1 _ (iX hb e)))).1,λb hb=>?_,w7⟩;obtain⟨o,e,d⟩:=T.obj _ _ y b hb;exact(c.pin (b,o) (mA1 _ (mA1 _ (iX hb e)))).2.1
  cases f with
  |next=>obtain⟨a,p,c,F⟩:=w;exact k c F
  |cont=>obtain⟨a,p,c,F⟩:=w;exact k c F
  |brk=>obtain⟨a,p,c,w⟩:=w;exact⟨a,p,c.unpinned,w⟩
  |ret v=>obtain⟨x7,a,p,c,r7,w⟩:=w;exact⟨x7,a,p,c.unpinned,r7,w⟩
end
abbrev R2:=V->V->Hp->VK->Prop
def gt(X:Cx)(f:dB->dB->Sem dB)(r:R2):Prop:=
 ∀(ag:List (dE×Obj)) (s:dD) (σ:St) (H:Hp) (x y:V) (v u:dB) (Q:VK),Inv X ag σ H s->d8 x v->d8 y u->r x y H Q ->
  dM (model X.prog X.w) X.A (f v u) (EP X ag σ Q) X.xe s
def fj(X:Cx)(f:dB)(r:List V->Hp->VK->Prop):Prop:=
 ∀(ag:List (dE×Obj)) (s:dD) (σ:St) (H:Hp) (xs:List V) (us:List dB) (Q:VK),Inv X ag σ H s->eE xs us->r xs H Q ->
  dM (model X.prog X.w) X.A (call f us) (EP X ag σ Q) X.xe s
def Kc(X:Cx)(r:V->Hp->(Bool->Hp->Prop)->Prop):Prop:=
 ∀(ag:List (dE×Obj)) (s:dD) (σ:St) (H:Hp) (x:V) (v:dB) (Q:Bool->Hp->Prop),Inv X ag σ H s->d8 x v->r x H Q ->
  dM (model X.prog X.w) X.A (truthy v) (TP X ag σ Q) X.xe s
noncomputable def G4(r:R2)(ta tb:TE):TE:=fun σ H Q=>ta σ H λx H1=>tb σ H1 λy H2=>r x y H2 Q
def rI(C:Int->Int->Prop)(g:Int->Int->V):R2:=λx y H Q=>∃i j,x = .int i/\y = .int j/\C i j/\Q (g i j) H
noncomputable def DO(g:Int->Int->V):R2:=λx y H Q=>∃i j,x = .int i/\y = .int j/\Q (g i j) H
def rU(g:Int->V):V->Hp->VK->Prop:=λx H Q=>∃i,x = .int i/\Q (g i) H
section
variable{a b c:Expr}{ta tb tc:TE}{pos:Pos}
theorem Gy(ha:PE X a ta)(hb:PE X b tb){ag:List (dE×Obj)}{s:dD}{σ:St}{H:Hp}{R:V->V->Hp->Prop}(I:Inv X ag σ H s)(h:ta σ H fun x H1=>tb σ H1 fun y H2=>R x y H2){Q:dB->dD->Prop}{f:dB->dB->Sem dB}(hf:∀v u e x y H2,Inv X ag σ H2 e->d8 x v->d8 y u->R x y H2->dM (model X.prog X.w) X.A (f v u) Q X.xe e):
  dM (model X.prog X.w) X.A (eval a X.env) (λv c=>dM (model X.prog X.w) X.A (eval b X.env) (λu d=>dM (model X.prog X.w) X.A (f v u) Q X.xe d) X.xe c) X.xe s:=by
 refine fD (ha ag s σ H _ I h) λv k ⟨x,H1,m,j,g⟩=>?_;refine fD (hb ag k σ H1 _ m g) λu e ⟨y,H2,l,r2,i⟩=>?_;exact hf v u e x y H2 l j r2 i
theorem Ho{op:Operator}{r:R2}(ho:gt X (binaryOp op) r)(ha:PE X a ta)(hb:PE X b tb):PE X (.BinOp a op b pos) (G4 r ta tb):=by
 intro ag s σ H Q I h;exact wpAny_BinOp (Gy ha hb I h λv u e x y H2 d c f q=>ho ag e σ H2 x y v u Q d c f q)
theorem IT{f:dB->dB->Sem dB}{C:Int->Int->Prop}{g:Int->Int->Int}(a:∀(i j:Int) (t u:Tok) (s:dD) (Q:dB->dD->Prop) (E:dB->dD->Prop),C i j->Q (.int (g i j) s.toks) {s with toks:=s.toks+1}->dM (model X.prog X.w) X.A (f (.int i t) (.int j u)) Q E s):
  gt X f (rI C λi j=>.int (g i j)):=by
 intro ag s σ H x y v u Q I b c h;obtain⟨i,j,rfl,rfl,hc,q⟩:=h;obtain⟨t,rfl⟩:=b;obtain⟨d,rfl⟩:=c;exact a i j t d s _ _ hc ⟨.int (g i j),H,I.tok _,⟨_,O⟩,q⟩
theorem Fh{f:dB->dB->Sem dB}{g:Int->Int->Int}(a:∀(i j:Int) (t u:Tok) (s:dD) (Q:dB->dD->Prop) (E:dB->dD->Prop),Q (.int (g i j) s.toks) {s with toks:=s.toks+1}->dM (model X.prog X.w) X.A (f (.int i t) (.int j u)) Q E s):
  gt X f (DO λi j=>.int (g i j)):=by
 intro ag s σ H x y v u Q I b c h;obtain⟨i,j,rfl,rfl,q⟩:=h;obtain⟨t,rfl⟩:=b;obtain⟨d,rfl⟩:=c;exact a i j t d s _ _ ⟨.int (g i j),H,I.tok _,⟨_,O⟩,q⟩
theorem Hw{f:dB->dB->Sem dB}{g:Int->Int->Bool}(a:∀(i j:Int) (t u:Tok) (s:dD) (Q:dB->dD->Prop) (E:dB->dD->Prop),Q (.bool (g i j)) s->dM (model X.prog X.w) X.A (f (.int i t) (.int j u)) Q E s):
  gt X f (DO λi j=>.bl (g i j)):=by
 intro ag s σ H x y v u Q I b c h;obtain⟨i,j,rfl,rfl,q⟩:=h;obtain⟨t,rfl⟩:=b;obtain⟨d,rfl⟩:=c;exact a i j t d s _ _ ⟨.bl (g i j),H,I,O,q⟩
def IL(i j:Int):Prop:=0<j/\j<1073741824
def IK(i j:Int):Prop:=0<=j/\j<=1000000/\i.natAbs<2^64
theorem Fg:gt X (binaryOp .Add) (DO λi j=>.int (i+j)):=Fh λ_ _ _ _ _ _ _ q=>add_int q
theorem Fb:gt X (binaryOp .Sub) (DO λi j=>.int (i-j)):=Fh λ_ _ _ _ _ _ _ q=>sub_int q
theorem Cs:gt X (binaryOp .FloorDiv) (rI IL λi j=>.int (i/j)):=IT λi j _ _ _ _ _ hc q=>by
 have h1:(0:Int)<j:=hc.1;have h2:j<1073741824:=hc.2;exact floordiv_int (by lia) (by rw[Int.fdiv_eq_ediv_of_nonneg i (by lia)];exact q) (.inl (PyProof.noPylong_small (by lia)))
theorem Fd:gt X (binaryOp .Mod) (rI (λ_ j=>0<j) λi j=>.int (i%j)):=IT λi j _ _ _ _ _ hc q=>by
 have h1:(0:Int)<j:=hc;exact mod_int' (by lia) (by rw[Int.fmod_eq_emod_of_nonneg i (by lia)];exact q)
theorem Fc:gt X (binaryOp .Pow) (rI IK λi j=>.int (i^j.toNat)):=IT λ_ _ _ _ _ _ _ hc q=>pow_int_small hc.1 hc.2.1 hc.2.2 q
theorem C6:gt X (inplaceOp .Add) (DO λi j=>.int (i+j)):=Fh λ_ _ _ _ _ _ _ q=>iadd_int q
theorem A2{ag:List (dE×Obj)}{σ:St}{H:Hp}{s:dD}{Q:VK}{k k':Bool}(I:Inv X ag σ H s)(q:Q (.bl k) H)(e:k=k'):EP X ag σ Q (.bool k') s:=by
 subst e;exact⟨.bl k,H,I,O,q⟩
theorem Hu:gt X (compareOp .Gt) (DO λi j=>.bl (decide (j<i))):=Hw λ_ _ _ _ _ _ _ q=>gt_int q
theorem Hv:gt X (compareOp .GtE) (DO λi j=>.bl (decide (j<=i))):=Hw λ_ _ _ _ _ _ _ q=>ge_int q
theorem Fe:gt X (compareOp .Is) (λx y H Q=>y = .non/\Q (.bl (decide (x = .non))) H):=by
 intro ag s σ H x y v u Q I a b h;obtain⟨rfl,q⟩:=h;cases b;refine is_none_gen (A2 I q ?_);cases x<;>first
  |(cases a;rfl)
  |(obtain⟨t,rfl⟩:=a;rfl)
theorem Cr:gt X (compareOp .IsNot) (λx y H Q=>y = .non/\Q (.bl (!decide (x = .non))) H):=by
 intro ag s σ H x y v u Q I a b h;obtain⟨rfl,q⟩:=h;cases b;refine isnot_none_gen (A2 I q ?_);cases x<;>first
  |(cases a;rfl)
  |(obtain⟨t,rfl⟩:=a;rfl)
theorem Ag(b:Expr){op:CmpOp}(h:autoParam (op ≠ .In) bu0)(h2:autoParam (op ≠ .NotIn) bu0):behindInMarks op b=J:=by
 have a:(op == CmpOp.In)=J:=by cases op<;>first|rfl|exact absurd rfl h
 have c:(op == CmpOp.NotIn)=J:=by cases op<;>first|rfl|exact absurd rfl h2
 cases b<;>simp[behindInMarks,a,c]
theorem Cp{op:CmpOp}{r:R2}(ho:gt X (compareOp op) r)(ha:PE X a ta)(hb:PE X b tb)(hm:behindInMarks op b=J):PE X (.Compare a [op] [b] pos) (G4 r ta tb):=by
 intro ag s σ H Q I h;exact wpAny_Compare1 (Gy ha hb I h λv u e x y H2 d c f q=>ho ag e σ H2 x y v u Q d c f q) hm
noncomputable def GY(t:TE):TT:=fun σ H Q=>t σ H λx H'=>∃k,x = .bl k/\Q k H'
theorem B9{op:CmpOp}{r:R2}(ho:gt X (compareOp op) r)(ha:PE X a ta)(hb:PE X b tb)(hm:behindInMarks op b=J):PT X (.Compare a [op] [b] pos) (GY (G4 r ta tb)):=by
 intro ag s σ H Q I h;refine wpAny_isTrue_Compare1 (fD (ha ag s σ H _ I h) λv m ⟨x,H1,o,g,d⟩=>fD (hb ag m σ H1 _ o d) λu i ⟨y,H2,n,r2,f⟩=>
  fD (ho ag i σ H2 x y v u _ n g r2 f) λc t ⟨z,j,l,q,k,e,p⟩=>?_) hm
 subst e;cases q;exact wpAny_truthy_bool ⟨j,l,p⟩
def DC(K:Fg1)(x:V)(H:Hp)(k:Bool):Prop:=
 match x with
 | .non=>k=J
 | .bl b=>k=b
 | .int i=>k=(i != 0)
 | .str y=>y.length<=dL/\k=((y.length:Int) != 0)
 | .byt y=>y.size<=dL/\k=((y.size:Int) != 0)
 | .ref p=>(∃xs,mU K H p xs/\k = !xs.isEmpty)\/(∃xs,kr K H p xs/\k = !xs.isEmpty) \/ ∃kvs,H p=Z (.dK kvs)/\k = !kvs.isEmpty
 |_=>False
theorem vn{κ:Type}{kvs:List (κ×V)}{vs:List (κ×dB)}(r:KV kvs vs):(!vs.isEmpty) = !kvs.isEmpty:=by
 cases r<;>rfl
theorem n3{xs:List V}{its:List dB}(r:eE xs its):(!its.toArray.isEmpty) = !xs.isEmpty:=by
 cases r<;>simp
theorem lS:(dL:Nat)<2^63:=by rw[sizeLine_eq];decide
theorem Ei:Kc X (λx H Q=>∃k,DC X.K x H k/\Q k H):=by
 intro ag s σ H x v Q I d h;obtain⟨k,e,q⟩:=h;have u:=lS;have o:dL=16777216:=sizeLine_eq;cases x with
 |non=>
  cases d;have a:k=J:=e;subst a;exact truthy_none ⟨H,I,q⟩
 |bl b=>
  cases d;have a:k=b:=e;subst a;exact wpAny_truthy_bool ⟨H,I,q⟩
 |int i=>
  obtain⟨t,rfl⟩:=d;have a:k=(i != 0):=e;subst a;exact PySem.P.truthy_int ⟨H,I,q⟩
 |str y=>
  obtain⟨t,rfl⟩:=d;obtain⟨n,a⟩:y.length<=dL/\k=((y.length:Int) != 0):=e;subst a;exact PySem.P.truthy_str (by lia) ⟨H,I.tok _,q⟩
 |byt y=>
  obtain⟨t,rfl⟩:=d;obtain⟨n,a⟩:y.size<=dL/\k=((y.size:Int) != 0):=e;subst a;exact PySem.W.truthy_bytes (by lia) ⟨H,I.tok _,q⟩
 |ref p=>
  cases d;have a:(∃xs,mU X.K H p xs/\k = !xs.isEmpty)\/(∃xs,kr X.K H p xs/\k = !xs.isEmpty) \/ ∃kvs,H p=Z (.dK kvs)/\k = !kvs.isEmpty:=e;rcases a with⟨xs,f,a⟩|⟨xs,f,a⟩|⟨kvs,f,a⟩
  ·subst a;obtain⟨g,r,pl,j⟩:=I.list f;have c:=r.length;exact wpAny_truthy_list pl.isList (by simp only[sT1];lia) ⟨H,I.tok _,by rw[n3 r];exact q⟩
  ·subst a;obtain⟨g,r,pl,j⟩:=I.tuple f;have c:=r.length;exact truthy_tuple pl (by simp only[sT1];lia) ⟨H,I.tok _,by rw[n3 r];exact q⟩
  ·subst a;obtain⟨j,l,vs,r,m⟩:kvs.length<=dL/\(p == sysModules)=false /\ ∃vs,KV kvs vs/\s.heap.DictOf (ff X.prog X.w) p vs:=I.hok p _ f;have c:kvs.length=vs.length:=Paired.length r;exact wpAny_truthy_dict l m (by lia) ⟨H,I.tok _,by rw[vn r];exact q⟩
 |_=>exact(show False from e).elim
theorem zM(ha:PE X a ta)(he:∀ b,isTrue a X.env b=(do let v<-b;standAt a.pos;holding [v] (truthy v))):
  PT X a (fun σ H Q=>ta σ H λx H'=>∃k,DC X.K x H' k/\Q k H'):=by
 intro ag s σ H Q I h;exact isTrue_plain (fD (ha ag s σ H _ I h) λv e ⟨x,H1,f,d,c⟩=>Ei ag e σ H1 x v Q f d c) (he _)
theorem vc:gt X (binaryOp .Add) (λx y H Q=>∃i j,x = .str i/\y = .str j/\i.length+j.length<=dL/\Q (.str (i++j)) H):=by
 intro ag s σ H x y v u Q I b c h;obtain⟨i,j,rfl,rfl,a,q⟩:=h;obtain⟨t,rfl⟩:=b;obtain⟨d,rfl⟩:=c;exact add_str (λd tk=>⟨.str (i++j),H,I.tok _,⟨_,O⟩,q⟩) a
theorem je{x:V}{a:List dB}(r:eE [x] a):∃u,a=[u]/\d8 x u:=by
 cases r with
 |cons b r2=>cases r2;exact⟨_,O,b⟩
theorem DG{x y:V}{a:List dB}(r:eE [x,y] a):∃u w',a=[u,w']/\d8 x u/\d8 y w':=by
 cases r with
 |cons c r2=>
  cases r2 with
  |cons d b=>cases b;exact⟨_,_,O,c,d⟩
theorem yJ(hc:X.calm=M):fj X (.builtin "max") (λxs H Q=>∃i j,xs=[.int i,.int j]/\Q (.int (if j>i then j else i)) H):=by
 intro ag s σ H xs c Q I r h;obtain⟨i,j,rfl,q⟩:=h;obtain⟨u,b,rfl,⟨t,rfl⟩,⟨d,rfl⟩⟩:=DG r;refine max_two_ints (I.ok.hd hc) λh' tk k=>⟨_,H,I.kept k,?_,q⟩;by_cases a:j>i
 ·rw[ak a,ak a];exact⟨_,O⟩
 ·rw[aj a,aj a];exact⟨_,O⟩
theorem yI(hc:X.calm=M):fj X (.builtin "min") (λxs H Q=>∃i j,xs=[.int i,.int j]/\Q (.int (if j<i then j else i)) H):=by
 intro ag s σ H xs c Q I r h;obtain⟨i,j,rfl,q⟩:=h;obtain⟨u,b,rfl,⟨t,rfl⟩,⟨d,rfl⟩⟩:=DG r;refine min_two_ints (I.ok.hd hc) λh' tk k=>⟨_,H,I.kept k,?_,q⟩;by_cases a:j<i
 ·rw[ak a,ak a];exact⟨_,O⟩
 ·rw[aj a,aj a];exact⟨_,O⟩
theorem qj:fj X (.type "int") (λxs H Q=>(∃i,xs=[.int i]/\Q (.int i) H) \/ ∃k,xs=[.bl k]/\Q (.int (if k then 1 else 0)) H):=by
 intro ag s σ H xs b Q I r h;rcases h with⟨i,rfl,q⟩|⟨k,rfl,q⟩
 ·obtain⟨u,rfl,t,rfl⟩:=je r;exact call_int_int ⟨.int i,H,I,⟨_,O⟩,q⟩
 ·obtain⟨u,rfl,a⟩:=je r;cases a;exact call_int_bool ⟨.int (if k then 1 else 0),H,I.tok _,⟨_,O⟩,q⟩
end
section
variable{prog:dF}{w:dH}{A:dG}{E:dB->dD->Prop}{s:dD}{K:Fg1}{x dx C f:dE}{mA:Str->Option dB}{name:Str}{v:dB}
end
theorem mW.some_of{v:V}{o:Option dB}(r:mW (Z v) o):∃u,o=Z u/\d8 v u:=by
 cases o with
 |none=>exact(show False from r).elim
 |some u=>exact⟨u,O,r⟩
section
variable{P:dF}{w:dH}{H H':Hp}{h h':dP}{a C dx:dE}{fs fs':List (Str×V)}
end
section
variable{ag:List (dE×Obj)}{σ:St}{H:Hp}{s:dD}{a C dx:dE}{fs:List (Str×V)}{f:Str}{v:V}{A:dG}{E:dB->dD->Prop}
end
section
variable{o e value:Expr}{f:Str}{pos pos' tpos:Pos}{ta tv:TE}
end
section
variable{ag:List (dE×Obj)}{σ:St}{H:Hp}{s:dD}{A:dG}{E:dB->dD->Prop}{Q:dB->dD->Prop}{c:dB}{b:Bool}
end
structure fR (k:Nat)(A:dG):Prop where
 hd:A.handled=none
 dp:A.depth+3*k+5<recursionLimit
 un:A.units+16*k+200<cLine
 gd:A.guards=some []
theorem fR.mono{j k:Nat}{A:dG}(r:fR k A)(h:j<=k):fR j A:=⟨r.hd,by have:=r.dp;lia,by have:=r.un;lia,r.gd⟩
theorem fR.deeper{k:Nat}{A:dG}(r:fR (k+1) A)(env:Env):fR k (A.deeper env):=
 ⟨r.hd,by have:=r.dp;show A.depth+1+3*k+5<_;lia,by have:=r.un;show A.units+3+16*k+200<_;lia,r.gd⟩
theorem fR.depth{k:Nat}{A:dG}(r:fR k A):A.depth<recursionLimit:=by have:=r.dp;lia
theorem fR.units{k:Nat}{A:dG}(r:fR k A):A.units+64<cLine:=by have:=r.un;lia
noncomputable def Jm:TA:=λ_ H Q=>Q [] H
noncomputable def Ha(ta:TE)(tr:TA):TA:=fun σ H Q=>ta σ H λx H1=>tr σ H1 λxs H2=>Q (x::xs) H2
section
variable{e:Expr}{es:List Expr}{te:TE}{t:TA}{pos:Pos}
theorem rh:PA X [] Jm:=λ_ _ _ _ H Q I h=>Calls.spliced_nil ⟨[],H,I,.nil,h⟩
theorem m5(ha:PE X e te)(hr:PA X es t)(hs:autoParam (dJ (e::es) X.env=(J,eval e X.env)::dJ es X.env) au0):PA X (e::es) (Ha te t):=by
 intro pos ag s σ H Q I h;rw[hs];show dM _ _ (spliced ((J,eval e X.env)::backTo pos (dJ es X.env))) _ _ s;refine Calls.spliced_cons (fD (ha ag s σ H _ I h) λu d ⟨x,H1,g,c,a⟩=>?_);exact fD (hr pos ag d σ H1 _ g a) λj i ⟨xs,H2,f,r2,b⟩=>⟨x::xs,H2,f,.cons c r2,b⟩
def Jh(t:TA):TE:=fun σ H Q=>t σ H λxs H1=>xs.length<=dL /\ ∀p,H1 p=Y->Q (.ref p) (upd H1 p (.tup xs))
def Jq(t:TA):TE:=fun σ H Q=>t σ H λxs H1=>xs.length<=dL /\ ∀p,H1 p=Y->Q (.ref p) (upd H1 p (.lst xs))
theorem E3{x1}(h:PA X es t):PE X (.Tuple es x1 pos) (Jh t):=by
 intro ag s σ H Q I f;refine wpAny_Tuple_spliced (fD (h pos ag s σ H _ I f) λg a ⟨xs,H1,c,r,z,q⟩=>⟨by rw[<- r.length];exact z,?_⟩);have d:H1 a.heap.objs.size=Y:=c.hok.fresh (nR1 _);refine⟨.ref a.heap.objs.size,upd H1 a.heap.objs.size (.tup xs),c.laid (t':=a.toks) (λb u e=>hP1 _ e) (nR1 _) ?_,O,q _ d⟩;exact⟨z,g,r,⟨_,hS1 _ O,O,_,O⟩⟩
theorem E7(h:PA X es t):PE X (.List es pos) (Jq t):=by
 intro ag s σ H Q I f;refine wpAny_List_spliced (fD (h pos ag s σ H _ I f) λg a ⟨xs,H1,c,r,z,q⟩=>⟨by rw[<- r.length];exact z,?_⟩);have d:H1 a.heap.objs.size=Y:=c.hok.fresh (nR1 _);refine⟨.ref a.heap.objs.size,upd H1 a.heap.objs.size (.lst xs),c.laid (t':=a.toks) (λb u e=>hP1 _ e) (nR1 _) ?_,O,q _ d⟩;exact⟨z,g,0,r,hS1 _ O⟩
end
abbrev Sp:=List V->Hp->VK->XK->Prop
abbrev yZ:=List Env->Hp->dD->XK->dB->dD->Prop
structure DE (P:dF)(w:dH)(K:Fg1)(mg:Str->Option dB)(base:dP)(A:dG)(outer:List Env)(s:dD)(H:Hp):Prop where
 frames:A.frames=some outer
 mod:Mod K mg base
 bs:∀b o,base.get? b=some o->s.heap.get? b=some o/\H b=none
 bsz:base.objs.size<=s.heap.objs.size
 funs:s.heap.FunFrames base outer
 frf:∀b∈frs outer,H b=none
 hok:lF P w H s.heap
 bare:AllBare s.gens
def CE(outer:List Env)(P:dF)(w:dH)(H:Hp)(s:dD)(Q:VK)(u:dB)(s':dD):Prop:=
 ∃v H',s'.os=s.os/\AllBare s'.gens/\Un (frs outer) [] H H' s.heap s'.heap/\lF P w H' s'.heap/\d8 v u/\Q v H'
def CR(CX:yZ)(outer:List Env)(P:dF)(w:dH)(H:Hp)(s:dD)(Q:VK)(E:XK)(r:Result)(s':dD):Prop:=
 match r with
 | .ok (.ret u)=>CE outer P w H s Q u s'
 | .ok _=>False
 | .error e=>CX outer H s E e s'
structure l8 (P:dF)(w:dH)(K:Fg1)(mg:Str->Option dB)(base:dP)(CX:yZ)(k:Nat)(f:dE)(fd:dQ)(ps:List Str)(sp:Sp):Prop where
 len:∀vs H Q E,sp vs H Q E->vs.length=ps.length
 run:∀(A:dG) (outer:List Env) (s:dD) (H:Hp) (args:Args) (us:List dB) (vs:List V) (Q:VK) (E:XK),fR k A->DE P w K mg base A outer s H->BindsTo s fd args (ps.zip us)->eE vs us->sp vs H Q E ->
  dN (model P w) A (.call (.ref f) args) (CR CX outer P w H s Q E) s
section
variable{ag:List (dE×Obj)}{σ:St}{H:Hp}{s s':dD}
theorem Inv.env0(I:Inv X ag σ H s):DE X.prog X.w X.K X.mg X.base X.A X.stack s H:=
 ⟨I.ok.frames,I.ok.mod,I.bs,aC I.ok.bsz I.sz,I.stack,I.stkFree,I.hok,I.bare⟩
theorem Inv.after{Q:VK}{u:dB}(I:Inv X ag σ H s)(h:CE X.stack X.prog X.w H s Q u s'):EP X ag σ Q u s':=by
 obtain⟨v,H',i,a,un,c,r,q⟩:=h;obtain⟨f,g,d,t,e⟩:=s';obtain rfl:e=s.os:=i;exact⟨v,H',I.call (h':=f) (g':=g) (d':=d) (t':=t) (ch:=[]) un c a (λb z=>absurd z (by simp)),r,q⟩
end
noncomputable def Hb(sp:Sp)(dvs:List V)(E:XK)(t:TA):TE:=fun σ H Q=>t σ H λvs H1=>sp (vs++dvs) H1 Q E
def lG(K:Fg1)(fd:dQ)(ps:List Str)(ds:List dB):Prop:=
 ∀(s:dD) (us:List dB),K.In s.heap->(us++ds).length=ps.length->BindsTo s fd ⟨us,[]⟩ (ps.zip (us++ds))
theorem lG.all{K:Fg1}{fd:dQ}{ps:List Str}(h:∀a:List dB,a.length=ps.length->bindArgs fd ⟨a,[]⟩=pure (ps.zip a)):lG K fd ps []:=λs a _ b=>by
 rw[aM]at b ⊢;exact .of_eq (h a b)
def vK(CX:yZ)(X:Cx)(E:XK):Prop:=∀(ag:List (dE×Obj)) (σ:St) (H:Hp) (s:dD) (e:dB) (s':dD),Inv X ag σ H s->CX X.stack H s E e s'->X.xe e s'
section
variable{CX:yZ}{k:Nat}{f C:dE}{fd:dQ}{ps:List Str}{sp:Sp}{dvs:List V}{ds:List dB}{E:XK}{x m:Str}{p pos apos:Pos}{e o:Expr}{es:List Expr}{ta:TE}{t:TA}
theorem EH{ag:List (dE×Obj)}{σ:St}{H:Hp}{s:dD}{Q:VK}{a:List dB}{vs:List V}(F:l8 X.prog X.w X.K X.mg X.base CX k f fd ps sp)(hr:fR k X.A)(hb:lG X.K fd ps ds)(hd:eE dvs ds)(hx:vK CX X E)(I:Inv X ag σ H s)(r:eE vs a)(h:sp (vs++dvs) H Q E):dM (model X.prog X.w) X.A (call (.ref f) a) (EP X ag σ Q) X.xe s:=by
 have r2:eE (vs++dvs) (a++ds):=r.append hd;have d:(a++ds).length=ps.length:=by rw[<- r2.length];exact F.len _ _ _ _ h
 refine wpAny_call (codeAny_mono (F.run X.A X.stack s H ⟨a,[]⟩ (a++ds) (vs++dvs) Q E hr I.env0 (hb s a I.kIn d) r2 h) λr s' b=>?_);cases r with
 |error e=>exact hx ag σ H s e s' I b
 |ok c=>
  cases c with
  |ret u=>exact I.after b
  |next=>exact False.elim b
  |brk=>exact False.elim b
  |cont=>exact False.elim b
theorem Cq (F:l8 X.prog X.w X.K X.mg X.base CX k f fd ps sp)(hr:fR k X.A)(hg:Gl X x)(hm:X.mg x=some (.ref f))(hk:wK1 X.K (.ref f)=true)(hb:lG X.K fd ps ds)(hd:eE dvs ds)(hx:vK CX X E)
  (ha:PA X (e::es) t) (hdb:autoParam ((x == ("__debug__":Str))=J) bu0) (he:autoParam (dJ (e::es) X.env=(J,eval e X.env)::dJ es X.env) au0) (hpl:autoParam ((backTo pos (dJ es X.env)).any (·.1)=J) au0):
  PE X (.Call (.Name x p) (e::es) [] pos) (Hb sp dvs E t):=by
 intro ag s σ H Q I h;refine wpAny_Call_Name_kw (wH I hg hm ?_ hdb);refine PySem.W.callWith_K (h₀:=X.base) I.ok.mod.kin hk (fD (ha pos ag s σ H _ I h) λb c ⟨vs,H1,a,r,q⟩=>⟨a.kIn,?_⟩) he hpl;exact EH F hr hb hd hx a r q
end
section
variable{CX:yZ}{k:Nat}{f C:dE}{fd:dQ}{ps ks:List Str}{sp:Sp}{E:XK}{x m:Str}{p pos apos kpos:Pos}{e o:Expr}{es:List Expr}{kws:List Keyword}{te ta:TE}{t tk:TA}{nm:Option Str}
variable{g:List dB->List dB->List dB}{gV:List V->List V->List V}
end
structure gu (N P:List Str)(sc:dS):Prop where
 kind:sc.kind = .function
 co:sc.isCoroutine=false
 gen:sc.isGenerator=false
 nd:N.Nodup
 pre:N.take P.length=P
 par:∀x∈P,sc.names.lookup x=some .local\/sc.names.lookup x=some .cell
 nofree:∀y∈sc.names,y.2 ≠ .free
theorem ql{kindOf:Str->Option NameKind}{x:Str}:∀{binds:List (Str×dB)} {m:Str->Option dB},(∀v,(x,v)∉binds)->bindL kindOf binds m x=m x
 |[],_,_=>rfl
 |(n,v)::r,m,h=>by
  unfold bindL;rw[ql λw a=>h w (mC1 _ a)];split
  ·have:x≠n:=by rintro rfl;exact h v mS1
   simp[this]
  ·rfl
theorem qo{kindOf:Str->Option NameKind}{x:Str}:∀{binds:List (Str×dB)} {m:Str->Option dB},(∀v,(x,v)∉binds)->bindC kindOf binds m x=m x
 |[],_,_=>rfl
 |(n,v)::r,m,h=>by
  unfold bindC;rw[qo λw a=>h w (mC1 _ a)];split
  ·rfl
  ·have:x≠n:=by rintro rfl;exact h v mS1
   simp[this]
theorem qm{kindOf:Str->Option NameKind}{x:Str}{v:dB}:∀ {P:List Str} {vs:List dB} {i:Nat} {m:Str->Option dB},P.Nodup->P[i]? = some x->vs[i]? = some v->kindOf x=some .local ->
  bindL kindOf (P.zip vs) m x=Z v
 |[],_,_,_,_,h,_,_=>by simp at h
 |_::_,[],_,_,_,_,h,_=>by simp at h
 |p::P,w::vs,0,m,nd,h1,h2,hk=>by
  simp at h1 h2;subst h1;subst h2;show bindL kindOf ((p,w)::P.zip vs) m p=_;unfold bindL;rw[ql λv a=>(aN.mp nd).1 (List.of_mem_zip a).1,ak hk];simp
 |p::P,w::vs,i+1,m,nd,h1,h2,hk=>by
  show bindL kindOf ((p,w)::P.zip vs) m x=_;unfold bindL;exact qm (i:=i) (aN.mp nd).2 (by simpa using h1) (by simpa using h2) hk
theorem qp{kindOf:Str->Option NameKind}{x:Str}{v:dB}:∀ {P:List Str} {vs:List dB} {i:Nat} {m:Str->Option dB},P.Nodup->P[i]? = some x->vs[i]? = some v->kindOf x≠some .local ->
  bindC kindOf (P.zip vs) m x=Z v
 |[],_,_,_,_,h,_,_=>by simp at h
 |_::_,[],_,_,_,_,h,_=>by simp at h
 |p::P,w::vs,0,m,nd,h1,h2,hk=>by
  simp at h1 h2;subst h1;subst h2;show bindC kindOf ((p,w)::P.zip vs) m p=_;unfold bindC;rw[qo λv a=>(aN.mp nd).1 (List.of_mem_zip a).1,aj hk];simp
 |p::P,w::vs,i+1,m,nd,h1,h2,hk=>by
  show bindC kindOf ((p,w)::P.zip vs) m x=_;unfold bindC;exact qp (i:=i) (aN.mp nd).2 (by simpa using h1) (by simpa using h2) hk
noncomputable def jg(N:List Str)(vs:List V):St:=vs.map Z++aO (N.length-vs.length) Y
noncomputable def mS(CX:yZ)(P:dF)(w:dH)(K:Fg1)(mg:Str->Option dB)(base:dP)(N:List Str)(qual:Str)(scope:dS)(f:dE)(cd:dB)(A:dG)(outer:List Env)(s:dD)(H:Hp)(E:XK):Cx where
 prog:=P
 w:=w
 K:=K
 mg:=mg
 base:=base
 A:=A.deeper (envOfC qual scope s.heap.objs.size f cd)
 N:=N
 s₀:=s
 H₀:=H
 env:=envOfC qual scope s.heap.objs.size f cd
 outer:=outer
 stack:=envOfC qual scope s.heap.objs.size f cd::outer
 ex:=[]
 calm:=M
 fn:=λ_=>M
 pn:=[]
 xe:=λe s'=>dM (model P w) (A.deeper (envOfC qual scope s.heap.objs.size f cd)) (leaving (envOfC qual scope s.heap.objs.size f cd) e) (λ_ s''=>CX outer H s E e s'') (λe' s''=>CX outer H s E e' s'') s'
theorem ux{a:dS}{n:Nat}{x:Str}(h:a.names.lookup x=Z .cell):∃c,(cellsFrom n a.names []).lookup x=Z c:=by
 have q:=PySem.W.cellsFrom_some a.names n [] (.inl h);exact aP.mp q
theorem x5{CX:yZ}{P:dF}{w:dH}{K:Fg1}{mg:Str->Option dB}{base:dP}{N ps:List Str}{g:Str}{scope:dS}{f:dE}{B:dB}{A:dG}{d:List Env}{s s1:dD}{H:Hp}{E:XK}{C:List dB}{vs:List V}(S:gu N ps scope)(hd:A.handled=none)(j:DE P w K mg base A d s H)(L:vs.length=ps.length)(r:eE vs C)(x:InCallC s s.heap.objs.size (bindL (envOfC g scope s.heap.objs.size f B).kindOf (ps.zip C) fun _=>none) (cellsFrom (s.heap.objs.size+1) scope.names []) (bindC (envOfC g scope s.heap.objs.size f B).kindOf (ps.zip C) fun _=>none) s1):
  Inv (mS CX P w K mg base N g scope f B A d s H E) [] (jg N vs) H s1:=by
 have am:ps.length<=N.length:=by have:=congrArg List.length S.pre;rw[aQ]at this;lia
 obtain⟨h1,tk,rfl,F⟩:=x.done;have l:∀b:dE,b∉(mS CX P w K mg base N g scope f B A d s H E).ex:=λb z=>absurd (show b∈([]:List dE)from z) (by simp);refine⟨⟨j.mod,S.kind,O,O,nR1 _,λy z c h1 h2=>?_,λy m=>?_,λy c _ h=>?_,λ_=>hd,Around.frames_deeper j.frames,.inr ⟨O,O⟩,λb z=>absurd z (l b),j.bs,j.bsz,λb _ _=>l b,λb z=>absurd z (l b),j.funs,j.frf⟩,
  rfl,j.bare,Un.kept F,⟨_,x.toInCall.ns,λi y v h1 h2 ao=>?_⟩,λy c h=>⟨_,x.cell y c h⟩,j.hok.fresh (nR1 _),λy c h=>?_,λp o=>absurd (show p∈([]:List (dE×Obj))from o) (by simp),j.hok.kept F,?_⟩
 ·exact name_of_addr x.apart (PySem.mem_of_lookup h1) (PySem.mem_of_lookup h2)
 ·have m:scope.names.lookup y=Z .cell\/scope.names.lookup y=Z .free:=m;rcases m with m|m
  ·exact ux m
  ·exact absurd O (S.nofree _ (PySem.mem_of_lookup m))
 ·exact aD (x.above y c (PySem.mem_of_lookup h))
 ·have hi:i<vs.length:=by
   unfold jg at h2;by_cases hi:i<vs.length
   ·exact hi
   ·rw[gR1 (by simpa using hi)]at h2;rw[aR]at h2;split at h2<;>cases h2
  have G:vs[i]?=Z v:=by
   unfold jg at h2;rw[gL1 (by simpa using hi),gP1]at h2;cases e:vs[i]? with
   |none=>rw[e]at h2;cases h2
   |some a=>rw[e]at h2;cases h2;rfl
  obtain⟨u,D,I⟩:=r.get G;have o:ps[i]?=Z y:=by
   rw[<- S.pre,aS (by lia)];exact h1
  have t:ps.Nodup:=by rw[<- S.pre];exact S.nd.sublist (aT _ _)
  refine⟨u,I,?_⟩;rcases S.par y (gM1 o)with k|k
  ·exact .inl ⟨k,qm t o D k⟩
  ·obtain⟨c,e⟩:=ux (n:=s.heap.objs.size+1) k;refine .inr ⟨.inl k,c,e,?_⟩;have q:=x.cell y c e;rw[qp t o D (by show scope.names.lookup y≠_;rw[k];decide)]at q;exact q
 ·exact j.hok.fresh (aD (x.above y c (PySem.mem_of_lookup h)))
 ·unfold jg;show _=N.length;rw[lA1,lM1,lR1];lia
theorem Ic{CX:yZ}{P:dF}{w:dH}{K:Fg1}{mg:Str->Option dB}{base:dP}{k:Nat}{f:dE}{name c:Str}{params:Arguments}{g:List dR}{scope:dS}{ao kV z au d ct oc:dB}{T od:Option dE}{G:Array (Option dB)}{N ps:List Str}{sp:Sp}(W:K.lookup f=some ⟨oc,od,.func (wF1 name c params g scope ao kV z au T d ct),G⟩)(hcd:wC1 K d c=true)(S:gu N ps scope)(len:∀vs H Q E,sp vs H Q E->vs.length=ps.length)(j:∀(A:dG) (a:List Env) (s:dD) (H:Hp) (vs:List V) (Q:VK) (E:XK),fR k (A.deeper (envOfC c scope s.heap.objs.size f d))->sp vs H Q E ->
   ∃t,uL (mS CX P w K mg base N c scope f d A a s H E) g t/\t {nx:=λ_ H'=>Q .non H',rt:=Q} (jg N vs) H):
  l8 P w K mg base CX (k+1) f (wF1 name c params g scope ao kV z au T d ct) ps sp:=by
 refine⟨len,λA a s H R us vs Q E F p X r m=>?_⟩;have hl:=len _ _ _ _ m;have L:K.In s.heap:=p.mod.kin.keeps λb o e=>(p.bs b o e).1;have C:s.heap.NoLimit:=p.mod.nolimit.keeps λb o e=>(p.bs b o e).1;have i:∀y∈ps.zip us,scope.names.lookup y.1=Z .local\/(scope.names.lookup y.1=Z .cell/\((cellsFrom (s.heap.objs.size+1) scope.names []).lookup y.1).isSome=M):=λ⟨n,v⟩ aq=>by
  rcases S.par n (List.of_mem_zip aq).1 with q|q
  ·exact .inl q
  ·exact .inr ⟨q,PySem.W.cellsFrom_some _ _ _ (.inl q)⟩
 refine codeAny_call_function F.depth (L _ _ W) O S.co S.gen O (PySem.W.codeRec_of L hcd) (X _ _ _ _ ?_);refine wpAny_newFunctionEnv_cells S.kind i λwq U s1 x=>?_;subst U;refine⟨C.keeps x.toInCall.keep,codeAny_func ?_⟩;obtain⟨t,ht,hq⟩:=j A a s H vs Q E (F.deeper _) m;have I:Inv (mS CX P w K mg base N c scope f d A a s H E) [] (jg N vs) H s1:=x5 S F.hd p hl r x;refine wpAny_mono (ht [] s1 (jg N vs) H _ I hq) (λfl s' l=>?_) λe s' l=>l;have B:∀{h:St} {H':Hp} {v:V} {u:dB},Inv (mS CX P w K mg base N c scope f d A a s H E) [] h H' s'->d8 v u->Q v H'->CE a P w H s Q u s':=
  λ{h H' v u} am D q=>⟨v,H',am.os,am.bare,am.base,am.hok,D,q⟩
 cases fl with
 |ret u=>
  obtain⟨v,h,H',am,D,q⟩:=l;exact B am D q
 |next=>
  obtain⟨h,H',am,q⟩:=l;exact B (v:=V.non) (u:=Value.none) am O q
 |brk=>
  obtain⟨_,_,_,q⟩:=l;exact False.elim q
 |cont=>
  obtain⟨_,_,_,q⟩:=l;exact False.elim q
section
variable{x:Str}{p pos:Pos}{e:Expr}{es:List Expr}{t:TA}{id T:String}{r:List V->Hp->VK->Prop}
def Kj(r:List V->Hp->VK->Prop)(t:TA):TE:=fun σ H Q=>t σ H λvs H1=>r vs H1 Q
theorem tf (hc:fj X (.builtin id) r)(hg:Gl X x)(hm:X.mg x=none)(hv:bootBuiltins x=some (.builtin id))(ha:PA X (e::es) t)(hn:autoParam (x≠"__name__") bu0)(hdb:autoParam ((x == ("__debug__":Str))=false) bu0)
  (he:autoParam (dJ (e::es) X.env=(J,eval e X.env)::dJ es X.env) au0) (hpl:autoParam ((backTo pos (dJ es X.env)).any (·.1)=J) au0):PE X (.Call (.Name x p) (e::es) [] pos) (Kj r t):=by
 intro ag s σ H Q I h;refine wpAny_Call_Name_kw (kh I hg hm hv ?_ hn hdb);exact PyProof.Rows.callWith_builtin1 (fD (ha pos ag s σ H _ I h) λf d ⟨vs,H1,c,b,a⟩=>hc ag d σ H1 vs f Q c b a) he hpl
theorem lN (hc:fj X (.type T) r)(hg:Gl X x)(hm:X.mg x=none)(hv:bootBuiltins x=some (.type T))(ha:PA X (e::es) t)(hn:autoParam (x≠"__name__") bu0)(hdb:autoParam ((x == ("__debug__":Str))=false) bu0)
  (he:autoParam (dJ (e::es) X.env=(J,eval e X.env)::dJ es X.env) au0) (hpl:autoParam ((backTo pos (dJ es X.env)).any (·.1)=J) au0):PE X (.Call (.Name x p) (e::es) [] pos) (Kj r t):=by
 intro ag s σ H Q I h;refine wpAny_Call_Name_kw (kh I hg hm hv ?_ hn hdb);exact PyProof.Rows.callWith_type1 (fD (ha pos ag s σ H _ I h) λf d ⟨vs,H1,c,b,a⟩=>hc ag d σ H1 vs f Q c b a) he hpl
end
end L2
namespace HT
open PySem PyProof.Rows
section
open PySem.SeqAt
open PySem.AutoSeq1 (wpAny_loadPart')
open PySem.MeetsSeq PySem.MeetsSeq2 PySem.MeetsSeq3
end
section
variable{prog:dF}{w:dH}{A:dG}{E:dB->dD->Prop}{s:dD}
theorem Dq {t b:dE}{vs ws:List dB}{Q:dB->dD->Prop}(ht:IsTup s.heap t vs.toArray)(hb:IsTup s.heap b ws.toArray)(hv:vs≠[])
  (h1:ws=[]->Q (.ref t) s) (h2:ws≠[]->Q (.ref s.heap.objs.size) {s with heap:=s.heap.push {cls:=.type "tuple",data:=.seq (vs++ws).toArray}})
  (hsz:vs.length+ws.length<=dL):dM (model prog w) A (binaryOp .Add (.ref t) (.ref b)) Q E s:=by
 obtain⟨⟨cls,p,data,m⟩,i,hc,n,l⟩:=id ht;obtain⟨⟨o,g,j,c⟩,a,f,k,d⟩:=id hb;simp only at hc l f d;subst hc l f d;have e:vs.toArray++ws.toArray=(vs++ws).toArray:=by simp
 by_cases h:ws=[]
 ·exact concat_meets ⟨_,i,rfl⟩ ⟨_,a,rfl⟩ noFill_tuple_add seq_tuple_add PySem.F.slot_tuple_add PySem.F.entry_tuple_add (PySem.F.args_tuple_add_2 _ _)
   (tuple_addW1 t b vs.toArray ws.toArray n k p g m c (by simpa using hv) (by simp[h])) ⟨i,a,h1 h⟩
 ·refine concat_meets ⟨_,i,rfl⟩ ⟨_,a,rfl⟩ noFill_tuple_add seq_tuple_add PySem.F.slot_tuple_add PySem.F.entry_tuple_add (PySem.F.args_tuple_add_2 _ _)
   (tuple_addW2 t b vs.toArray ws.toArray n k p g m c (by simpa using hv) (by simpa using h) (by rw[sT1,sT1];exact hsz)) ⟨i,a,?_⟩
  rw[e];exact h2 h
noncomputable def sIx(n d:Nat):Option Int->Nat
 |none=>d
 |some v=>if v<0 then(v+(n:Int)).toNat else min v.toNat n
theorem zy(n d:Nat):sIx n d Y=d:=rfl
theorem B3(n d k:Nat):sIx n d (Z (k:Int))=min k n:=by
 show(if(k:Int)<0 then((k:Int)+(n:Int)).toNat else min (k:Int).toNat n)=min k n;rw[aj (by lia),Int.toNat_natCast]
theorem EG(n d:Nat)(hd:d<=n)(o:Option Int):sIx n d o<=n:=by
 cases o with
 |none=>exact hd
 |some v=>
  show(if v<0 then(v+(n:Int)).toNat else min v.toNat n)<=n;by_cases a:v<0
  ·rw[ak a];lia
  ·rw[aj a];exact Nat.min_le_right _ _
theorem xc(v:Int)(n d:Nat):(if v<0 then max (v+(n:Int)) 0 else min v (n:Int))=((sIx n d (Z v):Nat):Int):=by
 show(if v<0 then max (v+(n:Int)) 0 else min v (n:Int))=(((if v<0 then(v+(n:Int)).toNat else min v.toNat n):Nat):Int);by_cases a:v<0
 ·simp only[ak a];lia
 ·simp only[aj a];lia
theorem vG(lo hi:Option Int)(n:Nat):Builtin.Slice.sliceAdjust lo hi 1 (n:Int)=(((sIx n 0 lo:Nat):Int),((sIx n n hi:Nat):Int)):=by
 have h1:¬ ((1:Int)<0):=by lia
 unfold Builtin.Slice.sliceAdjust;simp only[h1,if_false];refine Prod.ext ?_ ?_
 ·cases lo with
  |none=>rfl
  |some v=>exact xc v n 0
 ·cases hi with
  |none=>rfl
  |some v=>exact xc v n n
theorem u8(i j:Nat):Builtin.Slice.slicePlaces (i:Int) (j:Int) 1=j-i:=by
 unfold Builtin.Slice.slicePlaces;have h1:(1:Int)>0:=by lia
 simp only[h1,if_true,Int.ediv_one];split<;>lia
theorem nz{v:dB}{o:Option Int}{Q:Option Int->dD->Prop}(p:IsPart v o)(h:Q o s):dM (model prog w) A (Builtin.Slice.slicePartIndex v) Q E s:=by
 cases p with
 |none=>exact slicePart_none h
 |int i t=>exact slicePart_int h
theorem iD{sl:dE}{c vu:dB}{lo hi:Option Int}{n:Nat}{Q:Int×Int×Nat->dD->Prop}(hs:s.heap.IsSliceOf sl c vu .none)(pl:IsPart c lo)(d:IsPart vu hi)(h:Q (((sIx n 0 lo:Nat):Int),1,sIx n n hi-sIx n 0 lo) s):dM (model prog w) A (Builtin.Slice.sliceApplied (.ref sl) (pure (n:Int))) Q E s:=by
 obtain⟨f,a,e,b⟩:=id hs;unfold Builtin.Slice.sliceApplied Builtin.Slice.sliceFields;refine wB1 (wB1 (wpAny_field a b (x:=c) O (wB1 (wpAny_field a b (x:=vu) O (wB1 (wpAny_field a b (x:=.none) O (wP1 ?_)))))));refine wB1 (slicePart_none ?_);show dM _ _ (if((1:Int) == 0)=M then _ else _) _ _ s;rw[aj (by decide)];refine wB1 (nz pl (wB1 (nz d (wB1 (wP1 ?_)))));show dM _ _ (match Builtin.Slice.sliceAdjust lo hi 1 (n:Int)with|(lo,hi)=>pure (lo,(1:Int),Builtin.Slice.slicePlaces lo hi 1)) _ _ s;rw[vG lo hi n];show dM _ _ (pure (((sIx n 0 lo:Nat):Int),(1:Int),Builtin.Slice.slicePlaces ((sIx n 0 lo:Nat):Int) ((sIx n n hi:Nat):Int) 1)) _ _ s;rw[u8];exact wP1 h
theorem zV(xs:Array dB)(i k:Nat):((af k).filterMap λ(m:Nat)=>xs[((i:Int)+(m:Int)*1).toNat]?).toArray=((xs.toList.drop i).take k).toArray:=by
 have e:(λ(m:Nat)=>xs[((i:Int)+(m:Int)*1).toNat]?)=λm=>xs[i+m]?:=by
  funext m
  have:((i:Int)+(m:Int)*1).toNat=i+m:=by lia
  rw[this]
 rw[e];have:=pick_run xs i k;rw[List.filterMap_map]at this;have a:((λx=>xs[x]?)∘λx=>i+x)=λm=>xs[i+m]?:=rfl;rw[a]at this;rw[this]
theorem lf {t sl:dE}{items:Array dB}{f vu:dB}{lo hi:Option Int}{Q:dB->dD->Prop}(ht:IsTup s.heap t items)(hs:s.heap.IsSliceOf sl f vu .none)(pl:IsPart f lo)(i:IsPart vu hi)
  (hw:¬ (sIx items.size 0 lo=0/\sIx items.size items.size hi=items.size))
  (h:Q (.ref s.heap.objs.size) {s with heap:=s.heap.push {cls:=.type "tuple",data:=.seq ((items.toList.drop (sIx items.size 0 lo)).take (sIx items.size items.size hi-sIx items.size 0 lo)).toArray}})
  (hsz:items.size<=dL):dM (model prog w) A (getItem (.ref t) (.ref sl)) Q E s:=by
 have a:sizeOk (.seq ((items.toList.drop (sIx items.size 0 lo)).take (sIx items.size items.size hi-sIx items.size 0 lo)).toArray):=by
  show((items.toList.drop (sIx items.size 0 lo)).take (sIx items.size items.size hi-sIx items.size 0 lo)).toArray.size<=dL;rw[sT1,aQ,aU,aJ];omega
 have n:sIx items.size items.size hi<=items.size:=EG _ _ (nR1 _) hi;obtain⟨j,b,e,g⟩:=id hs;have c:s.TypeIs (.ref sl) "slice":=⟨j,b,e⟩;unfold getItem
 try with_reducible refine wpAny_holding ?_
 first|refine wB1 (wP1 ?_)|skip
 refine wB1 (wpAny_sequenceKey ht.typeIs (by decide) ?_);refine wB1 (wpAny_callSpecial?_slot (name:=Str.ofString "__getitem__") ht.typeIs PyProof.Rows.slot_tuple_getitem
  (wE1 PyProof.Rows.slot_tuple_getitem ht.typeIs entry_tuple_getitem ?_ (args_tuple_getitem _ _)))
 show dM _ _ (Builtin.Tuple.tupleItemsOf (.ref t) >>= _) _ _ s;refine wB1 (tupleItemsOf_ ht ?_);refine wB1 (wpAny_typeOf c ?_);rw[ak (by decide)];refine wB1 (iD hs pl i ?_);have d:¬ ((((sIx items.size 0 lo:Nat):Int) == 0&&(1:Int) == 1&&(sIx items.size items.size hi-sIx items.size 0 lo) == items.size)=M):=by
  intro q;rw[bA1,bA1]at q;have k:((sIx items.size 0 lo:Nat):Int)=0:=eq_of_beq q.1.1;have l:sIx items.size items.size hi-sIx items.size 0 lo=items.size:=eq_of_beq q.2;exact hw ⟨by omega,by omega⟩
 show dM _ _ (if(((sIx items.size 0 lo:Nat):Int) == 0&&(1:Int) == 1&&(sIx items.size items.size hi-sIx items.size 0 lo) == items.size)=M then _ else _) _ _ s;rw[aj d,zV]
 first
  |exact wB1 (m:=Builtin.Tuple.tupleExact _) (wO1 (wP1 ⟨_,rfl,wP1 h⟩) a)
  |exact wB1 (m:=Builtin.Tuple.tupleExact _) (wO1 (wB1 (wP1 (wP1 ⟨_,rfl,wP1 h⟩))) a)
  |exact wB1 (wB1 (m:=Builtin.Tuple.tupleExact _) (wO1 (wP1 (wP1 ⟨_,rfl,wP1 h⟩)) a))
  |exact wB1 (wB1 (m:=Builtin.Tuple.tupleExact _) (wO1 (wP1 ⟨_,rfl,wP1 h⟩) a))
end
end HT
namespace L2
open PySem PySem.Spec PyProof.Rows
abbrev TO:=St->Hp->(Option Int->Hp->Prop)->Prop
def PO(X:Cx)(e:Option Expr)(t:TO):Prop:=
 ∀(ag:List (dE×Obj)) (s:dD) (σ:St) (H:Hp) (Q:Option Int->Hp->Prop),Inv X ag σ H s->t σ H Q ->
  dM (model X.prog X.w) X.A (evalPart e X.env) (λu s'=>∃o H',Inv X ag σ H' s'/\IsPart u o/\Q o H') X.xe s
noncomputable def BY:TO:=λ_ H Q=>Q Y H
noncomputable def G0(t:TE):TO:=fun σ H Q=>t σ H λx H1=>∃i,x = .int i/\Q (Z i) H1
variable{X:Cx}
section
variable{e:Expr}{te:TE}{lo hi:Option Expr}{tl th:TO}{pos p2:Pos}
theorem Ch:PO X Y BY:=by
 intro ag s σ H Q I h;rw[evalPart_none];exact wP1 ⟨Y,H,I,.none,h⟩
theorem Cg(h:PE X e te):PO X (Z e) (G0 te):=by
 intro ag s σ H Q I c;rw[evalPart_some];refine fD (h ag s σ H _ I c) λu f ⟨x,H1,d,b,a⟩=>?_;obtain⟨i,rfl,q⟩:=a;obtain⟨t,rfl⟩:=b;exact⟨Z i,H1,d,.int i t,q⟩
def BI(X:Cx)(r:V->Option Int->Option Int->Hp->VK->Prop):Prop:=
 ∀(ag:List (dE×Obj)) (s:dD) (σ:St) (H:Hp) (x:V) (v vl vu:dB) (lo hi:Option Int) (sl:dE) (Q:VK),Inv X ag σ H s->d8 x v->s.heap.IsSliceOf sl vl vu .none->IsPart vl lo->IsPart vu hi->r x lo hi H Q ->
  ∃T id,typeLookup (.type T) "__getitem__"=pure (Z (.builtin id))/\s.TypeIs v T/\dM (model X.prog X.w) X.A (getItem v (.ref sl)) (EP X ag σ Q) X.xe s
theorem BI.or{r b:V->Option Int->Option Int->Hp->VK->Prop}(h:BI X r)(h':BI X b):BI X (λx lo hi H Q=>r x lo hi H Q\/b x lo hi H Q):=by
 intro ag s σ H x v a vu lo hi e Q I f c pl d q;rcases q with q|q
 ·exact h ag s σ H x v a vu lo hi e Q I f c pl d q
 ·exact h' ag s σ H x v a vu lo hi e Q I f c pl d q
def KH(r:V->Option Int->Option Int->Hp->VK->Prop)(te:TE)(tl th:TO):TE:=fun σ H Q=>te σ H λx H1=>tl σ H1 λl H2=>th σ H2 λu H3=>r x l u H3 Q
theorem zY{r:V->Option Int->Option Int->Hp->VK->Prop}(hr:BI X r)(he:PE X e te)(z:PO X lo tl)(g:PO X hi th):PE X (.Subscript e (.Slice lo hi Y p2) pos) (KH r te tl th):=by
 intro ag s σ H Q I h;refine Subscript_ (fD (he ag s σ H _ I h) λv k ⟨x,H1,A,i,n⟩=>?_);refine wpAny_Slice (fD (z ag k σ H1 _ A n) λc j ⟨l,H2,m,pl,f⟩=>fD (g ag j σ H2 _ m f) λvu a ⟨u,d,w,t,C⟩=>?_);rw[evalPart_none];refine wP1 ?_;have y:Inv X ag σ d {a with heap:=a.heap.push {cls:=.type "slice",data:=.fields #[c,vu,.none]}}:=w.kept (t':=a.toks) λb D q=>hP1 _ q;obtain⟨T,id,o,p,B⟩:=hr ag {a with heap:=a.heap.push {cls:=.type "slice",data:=.fields #[c,vu,.none]}} σ d x v c vu l u a.heap.objs.size Q y i (Heap.IsSliceOf.new ..) pl t C;show dM (model X.prog X.w) X.A (subscriptTail e (.Slice lo hi Y p2) v (.ref a.heap.objs.size)) (EP X ag σ Q) X.xe {a with heap:=a.heap.push {cls:=.type "slice",data:=.fields #[c,vu,.none]}};exact tail_any (ops:=[.ref a.heap.objs.size,v]) p o B (by with_unfolding_all rfl)
def uu(xs:List V)(lo hi:Option Int):List V:=(xs.drop (HT.sIx xs.length 0 lo)).take (HT.sIx xs.length xs.length hi-HT.sIx xs.length 0 lo)
theorem mH(xs:List V)(lo hi:Option Int):(uu xs lo hi).length<=xs.length:=by
 unfold uu;rw[aQ,aU];lia
def JE(K:Fg1):V->Option Int->Option Int->Hp->VK->Prop:=λx lo hi H Q=>∃a xs,x = .ref a/\kr K H a xs /\
 ¬ (HT.sIx xs.length 0 lo=0/\HT.sIx xs.length xs.length hi=xs.length) /\ ∀p,H p=Y->Q (.ref p) (upd H p (.tup (uu xs lo hi)))
theorem EA:BI X (JE X.K):=by
 intro ag s σ H x v m vu lo hi p Q I l g pl k h;obtain⟨a,xs,rfl,i,j,q⟩:=h;cases l;obtain⟨d,r,e,f⟩:=I.tuple i;have c:d.toArray.size=xs.length:=by rw[sT1];exact r.length.symm
 refine⟨"tuple",_,PyProof.Rows.slot_tuple_getitem.lookup,e.typeIs,?_⟩;refine HT.lf e g pl k (by rw[c];exact j) ?_ (by rw[c];exact f);rw[c];refine⟨.ref s.heap.objs.size,_,I.laid (t':=s.toks) (o:=.tup (uu xs lo hi)) (λb n q=>hP1 _ q) (nR1 _) ?_,O,q _ (I.hok.fresh (nR1 _))⟩;exact⟨aC (mH xs lo hi) f,_,(r.drop (HT.sIx xs.length 0 lo)).take (HT.sIx xs.length xs.length hi-HT.sIx xs.length 0 lo),IsTup.new _ _⟩
def Hk(K:Fg1):R2:=λx y H Q=>∃a b xs ys,x = .ref a/\y = .ref b/\kr K H a xs/\kr K H b ys/\xs≠[]/\xs.length+ys.length<=dL /\
 (ys=[]->Q (.ref a) H)/\(ys≠[] -> ∀p,H p=Y->Q (.ref p) (upd H p (.tup (xs++ys))))
theorem eE.nil_iff{xs:List V}{a:List dB}(r:eE xs a):a=[]↔xs=[]:=by
 cases r with
 |nil=>simp
 |cons _ _=>simp
theorem Ct:gt X (binaryOp .Add) (Hk X.K):=by
 intro ag s σ H x y v u Q I n p h;obtain⟨a,b,xs,ys,rfl,rfl,i,j,k,d,f,g⟩:=h;cases n;cases p;obtain⟨l,c,m,_⟩:=I.tuple i;obtain⟨e,r2,p2,_⟩:=I.tuple j;refine HT.Dq m p2 (λz=>k (c.nil_iff.mp z)) (λz=>⟨.ref a,H,I,O,f (r2.nil_iff.mp z)⟩) (λz=>?_) (by rw[<- c.length,<- r2.length];exact d);refine⟨.ref s.heap.objs.size,_,I.laid (t':=s.toks) (o:=.tup (xs++ys)) (λb r q=>hP1 _ q) (nR1 _) ?_,O,g (λw=>z (r2.nil_iff.mpr w)) _ (I.hok.fresh (nR1 _))⟩;exact⟨by rw[lA1];exact d,_,c.append r2,IsTup.new _ _⟩
end
noncomputable def x4(n:Nat)(i:Int):Option Nat:=if 0<=i then(if i<n then Z i.toNat else Y)else if-(n:Int)<=i then Z (i+n).toNat else Y
def vF{α:Type}(xs:List α)(i:Int):Option α:=(x4 xs.length i).bind λj=>xs[j]?
theorem rL{n:Nat}{i:Int}{j:Nat}(h:x4 n i=Z j):seqIndex? i n=Z j/\j<n /\ -(n:Int)<=i/\i<n:=by
 unfold x4 at h;by_cases a:0<=i
 ·rw[ak a]at h;by_cases h1:i<n
  ·rw[ak h1]at h;have e:i.toNat=j:=Option.some.inj h;exact⟨by rw[seqIndex_of a h1,e],by lia,by lia,h1⟩
  ·rw[aj h1]at h;cases h
 ·rw[aj a]at h;by_cases h1: -(n:Int)<=i
  ·rw[ak h1]at h;have e:(i+n).toNat=j:=Option.some.inj h;exact⟨by rw[seqIndex_neg (by lia) h1,e],by lia,h1,by lia⟩
  ·rw[aj h1]at h;cases h
theorem xn{α:Type}{xs:List α}{i:Int}{v:α}(h:vF xs i=Z v):∃j,seqIndex? i xs.length=Z j/\xs[j]?=Z v/\j<xs.length /\ -(xs.length:Int)<=i/\i<xs.length:=by
 unfold vF at h;cases e:x4 xs.length i with
 |none=>rw[e]at h;cases h
 |some j=>
  rw[e]at h;obtain⟨h1,h2,b,a⟩:=rL e;exact⟨j,h1,h,h2,b,a⟩
def nk(b:Expr):Prop:=∀o i,subscripted b J o i=operate [o,i] (getItem o i)
def D7(X:Cx)(r:R2):Prop:=
 ∀(value slice:Expr) (ag:List (dE×Obj)) (s:dD) (σ:St) (H:Hp) (x y:V) (v u:dB) (Q:VK),Inv X ag σ H s->d8 x v->d8 y u->r x y H Q ->
  subscripted slice J v u=operate [v,u] (getItem v u)->dM (model X.prog X.w) X.A (subscriptTail value slice v u) (EP X ag σ Q) X.xe s
def D6(X:Cx)(id:String)(r:V->List V->Hp->VK->Prop):Prop:=
 ∀(ag:List (dE×Obj)) (s:dD) (σ:St) (H:Hp) (x:V) (xs:List V) (v:dB) (us:List dB) (Q:VK),Inv X ag σ H s->d8 x v->eE xs us->r x xs H Q ->
  dM (model X.prog X.w) X.A (call (.builtin id) (v::us)) (EP X ag σ Q) X.xe s
section
variable{a b:Expr}{ta tb:TE}{pos:Pos}
theorem Hq{r:R2}(hr:D7 X r)(ha:PE X a ta)(hb:PE X b tb)(hs:nk b):PE X (.Subscript a b pos) (G4 r ta tb):=by
 intro ag s σ H Q I h;exact Subscript_ (Gy ha hb I h λv u e x y H2 d c f q=>hr a b ag e σ H2 x y v u Q d c f q (hs _ _))
def JH(K:Fg1):R2:=λx y H Q=>∃p xs i v,x = .ref p/\y = .int i/\mU K H p xs/\vF xs i=Z v/\Q v H
def JG(K:Fg1):R2:=λx y H Q=>∃p xs i v,x = .ref p/\y = .int i/\kr K H p xs/\vF xs i=Z v/\Q v H
theorem C2:D7 X (JH X.K):=by
 intro value b ag s σ H x y v u Q I B C h f;obtain⟨p,xs,i,z,rfl,rfl,o,l,q⟩:=h;cases B;obtain⟨t,rfl⟩:=C;obtain⟨d,r,pl,F⟩:=I.list o;obtain⟨j,h1,h2,E,A,m⟩:=xn l;obtain⟨w,k,e⟩:=r.get h2;have n:=r.length;have D:=lS;have a:EP X ag σ Q w s:=⟨z,H,I,e,q⟩;by_cases g:0<=i
 ·have c:i.toNat=j:=by
   rw[seqIndex_of g m]at h1;exact Option.some.inj h1
  exact item_listR pl.isList g (by lia) (by rw[c];simpa using k) a f
 ·have c:(i+(d.toArray.size:Int)).toNat=j:=by
   rw[seqIndex_neg (by lia) A]at h1;rw[sT1,<- n];exact Option.some.inj h1
  exact subscriptTail_builtinR (x:=w) pl.isList.typeIs slot_list_getitem.lookup
   (wpAny_getItem_list_neg (Q:=λr s'=>r=w/\EP X ag σ Q r s') pl.isList (by lia) (by rw[sT1]<;>lia) (by lia) (by rw[c];simpa using k) ⟨O,a⟩) f
theorem Gb:D7 X (JG X.K):=by
 intro value a ag s σ H x y v u Q I l m h e;obtain⟨p,xs,i,z,rfl,rfl,k,d,q⟩:=h;cases l;obtain⟨t,rfl⟩:=m;obtain⟨g,r,pl,D⟩:=I.tuple k;obtain⟨j,h1,h2,C,B,A⟩:=xn d;obtain⟨w,n,c⟩:=r.get h2;have f:=r.length;have o:=lS;have b:EP X ag σ Q w s:=⟨z,H,I,c,q⟩;exact subscriptTail_builtinR (x:=w) pl.typeIs slot_tuple_getitem.lookup
  (getItem_tuple (j:=j) (Q:=λr s'=>r=w/\EP X ag σ Q r s') pl (by lia) (by lia) (by rw[sT1,<- f];exact h1) (by simpa using n) ⟨O,b⟩) e
theorem vj(its:List dB)(n j:Nat)(u:dB):Obj.mapSeq (·.setIfInBounds j u) {cls:=.type "list",data:=.seq its.toArray n}={cls:=.type "list",data:=.seq (its.set j u).toArray n}:=by
 simp[Obj.mapSeq]
theorem Inv.lst{ag:List (dE×Obj)}{σ:St}{H:Hp}{s:dD}{p:dE}{xs:List V}(I:Inv X ag σ H s)(h:H p=some (.lst xs)):
  ∃(its:List dB) (n:Nat),eE xs its/\s.heap.get? p=Z {cls:=.type "list",data:=.seq its.toArray n}/\xs.length<=dL:=by
 obtain⟨z,its,n,r,e⟩:=I.hok p _ h;exact⟨its,n,r,e,z⟩
theorem Inv.lstUpd {ag:List (dE×Obj)}{σ:St}{H:Hp}{s:dD}{p:dE}{xs ys:List V}{its its':List dB}{n a:Nat}{f:Obj->Obj}(I:Inv X ag σ H s)(h:H p=some (.lst xs))
  (ho:s.heap.get? p=Z {cls:=.type "list",data:=.seq its.toArray n}) (hf:f {cls:=.type "list",data:=.seq its.toArray n}={cls:=.type "list",data:=.seq its'.toArray a}) (r:eE ys its') (d:ys.length<=dL) (t:Nat):
  Inv X ag σ (upd H p (.lst ys)) {s with heap:=s.heap.update p f,toks:=t}:=by
 have e:(s.heap.update p f).get? p=Z {cls:=.type "list",data:=.seq its'.toArray a}:=by
  rw[hW1 f ho (by rw[hf]<;>rfl),hf]
 refine I.write (x:=p) (e:=p) (by rw[h];trivial) (.inl O) (λb u c q=>(Heap.get?_update_other _ _ (Ne.symm c)).trans q) ⟨_,e⟩ ?_;exact⟨d,its',a,r,e⟩
def Hj:V->V->V->Hp->(Hp->Prop)->Prop:=λo i v H Q=>∃p xs k j,o = .ref p/\i = .int k/\H p=Z (.lst xs)/\x4 xs.length k=Z j/\Q (upd H p (.lst (xs.set j v)))
theorem zu:vL X Hj:=by
 intro ag s σ H o i v D C u Q I z w A h;obtain⟨p,xs,k,j,rfl,rfl,f,y,q⟩:=h;cases z;obtain⟨t,rfl⟩:=w;obtain⟨a,n,r,d,x⟩:=I.lst f;obtain⟨h1,h2,m,g⟩:=rL y;have c:=r.length;have B:=lS;have e:Inv X ag σ (upd H p (.lst (xs.set j v))) {s with heap:=s.heap.update p (Obj.mapSeq (·.setIfInBounds j u))}:=
  I.lstUpd f d (vj a n j u) (r.set A j) (by rw[aV];exact x) s.toks
 by_cases l:0<=k
 ·have b:k.toNat=j:=by
   rw[seqIndex_of l g]at h1;exact Option.some.inj h1
  exact PySem.W.ki_setAt d l (by lia) (by rw[sT1,<- c];exact g) (by rw[b];exact⟨_,e,q⟩)
 ·have b:(k+(a.toArray.size:Int)).toNat=j:=by
   rw[seqIndex_neg (by lia) m]at h1;rw[sT1,<- c];exact Option.some.inj h1
  exact PySem.W.ki_setBack d (by lia) (by rw[sT1,<- c];exact m) (by lia) (by rw[b];exact⟨_,e,q⟩)
theorem qC(lo hi:Option Int)(n:Nat):(sliceBounds lo hi Y n).1=((HT.sIx n 0 lo:Nat):Int)/\(sliceBounds lo hi Y n).2.1=((HT.sIx n n hi:Nat):Int)/\(sliceBounds lo hi Y n).2.2=1:=by
 refine⟨?_,?_,O⟩
 ·cases lo with
  |none=>simp[sliceBounds,HT.sIx]
  |some i=>
   simp only[sliceBounds,HT.sIx,Option.getD_none,show(1:Int)>0 by decide,if_true];by_cases h:i<0
   ·simp only[h,if_true]<;>lia
   ·simp only[h,if_false]<;>lia
 ·cases hi with
  |none=>simp[sliceBounds,HT.sIx]
  |some i=>
   simp only[sliceBounds,HT.sIx,Option.getD_none,show(1:Int)>0 by decide,if_true];by_cases h:i<0
   ·simp only[h,if_true]<;>lia
   ·simp only[h,if_false]<;>lia
theorem oS(its:List dB)(lo hi:Option Int):slicePick its.toArray lo hi Y=((its.drop (HT.sIx its.length 0 lo)).take (HT.sIx its.length its.length hi-HT.sIx its.length 0 lo)).toArray:=by
 obtain⟨h1,h2,a⟩:=qC lo hi its.toArray.size;unfold slicePick;rw[h1,h2,a];simp only[sliceRange_one,pick_run,sT1]<;>rfl
def JF(K:Fg1):V->Option Int->Option Int->Hp->VK->Prop:=λx lo hi H Q=>∃a xs,x = .ref a/\mU K H a xs /\ ∀p,H p=Y->Q (.ref p) (upd H p (.lst (uu xs lo hi)))
theorem B1:BI X (JF X.K):=by
 intro ag s σ H x v l vu lo hi n Q I k e pl i h;obtain⟨a,xs,rfl,f,q⟩:=h;cases k;obtain⟨j,r,d,g⟩:=I.list f;have c:=r.length;refine⟨"list",_,slot_list_getitem.lookup,d.isList.typeIs,?_⟩;refine wpAny_getItem_list_slice d.isList e pl i .none (by simp) ?_ (by rw[sT1]<;>lia);rw[oS,<- c];refine⟨.ref s.heap.objs.size,_,I.laid (t':=s.toks) (o:=.lst (uu xs lo hi)) (λb m q=>hP1 _ q) (nR1 _) ?_,O,q _ (I.hok.fresh (nR1 _))⟩;exact⟨aC (mH xs lo hi) g,_,0,(r.drop (HT.sIx xs.length 0 lo)).take (HT.sIx xs.length xs.length hi-HT.sIx xs.length 0 lo),hS1 _ O⟩
noncomputable def j9:V->Bool
 | .non=>M
 | .bl _=>M
 | .int _=>M
 | .str _=>M
 |_=>J
noncomputable def uJ:V->V->Bool
 | .non,.non=>M
 | .bl a,.bl b=>a == b
 | .bl a,.int b=>(if a then 1 else 0) == b
 | .int a,.bl b=>a == (if b then 1 else 0)
 | .int a,.int b=>a == b
 | .str a,.str b=>a == b
 |_,_=>J
theorem km{A:dG}{s:dD}{y x:V}{u v:dB}(f:d8 y u)(c:d8 x v)(g:j9 y=M)(e:j9 x=M):SeqAt.EqAt A s u v (uJ y x):=by
 cases y with
 |non=>
  cases f;cases x with
  |non=>cases c;exact SeqAt.EqAt.same _
  |bl b=>cases c;exact SeqAt.EqAt.none_bool b
  |int b=>obtain⟨t,rfl⟩:=c;exact SeqAt.EqAt.none_int b t
  |str b=>obtain⟨t,rfl⟩:=c;exact SeqAt.EqAt.none_str b t
  |_=>exact absurd (show J=M from e) aK
 |bl a=>
  cases f;cases x with
  |non=>cases c;exact SeqAt.EqAt.bool_none a
  |bl b=>cases c;exact SeqAt.EqAt.bool_bool a b
  |int b=>obtain⟨t,rfl⟩:=c;exact SeqAt.EqAt.bool_int a b t
  |str b=>obtain⟨t,rfl⟩:=c;exact SeqAt.EqAt.bool_str a b t
  |_=>exact absurd (show J=M from e) aK
 |int a=>
  obtain⟨d,rfl⟩:=f;cases x with
  |non=>cases c;exact SeqAt.EqAt.int_none a d
  |bl b=>cases c;exact SeqAt.EqAt.int_bool a d b
  |int b=>obtain⟨t,rfl⟩:=c;exact SeqAt.EqAt.int_int a d b t
  |str b=>obtain⟨t,rfl⟩:=c;exact SeqAt.EqAt.int_str a d b t
  |_=>exact absurd (show J=M from e) aK
 |str a=>
  obtain⟨d,rfl⟩:=f;cases x with
  |non=>cases c;exact SeqAt.EqAt.str_none a d
  |bl b=>cases c;exact SeqAt.EqAt.str_bool a d b
  |int b=>obtain⟨t,rfl⟩:=c;exact SeqAt.EqAt.str_int a d b t
  |str b=>obtain⟨t,rfl⟩:=c;exact SeqAt.EqAt.str_str a d b t
  |_=>exact absurd (show J=M from e) aK
 |_=>exact absurd (show J=M from g) aK
theorem sn:fj X (.builtin "len") (λxs H Q=>∃p ys,xs=[.ref p]/\(mU X.K H p ys\/kr X.K H p ys)/\Q (.int ys.length) H):=by
 intro ag s σ H xs i Q I r h;obtain⟨p,ys,rfl,b,q⟩:=h;obtain⟨u,rfl,f⟩:=je r;cases f;have g:=lS;rcases b with b|b
 ·obtain⟨d,c,pl,e⟩:=I.list b;have a:=c.length;exact Calls.call_len_list pl.isList (by simp only[sT1]<;>lia) ⟨.int ys.length,H,I.tok _,⟨s.toks+1,by rw[sT1,a]⟩,q⟩
 ·obtain⟨d,c,pl,e⟩:=I.tuple b;have a:=c.length;exact len_tuple pl (by simp only[sT1]<;>lia) ⟨.int ys.length,H,I.tok _,⟨s.toks+1,by rw[sT1,a]⟩,q⟩
theorem sm:fj X (.builtin "len") (λxs H Q=>∃z,xs=[.str z]/\z.length<=dL/\Q (.int z.length) H):=by
 intro ag s σ H xs c Q I r h;obtain⟨z,rfl,a,q⟩:=h;obtain⟨u,rfl,t,rfl⟩:=je r;have b:=lS;exact len_str (by lia) ⟨.int z.length,H,I.tok _,⟨_,O⟩,q⟩
theorem pg:fj X (.type "tuple") (λxs H Q=>∃p ys,xs=[.ref p]/\((mU X.K H p ys /\ ∀l,H l=Y->Q (.ref l) (upd H l (.tup ys)))\/(kr X.K H p ys/\Q (.ref p) H))):=by
 intro ag s σ H xs n Q I r h;obtain⟨p,ys,rfl,h⟩:=h;obtain⟨u,rfl,m⟩:=je r;cases m;rcases h with⟨d,q⟩|⟨d,q⟩
 ·obtain ⟨a,c,pl,i⟩:=I.list d;have f:=c.length;refine call_tuple_list pl.isList (fun h' j=>?_) (by simp only [sT1]<;>lia);have g:Inv X ag σ H {s with heap:=h'}:=I.kept (t':=s.toks) j;have k:Inv X ag σ (upd H h'.objs.size (.tup ys)) {s with heap:=h'.push {cls:=.type "tuple",data:=.seq a.toArray}}:=
   g.laid (t':=s.toks) (λb o e=>hP1 _ e) (nR1 _) (show eX X.prog X.w _ _ _ (.tup ys)from⟨i,a,c,IsTup.new _ _⟩)
  exact⟨.ref h'.objs.size,_,k,O,q _ (g.hok.fresh (nR1 _))⟩
 ·obtain⟨a,c,pl,i⟩:=I.tuple d;exact call_tuple_same pl ⟨.ref p,H,I,O,q⟩
def Kh(K:Fg1)(T:String)(x:V)(H:Hp):Prop:=match x with
 | .str _=>T="str"
 | .int _=>T="int"
 | .ref p=>(T="list" /\ ∃ xs,mU K H p xs)\/(T="tuple" /\ ∃ o,K.lookup p=some o/\o.cls = .type "tuple"/\o.dict=none) \/
   (T="dict"/\((∃kvs,H p=Z (.dK kvs)) \/ ∃kvs,H p=Z (.dT kvs)))\/(T="set" /\ ∃S n,H p=Z (.set S n))
 |_=>False
theorem Ee{ag:List (dE×Obj)}{σ:St}{H:Hp}{s:dD}{T:String}{x:V}{v:dB}(I:Inv X ag σ H s)(r:d8 x v)(ty:Kh X.K T x H):
  s.TypeIs v T /\ ∀a,v = .ref a -> ∃g,s.heap.get? a=Z g/\g.dict=Y:=by
 cases x with
 |str z=>
  obtain⟨t,rfl⟩:=r;cases(show T="str" from ty);exact⟨typeIs_str s z t,λ_ e=>nomatch e⟩
 |int i=>
  obtain⟨t,rfl⟩:=r;cases(show T="int" from ty);exact⟨typeIs_int s i t,λ_ e=>nomatch e⟩
 |ref p=>
  cases r;rcases ty with⟨rfl,xs,j⟩|⟨rfl,o,b,hc,f⟩|⟨rfl,b⟩|⟨rfl,S,n,b⟩
  ·obtain⟨h,_,pl,_⟩:=I.list j;refine⟨pl.isList.typeIs,λa e=>?_⟩;cases e;obtain⟨o,n,e,c,f,_⟩:=pl;exact⟨o,e,f⟩
  ·refine⟨⟨o,I.kIn p o b,hc⟩,λa e=>?_⟩;cases e;exact⟨o,I.kIn _ o b,f⟩
  ·have z:∃ o,s.heap.get? p=some o/\o.ExactDict:=by
    rcases b with⟨kvs,b⟩|⟨kvs,b⟩
    ·obtain⟨_,_,_,_,o,_,_,e,ex,_⟩:=I.hok p _ b;exact⟨o,e,ex⟩
    ·obtain⟨_,_,_,_,o,_,_,e,ex,_⟩:=I.hok p _ b;exact⟨o,e,ex⟩
   obtain⟨o,e,ex⟩:=z;refine⟨⟨o,e,ex.1⟩,λa d=>?_⟩;cases d;exact⟨o,e,ex.2.1⟩
  ·obtain⟨o,_,_,_,e,ex,_⟩:=I.hok p _ b;refine⟨⟨o,e,ex.1⟩,λa d=>?_⟩;cases d;exact⟨o,e,ex.2.1⟩
 |_=>exact False.elim ty
def KM(K:Fg1)(T:String)(r:V->List V->Hp->VK->Prop)(to:TE)(t:TA):TE:=fun σ H Q=>to σ H λx H1=>Kh K T x H1/\t σ H1 λxs H2=>r x xs H2 Q
variable{o e:Expr}{es:List Expr}{to:TE}{t:TA}{name:Str}{apos cpos:Pos}{T id:String}{r:V->List V->Hp->VK->Prop}
theorem Hr (l:PlainAttrs T)(slot:Slot T name id)(hty:typeOf (.builtin id)=pure (.type "method_descriptor"))(hm:D6 X id r)(ho:PE X o to)(ha:PA X (e::es) t)
  (hbase:autoParam (attributeBase o name X.env (eval o X.env)=eval o X.env) au0)
  (hfew:autoParam (((backTo cpos (dJ (e::es) X.env)).all (λx=> !x.1)&&(backToKw cpos (keywordEach [] X.env)).all (λx=>x.1.isSome)
   && decide ((e::es).length+([]:List Keyword).length+(if([]:List Keyword).isEmpty then 0 else 1)<30))=M) au0)
  (hline:autoParam ((apos.endLine == cpos.line)=M) au0) (hs:autoParam (dJ (e::es) X.env=(J,eval e X.env)::dJ es X.env) au0) (hplain:autoParam ((backTo cpos (dJ es X.env)).any (·.1)=J) au0):
  PE X (.Call (.Attribute o name apos) (e::es) [] cpos) (KM X.K T r to t):=by
 intro ag s σ H Q I h;refine wpAny_Call_method_late hbase hfew hline O (fD (ho ag s σ H _ I h) λv i ⟨x,H1,c,b,ty,d⟩=>?_);obtain⟨h1,h2⟩:=Ee c b ty;refine⟨T,id,l,slot,hty,h1,h2,?_⟩;have a:=ha cpos ag i σ H1 _ c d;rw[hs]at a ⊢;refine Calls.callWith_builtin (by show(J||(backTo cpos (dJ es X.env)).any (·.1))=J;rw[hplain]<;>rfl) (Calls.evalArgs_plain ?_);exact fD a λk g ⟨vs,H2,j,r2,f⟩=>hm ag g σ H2 x vs v k Q j b r2 f
end
def KB(X:Cx)(id:String)(r:V->List V->Hp->VK->Prop):Prop:=
 ∀(ag:List (dE×Obj)) (s:dD) (σ:St) (H:Hp) (x:V) (xs:List V) (v:dB) (us:List dB) (Q:VK),Inv X ag σ H s->d8 x v->eE xs us->r x xs H Q ->
  dM (model X.prog X.w) X.A (call (.builtin id) (v::us)) (EP X ag σ Q) X.xe s
theorem eE.one:∀{x:V} {a:List dB},eE [x] a -> ∃u,a=[u]/\d8 x u:=by
 intro x a h;cases h with
 |cons r t=>cases t;exact⟨_,O,r⟩
theorem eE.two:∀{x y:V} {a:List dB},eE [x,y] a -> ∃u v,a=[u,v]/\d8 x u/\d8 y v:=by
 intro x y a h;cases h with
 |cons r t=>obtain⟨v,rfl,q⟩:=eE.one t;exact⟨_,_,O,r,q⟩
theorem eE.eraseIdx:∀{xs:List V} {a:List dB} (i:Nat),eE xs a->eE (xs.eraseIdx i) (a.eraseIdx i)
 |_,_,_,.nil=>.nil
 |_,_,0,.cons _ t=>t
 |_,_,i+1,.cons r t=>.cons r (eE.eraseIdx i t)
theorem pT{α:Type}:∀(l:List α) (i:Nat),(l.eraseIdx i).length<=l.length
 |[],_=>nR1 _
 |_::_,0=>aW _
 |_::r,i+1=>Nat.succ_le_succ (pT r i)
section
variable{ag:List (dE×Obj)}{σ:St}{H:Hp}{s:dD}{l b:dE}{xs ys zs:List V}
theorem Inv.lset {its its':List dB}{n:Nat}{f:Array dB->Array dB}{t':Nat}(I:Inv X ag σ H s)(d:H l=some (.lst xs))
  (e:s.heap.get? l=Z {cls:=.type "list",data:=.seq its.toArray n}) (hf:f its.toArray=its'.toArray) (hv:eE ys its') (c:ys.length<=dL):
  Inv X ag σ (upd H l (.lst ys)) {s with heap:=s.heap.update l (Obj.mapSeq f),toks:=t'}:=by
 have q:=PySem.IsL.update e f;rw[hf]at q;refine I.write (x:=l) (e:=l) (by rw[d];exact trivial) (.inl O) (λg u b a=>(Heap.get?_update_other s.heap (Obj.mapSeq f) (Ne.symm b)).trans a) ⟨_,q⟩ ?_;exact⟨c,its',_,hv,q⟩
theorem Inv.lnew{its:List dB}{t':Nat}(I:Inv X ag σ H s)(hv:eE ys its)(a:ys.length<=dL):
  Inv X ag σ (upd H s.heap.objs.size (.lst ys)) {s with heap:=s.heap.push {cls:=.type "list",data:=.seq its.toArray},toks:=t'}:=
 I.laid (λ_ _ q=>hP1 _ q) (nR1 _) ⟨a,its,0,hv,hS1 _ O⟩
theorem Inv.fresh(I:Inv X ag σ H s):H s.heap.objs.size=Y:=I.hok.fresh (nR1 _)
theorem Inv.lstM(I:Inv X ag σ H s)(a:H l=Z (.lst xs)):xs.length<=dL /\ ∃(its:List dB) (n:Nat),eE xs its/\xs.length=its.length/\s.heap.get? l=Z {cls:=.type "list",data:=.seq its.toArray n}:=by
 obtain⟨z,its,n,r,e⟩:=I.hok l _ a;exact⟨z,its,n,r,r.length,e⟩
end
def B6:V->List V->Hp->VK->Prop:=λx vs H Q=>∃l xs y,x = .ref l/\vs=[y]/\H l=Z (.lst xs)/\xs.length<dL/\Q .non (upd H l (.lst (xs++[y])))
theorem pN:KB X "list.append" B6:=by
 intro ag s σ H x vs v g Q I f d h;obtain⟨l,xs,y,rfl,rfl,b,j,q⟩:=h;cases f;obtain⟨u,rfl,c⟩:=d.one;obtain⟨z,a,n,r,i,e⟩:=I.lstM b;refine call_meets F.slot_list_append ⟨_,e,O⟩ F.entry_list_append (F.args_list_append_2 _ _) (PySem.list_append l a.toArray n u (by rw[sT1];lia)) ⟨e,?_⟩;refine⟨.non,_,I.lset (its':=a++[u]) b e (by simp) (r.append (.cons c .nil)) ?_,O,q⟩;rw[lA1,aX];lia
def EK:V->List V->Hp->VK->Prop:=λx vs H Q=>∃l xs i k y,x = .ref l/\vs=[.int i]/\H l=Z (.lst xs) /\ -(2^63)<=i/\i<2^63/\seqIndex? i xs.length=Z k/\xs[k]?=Z y/\Q y (upd H l (.lst (xs.eraseIdx k)))
theorem Al:KB X "list.pop" EK:=by
 intro ag s σ H x vs v A Q I p o h;obtain⟨l,xs,i,k,y,rfl,rfl,c,h1,h2,g,f,q⟩:=h;cases p;obtain⟨u,rfl,d⟩:=o.one;obtain⟨t,rfl⟩:=d;obtain⟨z,a,n,r,j,e⟩:=I.lstM c;obtain⟨w,m,b⟩:=r.get f;refine call_meets F.slot_list_pop ⟨_,e,O⟩ F.entry_list_pop (F.args_list_pop_2 _ _)
  (MeetsSeq.list_pop_at l a.toArray n i t k w (fitsIndex_both h1 h2) (by rw[sT1,<- j];exact g) (by rw[<- aT1];exact m) (by rw[sT1];lia)) ⟨e,?_⟩
 refine⟨y,_,I.lset (its':=a.eraseIdx k) c e ?_ (r.eraseIdx k) ?_,b,q⟩
 ·show a.toArray.eraseIdxIfInBounds k=(a.eraseIdx k).toArray;rw[List.eraseIdxIfInBounds_toArray]
 ·have:=pT xs k;lia
def JI:R2:=λx y H Q=>∃l b xs zs,x = .ref l/\y = .ref b/\H l=Z (.lst xs)/\H b=Z (.lst zs)/\xs.length+zs.length<=dL /\ ∀p,H p=Y->Q (.ref p) (upd H p (.lst (xs++zs)))
theorem Ff:gt X (binaryOp .Add) JI:=by
 intro ag s σ H x y v u Q I i j h;obtain⟨l,b,xs,zs,rfl,rfl,k,g,w,q⟩:=h;cases i;cases j;obtain⟨z,c,n,r,t,e⟩:=I.lstM k;obtain⟨o,a,p,r2,m,d⟩:=I.lstM g;refine PySem.P.add_list e d ?_ (by rw[sT1,sT1];lia);have f:c.toArray++a.toArray=(c++a).toArray:=by simp
 rw[f];exact⟨.ref _,_,I.lnew (t':=s.toks) (r.append r2) (by rw[lA1];lia),O,q _ I.fresh⟩
section
variable{prog:dF}{w:dH}{A:dG}{E:dB->dD->Prop}{s:dD}
end
end L2
namespace Att
open PySem PySem.W PySem.Calls PyProof.Rows
theorem mQ{P:Params}{h:dP}:∀(ns:List Int) (vs:List dB),WellAll P h vs (ns.map WData.int)->IntsAre vs ns:=by
 intro ns
 induction ns with
 |nil=>
  intro vs w;rw[aY]at w;cases w;exact .nil
 |cons n ns ih=>
  intro vs w;rw[mP1]at w;cases w with
  |cons a b=>
   cases a;exact .cons _ _ (ih _ b)
theorem xL{l:OpenLaw}{n:Nat}(hn:l.most=some n){P:Params}{h:dP}{args:List WData}{c:List dB}(b:l.row.toRowW.claim.pre args=true)(k:WellAll P h c args):
  ∃a vs ns,c=[Value.ref a]/\args=[WData.list (ns.map WData.int)]/\h.get? a=Z {cls:=.type "list",data:=.seq vs.toArray}/\IntsAre vs ns/\ns.length<=n:=by
 have j:WShape.hasAll [] args [.list .int]=M:=(pre_splitW b).1;have hc:l.pre.holds [] {args:=args}=M:=(pre_splitW b).2;obtain⟨d,r,rfl,h1,h2⟩:=hasAllW_cons j;obtain rfl:=hasAllW_nil h2;obtain⟨xs,rfl,s⟩:=hasW_list h1;obtain⟨ns,rfl⟩:=items_int s;have e:ns.length<=n:=by
  unfold OpenLaw.pre at hc;have i:(WTm.not (.lt (.lit (.int (n:Int))) (.len (.arg 0)))).holds [] {args:=[.list (ns.map .int)]}=M:=by
   have i:=(holds_andW hc).1;rw[hn]at i;exact i
  have g:=condW_of i (w_not (w_lt w_lit (w_len_list (w_arg O))));rw[lM1]at g;refine Nat.le_of_not_lt λq=>?_;have m:(n:Int)<((ns.length:Nat):Int):=by omega
  first
   |(rw[ah m]at g;exact absurd g (by decide))
   |(simp at g;omega)
 cases k with
 |cons p o=>
  cases o;cases p with
  |list t f=>exact⟨_,_,ns,O,O,t,mQ ns _ f,e⟩
theorem xN(l:OpenLaw)(args:List WData):l.row.toRowW.claim.post args (.bool M) args=M:=
 postW_of (r:=l.row.toRowW) (X:=(M == M))
  (show WShape.has [] (.bool M) .bool=M by first|rfl|decide|simp[WShape.has,WShape.arms,WShape.armsAll])
  (show(WTm.eq .res (.lit (.bool M))).value [] {args:=args,res:=Z (.bool M),after:=args}=Z (.bool (M == M))from w_eq_bool (w_res O) w_lit) O
theorem attach_call {l:OpenLaw}{n:Nat}{q:dF}{c:List Str}{XP:(Str->Option dB)->dP->Prop}{B:dH->dP->Prop}{d:DefRec}
  (hn:l.most=Z n) (x:d.params.defaults=[])
  (call:∀(w:dH) (e b:dD) (mg t:Str->Option dB) (m:dE) (o:Obj) (y p g:dB) (a:dE) (vs:List dB) (ns:List Int),
   Ground q c [] XP w e mg t b.heap->B w b.heap ->
   b.heap.get? m=Z o->o.data = .func (docDef d.name d.params d.body d.scope y p g)->b.heap.CodeRec p d.name->mg d.name=Z (.ref m) ->
   b.heap.get? a=Z {cls:=.type "list",data:=.seq vs.toArray}->IntsAre vs ns->ns.length<=n->b.gens = #[] ->
   dN (model l.prog w) callerA (.call (.ref m) ⟨[.ref a],[]⟩) (λr s'=>r = .ok (.ret (.bool M))/\OldK b.heap s'.heap/\s'.os=b.os/\AllBare s'.gens) b):
  WalkO q c XP B l.row.toRowW d [] (λf vs=>PySem.call f vs):=by
 intro w e b mg t G aq m o y p g E kV am H s D v N C A as k z L u K;obtain rfl:E = .none:=Dflts.none D x;obtain rfl:kV = .none:=Dflts.noKw D;obtain⟨a,vs,ns,rfl,rfl,i,h,j⟩:=xL hn k u;refine enter_call (codeAny_mono (call w e b mg t m o y p g a vs ns G aq am (fd_plain H) s v i h j N) λr s' I=>?_);obtain⟨rfl,h2,ao,au⟩:=I;exact⟨.inl ⟨.bool M,.bool M,[],O,λ_=>rfl,.bool M,xN l _,λ_=>⟨List.Pairwise.nil,λ_ F=>(nomatch F)⟩⟩,h2,ao,au⟩
section
variable{prog:dF}{w:dH}{A:dG}{E:dB->dD->Prop}{s:dD}{K:Frag}
end
end Att
namespace L2
open PySem PySem.Spec PyProof.Rows
theorem xC:∀{vs:List dB} {ns:List Int},IntsAre vs ns->eE (ns.map V.int) vs:=by
 intro vs ns h
 induction h with
 |nil=>exact .nil
 |cons n t h ih=>exact .cons ⟨t,O⟩ ih
def DD(H:Hp):Prop:=∀b,H b=Y \/ ∃o xs,H b=Z (.frz o (.lst xs))
theorem AG {P:dF}{w:dH}{K:Fg1}{mg G:Str->Option dB}{CX:yZ}{k:Nat}{I a:dE}{fd:dQ}{x:Str}{sp:Sp}{s₁:dD}{vs:List dB}{ns:List Int}
  (ao:K.In s₁.heap) (B:s₁.heap.Ns dI mg) (hb:s₁.heap.Ns builtinsNs G) (L:∀x:Str,x≠"__name__"->G x=bootBuiltins x) (A:s₁.heap.NoLimit) (hg:s₁.gens = #[])
  (ha:s₁.heap.get? a=Z {cls:=.type "list",data:=.seq vs.toArray}) (hi:IntsAre vs ns) (S:ns.length<=dL) (hr:fR k callerA)
  (F:∀base:dP,K.In base->base.Ns dI mg->l8 P w K mg base CX k I fd [x] sp) (g:∀(s:dD) (u:dB),BindsTo s fd ⟨[u],[]⟩ [(x,u)])
  (C:∀H:Hp,DD H->mU K H a (ns.map V.int)->sp [.ref a] H (λv _=>v = .bl M) λ_ _ _=>False)
  (D:∀H e s',CX [] H s₁ (λ_ _ _=>False) e s'->False):
  dN (model P w) callerA (.call (.ref I) ⟨[.ref a],[]⟩) (λr s'=>r = .ok (.ret (.bool M))/\OldK s₁.heap s'.heap/\s'.os=s₁.os/\AllBare s'.gens) s₁:=by
 have N:=xC hi;have l:=hi.length
 -- from an abstract heap in which nothing but the script may be tracked
 have f:∀ H:Hp,DD H->mU K H a (ns.map V.int)->lF P w H s₁.heap->(∀ b,H b≠none->b=a)->(H a≠none->K.lookup a=none) ->
   dN (model P w) callerA (.call (.ref I) ⟨[.ref a],[]⟩) (λr s'=>r = .ok (.ret (.bool M))/\OldK s₁.heap s'.heap/\s'.os=s₁.os/\AllBare s'.gens) s₁:=by
  intro H Q U t au T;have base_of:∀{b:dE} {o:Obj},s₁.heap.get? b=Z o->H b=Y->(rQ s₁.heap H).get? b=Z o:=λe n=>AU e n;have E:∀{b:dE} {o:Obj} {es:Array DictEntry} {ep:Nat},s₁.heap.get? b=Z o->o.data = .dict es ep->H b=Y:=λ{b o es ep} e d=>by
   cases q:H b with
   |none=>rfl
   |some u=>
    have am:b=a:=au b (by rw[q];simp);subst am;rw[ha]at e;cases e;have aq:Data.seq vs.toArray _=Data.dict es ep:=d;cases aq
  have c:∀{b:dE} {m:Str->Option dB},s₁.heap.Ns b m->(rQ s₁.heap H).Ns b m:=λ{b m} ⟨o,es,ep,e,d,r⟩=>⟨o,es,ep,base_of e (E e d),d,r⟩;have y:K.In (rQ s₁.heap H):=λb o e=>base_of (ao b o e) (by
   cases q:H b with
   |none=>rfl
   |some u=>
    have am:b=a:=au b (by rw[q];simp);subst am;rw[T (by rw[q];simp)]at e;cases e)
  have wq:Mod K mg (rQ s₁.heap H):=⟨y,c B,⟨G,c hb,L⟩,let ⟨mc,h1,h2⟩:=A;⟨mc,c h1,h2⟩⟩;have X:DE P w K mg (rQ s₁.heap H) callerA [] s₁ H:=⟨O,wq,λb o e=>Cv e,Nat.le_of_eq (yg _ _),trivial,λb hb=>absurd (show b∈([]:List dE)from hb) (by simp),t,.of_eq hg⟩;refine codeAny_mono ((F _ y (c B)).run callerA [] s₁ H ⟨[.ref a],[]⟩ [.ref a] [.ref a] _ _ hr X (g s₁ (.ref a)) (.cons O .nil) (C H Q U)) λr s' h=>?_;cases r with
  |error e=>exact(D H e s' h).elim
  |ok fl=>
   cases fl with
   |next=>exact False.elim h
   |brk=>exact False.elim h
   |cont=>exact False.elim h
   |ret u=>
    obtain⟨v,H',os,p,un,j,r',q⟩:=h;have W:v = .bl M:=q;subst W;obtain rfl:u=Value.bool true:=r';refine⟨O,OldK.of_keep λb o e=>?_,os,p⟩;cases q:H b with
    |none=>exact un.keep b o e q (by intro z;exact absurd (show b∈([]:List dE)from z) (by simp)) (by simp)
    |some u=>
     rcases Q b with z|⟨ob,xs,z⟩
     ·rw[q]at z;cases z
     ·have z2:=un.frzs b ob _ z;obtain⟨R,_⟩:=t b _ z;obtain⟨e2,_⟩:=j b _ z2;rw[e]at R;cases R;exact e2
 cases hk:K.lookup a with
 |some o=>
  -- the script is one of the module's own objects
  have e:=ao a o hk;rw[ha]at e;cases e;refine f (λ_=>Y) (λ_=>.inl O) (.inr ⟨_,vs.toArray,_,hk,O,O,O,by rw[sT1,l];exact S,by simpa using N⟩) (λb u z=>by have i:(Y:Option HO)=Z u:=z;cases i) (λb z=>absurd O z) λz=>absurd O z
 |none=>
  refine f (λb=>if b=a then Z (.frz {cls:=.type "list",data:=.seq vs.toArray} (.lst (ns.map V.int)))else Y) (λb=>?_) (.inl (.inr ⟨{cls:=.type "list",data:=.seq vs.toArray},ak O⟩)) (λb u z=>?_) (λb z=>?_) λ_=>hk
  ·by_cases hb:b=a
   ·exact .inr ⟨_,_,ak hb⟩
   ·exact .inl (aj hb)
  ·by_cases hb:b=a
   ·have i:=(ak hb).symm.trans z;cases i;subst hb;exact⟨ha,by rw[lM1];exact S,vs,_,N,ha⟩
   ·have i:=(aj hb).symm.trans z;cases i
  ·by_cases hb:b=a
   ·exact hb
   ·exact absurd (aj hb) z
theorem BW{l:PySem.W.OpenLaw}{n k:Nat}{q:dF}{c:List Str}{XP:(Str->Option dB)->dP->Prop}{C:dH->dP->Prop}{d:DefRec}{K:Params->Fg1}{CX:dH->yZ}{sp:dH->Sp}{x:Str}(hn:l.most=some n)(t:n<=dL)(z:d.params.defaults=[])(hr:fR k callerA)(E:∀(w:dH) (h:dP),C w h->(K w.params).In h)(F:∀(w:dH) (mg:Str->Option dB) (m:dE) (h:dP),(K w.params).In h->h.Ns dI mg->mg d.name=some (.ref m) ->
   ∃fd:dQ,(∀(s:dD) (u:dB),BindsTo s fd ⟨[u],[]⟩ [(x,u)]) /\
    ∀base:dP,(K w.params).In base->base.Ns dI mg->l8 l.prog w (K w.params) mg base (CX w) k m fd [x] (sp w))(p:∀(w:dH) (H:Hp) (a:dE) (ns:List Int),ns.length<=n->DD H->mU (K w.params) H a (ns.map V.int)->sp w [.ref a] H (λv _=>v = .bl M) λ_ _ _=>False)(r:∀(w:dH) (H:Hp) (s:dD) (e:dB) (s':dD),CX w [] H s (λ_ _ _=>False) e s'->False):
  PySem.W.WalkO q c XP C l.row.toRowW d [] (λf vs=>PySem.call f vs):=by
 refine Att.attach_call hn z λw B j mg Q m o S P N a vs ns G aq T R D y i g b au=>?_;have A:=E w _ aq;obtain⟨fd,am,ao⟩:=F w mg m _ A G.T.g y;exact AG A G.T.g G.T.b G.T.builtins G.T.nolimit au i g (aC b t) hr ao am (λH L I=>p w H a ns b L I) λH e s'=>r w H j e s'
noncomputable def ip(s:dR):Arguments:=match s with
 | .FunctionDef _ a _ _ _ _ _ _ _ _=>a
 |_=>{posonlyargs:=[],args:=[],vararg:=Y,kwonlyargs:=[],kw_defaults:=[],kwarg:=Y,defaults:=[]}
noncomputable def fB(s:dR):List dR:=match s with
 | .FunctionDef _ _ b _ _ _ _ _ _ _=>b
 |_=>[]
noncomputable def ev(s:dR):dS:=match s with
 | .FunctionDef _ _ _ _ _ _ sc _ _ _=>sc
 |_=>{kind:=.function,names:=[],isGenerator:=J,isCoroutine:=J}
abbrev uI:yZ:=λ_ _ _ _ _ _=>False
abbrev E0:XK:=λ_ _ _=>False
theorem Ht{X:Cx}:vK uI X E0:=λ_ _ _ _ _ _ _ h=>h.elim
structure yX (K:Fg1)(x qual:Str)(st:dR)(f:dE)(fd:dQ):Prop where
 ex:∃(oc:dB) (od:Option dE) (kV doc pm:dB) (an:Option dE) (cdv ct:dB) (osl:Array (Option dB)),
  fd=wF1 x qual (ip st) (fB st) (ev st) .none kV doc pm an cdv ct/\K.lookup f=some ⟨oc,od,.func fd,osl⟩/\wC1 K cdv qual=true
 kp:wK1 K (.ref f)=true
section
variable{P:dF}{w:dH}{K:Fg1}{mg:Str->Option dB}{base:dP}
theorem yX.ok{x b:Str}{st:dR}{f:dE}{fd:dQ}{N ps:List Str}{k:Nat}{sp:Sp}(F:yX K x b st f fd)(S:gu N ps (ev st))(len:∀ vs H Q E,sp vs H Q E->vs.length=ps.length)(d:∀(c:dB) (A:dG) (a:List Env) (s:dD) (H:Hp) (vs:List V) (Q:VK) (E:XK),fR k (A.deeper (envOfC b (ev st) s.heap.objs.size f c))->sp vs H Q E ->
   ∃t,uL (mS uI P w K mg base N b (ev st) f c A a s H E).nox (fB st) t/\t {nx:=λ_ H'=>Q .non H',rt:=Q} (jg N vs) H):l8 P w K mg base uI (k+1) f fd ps sp:=by
 obtain⟨n,o,kV,l,p,r,c,ct,m,rfl,i,e⟩:=F.ex;refine Ic i e S len λA a s H vs Q E j g=>?_;obtain⟨t,h,q⟩:=d c A a s H vs Q E j g;exact⟨t,h.nox,q⟩
theorem yX.binds{x a:Str}{st:dR}{f:dE}{fd:dQ}{ps:List Str}(F:yX K x a st f fd)(h:∀(kV c d:dB) (g:Option dE) (b ct:dB) (e:List dB),e.length=ps.length->bindArgs (wF1 x a (ip st) (fB st) (ev st) .none kV c d g b ct) ⟨e,[]⟩=pure (ps.zip e)):lG K fd ps []:=by
 obtain⟨l,m,kV,c,d,g,b,ct,j,rfl,k,i⟩:=F.ex;exact .all (h kV c d g b ct)
theorem A0{x a:Str}{st:dR}{f:dE}{i:dB}{j h:Option dE}{e:Array (Option dB)}{kV d g b ct:dB}(l:K.lookup f=Z ⟨i,j,.func (wF1 x a (ip st) (fB st) (ev st) .none kV d g h b ct),e⟩)(c:wC1 K b a=M)(k:wK1 K (.ref f)=M):yX K x a st f (wF1 x a (ip st) (fB st) (ev st) .none kV d g h b ct):=⟨⟨i,j,kV,d,g,h,b,ct,e,O,l,c⟩,k⟩
end
variable{X:Cx}
theorem pv (i:Nat){x:Str}{pos:Pos}(hN:autoParam (X.N[i]? = some x) au0)(hv:autoParam (Vis X.env.scope x) au0)(hd:autoParam ((x == ("__debug__":Str))=false) bu0)
  (hcd:autoParam ((x == ("__classdict__":Str))=J) bu0):PE X (.Name x pos) (GX i):=zX hN hv hd hcd
section
variable{κ:Type} [DecidableEq κ]
noncomputable def iO(kvs:List (κ×V))(k:κ):Option V:=(kvs.find? λkv=>decide (kv.1=k)).map (·.2)
noncomputable def iG(kvs:List (κ×V))(k:κ)(v:V):List (κ×V):=
 if(kvs.any λkv=>decide (kv.1=k))=M then kvs.map (λkv=>if kv.1=k then(kv.1,v)else kv)else kvs++[(k,v)]
theorem nr{p:κ×V}{r:List (κ×V)}{k:κ}(e:p.1=k):iO (p::r) k=Z p.2:=by simp[iO,aZ,e]
theorem nt{p:κ×V}{r:List (κ×V)}{k:κ}(e:¬ p.1=k):iO (p::r) k=iO r k:=by simp[iO,aZ,e]
theorem sH(k:κ):∀kvs:List (κ×V),(kvs.any λa=>decide (a.1=k))=(iO kvs k).isSome
 |[]=>rfl
 |p::r=>by
  rw[a0];by_cases e:p.1=k
  ·simp only[nr e,ah e,Bool.true_or,bc]
  ·rw[nt e,ai e,Bool.false_or];exact sH k r
theorem js(kvs:List (κ×V))(k:κ)(v:V):(iG kvs k v).length<=kvs.length+1:=by
 unfold iG;split
 ·rw[lM1];lia
 ·rw[lA1,lC1,bd];lia
theorem mW.isSome_eq{o:Option V}{u:Option dB}(r:mW o u):o.isSome=u.isSome:=by
 cases o with
 |none=>cases u with
  |none=>rfl
  |some _=>exact(show False from r).elim
 |some _=>cases u with
  |none=>exact(show False from r).elim
  |some _=>rfl
theorem mW.getD{o:Option V}{u:Option dB}{d:V}{d':dB}(r:mW o u)(a:d8 d d'):d8 (o.getD d) (u.getD d'):=by
 cases o with
 |none=>cases u with
  |none=>exact a
  |some _=>exact(show False from r).elim
 |some _=>cases u with
  |none=>exact(show False from r).elim
  |some _=>exact r
theorem KV.val{kvs:List (κ×V)}{vs:List (κ×dB)}(r:KV kvs vs)(k:κ):mW (iO kvs k) (valueAt vs k):=by
 unfold KV at r
 induction r with
 |nil=>exact True.intro
 | @cons p q ps c h t ih=>
  obtain⟨h1,h2⟩:=h;by_cases e:p.1=k
  ·have a:q.1=k:=h1.symm.trans e;have b:valueAt (q::c) k=Z q.2:=by simp[valueAt,aZ,a]
   rw[nr e,b];exact h2
  ·have a:¬ q.1=k:=λz=>e (h1.trans z);have b:valueAt (q::c) k=valueAt c k:=by simp[valueAt,aZ,a]
   rw[nt e,b];exact ih
theorem KV.any{kvs:List (κ×V)}{vs:List (κ×dB)}(r:KV kvs vs)(k:κ):(kvs.any λa=>decide (a.1=k))=vs.any λa=>decide (a.1=k):=by
 unfold KV at r
 induction r with
 |nil=>rfl
 |cons h t ih=>rw[a0,a0,ih,h.1]
theorem KV.repl{kvs:List (κ×V)}{vs:List (κ×dB)}(r:KV kvs vs)(k:κ){y:V}{u:dB}(b:d8 y u):
  KV (kvs.map λa=>if a.1=k then(a.1,y)else a) (vs.map λa=>if a.1=k then(a.1,u)else a):=by
 unfold KV at r ⊢
 induction r with
 |nil=>exact .nil
 | @cons p q ps c h t ih=>
  rw[mP1,mP1];refine .cons ?_ ih;obtain⟨h1,h2⟩:=h;by_cases e:p.1=k
  ·rw[ak e,ak (h1.symm.trans e)];exact⟨h1,b⟩
  ·rw[aj e,aj (λz=>e (h1.trans z))];exact⟨h1,h2⟩
theorem KV.put{kvs:List (κ×V)}{vs:List (κ×dB)}(r:KV kvs vs)(k:κ){y:V}{u:dB}(a:d8 y u):KV (iG kvs k y) (stored vs k u):=by
 unfold iG stored;rw[r.any k];by_cases e:(vs.any λb=>decide (b.1=k))=M
 ·rw[ak e,ak e];exact r.repl k a
 ·rw[aj e,aj e];exact Paired.snoc r ⟨O,a⟩
theorem KV.length{kvs:List (κ×V)}{vs:List (κ×dB)}(r:KV kvs vs):kvs.length=vs.length:=Paired.length r
end
theorem pV{P:dF}{w:dH}{k:Key}{u:dB}(r:d8 (kV k) u):(ff P w).is k u=M:=by
 cases k with
 |inl i=>obtain⟨t,e⟩:=(show∃t,u=Value.int i t from r);subst e;exact tJ P w i t
 |inr x=>obtain⟨t,e⟩:=(show∃t,u=Value.str x t from r);subst e;exact tI P w x t
theorem pW{P:dF}{w:dH}:∀{ks:List Key} {a:List dB},eE (ks.map kV) a->ItemsAre (ff P w) ks a
 |[],_,r=>by rw[aY]at r;cases r;exact .nil
 |k::ks,_,r=>by
  rw[mP1]at r;cases r with
  |cons h t=>exact .cons (pV h) (pW t)
abbrev KT(H:Hp):List (List Key×V)->List (List Key×dE×dB)->Prop:=Paired λp q=>p.1=q.1/\H q.2.1=Z (.tup (p.1.map kV))/\d8 p.2 q.2.2
theorem KT.val{H:Hp}{kvs:List (List Key×V)}{xs:List (List Key×dE×dB)}(r:KT H kvs xs)(k:List Key):mW (iO kvs k) ((atKey xs k).map (·.2)):=by
 induction r with
 |nil=>exact True.intro
 | @cons p q ps c h t ih=>
  obtain⟨h1,_,h2⟩:=h;by_cases e:p.1=k
  ·have a:q.1=k:=h1.symm.trans e;have b:atKey (q::c) k=Z q.2:=by simp[atKey,aZ,a]
   rw[nr e,b];exact h2
  ·have a:¬ q.1=k:=λz=>e (h1.trans z);have b:atKey (q::c) k=atKey c k:=by simp[atKey,aZ,a]
   rw[nt e,b];exact ih
theorem KT.repl{H:Hp}{kvs:List (List Key×V)}{xs:List (List Key×dE×dB)}(r:KT H kvs xs)(k:List Key){y:V}{u:dB}(b:d8 y u):
  KT H (kvs.map λa=>if a.1=k then(a.1,y)else a) (xs.map (putAt k u)):=by
 induction r with
 |nil=>exact .nil
 | @cons p q ps d h t ih=>
  rw[mP1,mP1];refine .cons ?_ ih;obtain⟨h1,h2,c⟩:=h;unfold putAt;by_cases e:p.1=k
  ·rw[ak e,ak (h1.symm.trans e)];exact⟨h1,h2,b⟩
  ·rw[aj e,aj (λz=>e (h1.trans z))];exact⟨h1,h2,c⟩
theorem KT.put{H:Hp}{kvs:List (List Key×V)}{xs:List (List Key×dE×dB)}(r:KT H kvs xs)(k:List Key){b:dE}{y:V}{u:dB}(hb:H b=some (.tup (k.map kV)))(a:d8 y u):
  KT H (iG kvs k y) (storedH xs k b u):=by
 have e:(kvs.any λc=>decide (c.1=k))=(atKey xs k).isSome:=by
  rw[sH,(r.val k).isSome_eq,bf]
 unfold iG storedH;rw[e];by_cases q:(atKey xs k).isSome=M
 ·rw[ak q,ak q];exact r.repl k a
 ·rw[aj q,aj q];exact Paired.snoc r ⟨O,hb,a⟩
theorem KT.keeps{H H':Hp}{kvs:List (List Key×V)}{xs:List (List Key×dE×dB)}(r:KT H kvs xs)(ht:∀b ys,H b=Z (.tup ys)->H' b=Z (.tup ys)):KT H' kvs xs:=
 Paired.mapP r λ_ _ z=>⟨z.1,ht _ _ z.2.1,z.2.2⟩
section
variable{P:dF}{w:dH}{H:Hp}{h:dP}{a:dE}
theorem DN{u:HO}(ok:lF P w H h)(e:Rd H a u):eX P w H h a u:=e.ok ok
theorem uk{kvs:List (Key×V)}(ok:lF P w H h)(e:Rd H a (.dK kvs)):kvs.length<=dL/\(a == sysModules)=J /\ ∃vs,KV kvs vs/\h.DictOf (ff P w) a vs:=
 show eX P w H h a (.dK kvs)from DN ok e
theorem ul{kvs:List (Key×V)}(ok:lF P w H h)(e:H a=Z (.dK kvs)):kvs.length<=dL/\(a == sysModules)=J /\ ∃vs,KV kvs vs/\h.DictOf (ff P w) a vs:=uk ok (.inl e)
theorem n0{ks:List Key}(ok:lF P w H h)(e:H a=Z (.tup (ks.map kV))):(tupleKind (ff P w)).is h ks a:=by
 obtain⟨_,b,r,o,h1,h2,n,c⟩:=(show eX P w H h a (.tup (ks.map kV))from ok a _ e);exact⟨o,b.toArray,n,h1,h2,c,by simpa using pW r⟩
theorem uj{kvs:List (List Key×V)}(ok:lF P w H h)(e:Rd H a (.dT kvs)):kvs.length<=dL/\(a == sysModules)=false /\
  ∃xs,KT H kvs xs/\h.DictOfH (tupleKind (ff P w)) a xs:=by
 obtain⟨z,y,xs,r,o,es,ep,h1,h2,f,g,d⟩:=(show eX P w H h a (.dT kvs)from DN ok e);refine⟨z,y,xs,r,o,es,ep,h1,h2,f,g,λx b=>?_,d⟩;have all:∀{l:List (List Key×V)} {m:List (List Key×dE×dB)},KT H l m -> ∀x∈m,(tupleKind (ff P w)).is h x.1 x.2.1:=by
  intro l m q
  induction q with
  |nil=>intro x b;exact nomatch b
  | @cons p q ps i c t ih=>
   intro x b;rcases aF.mp b with e|b
   ·subst e;exact n0 ok (by rw[<- c.1];exact c.2.1)
   ·exact ih x b
 exact all r x b
theorem Im{kvs:List (List Key×V)}(ok:lF P w H h)(e:H a=some (.dT kvs)):kvs.length<=dL/\(a == sysModules)=false /\
  ∃xs,KT H kvs xs/\h.DictOfH (tupleKind (ff P w)) a xs:=uj ok (.inl e)
end
def pk(H:Hp)(a:dE)(y:V)(r:Option V):Prop:=
 (∃kvs k,Rd H a (.dK kvs)/\y=kV k/\r=iO kvs k) \/ ∃kvs k b,Rd H a (.dT kvs)/\y = .ref b/\H b=Z (.tup (k.map kV))/\r=iO kvs k
def yR(H:Hp)(a:dE)(y v:V)(H':Hp):Prop:=
 (∃kvs k,H a=Z (.dK kvs)/\y=kV k/\kvs.length<dL/\H'=upd H a (.dK (iG kvs k v))) \/
 ∃kvs k b,H a=Z (.dT kvs)/\y = .ref b/\H b=Z (.tup (k.map kV))/\kvs.length<dL/\H'=upd H a (.dT (iG kvs k v))
theorem pk.k{H:Hp}{a:dE}{kvs:List (Key×V)}{k:Key}(e:H a=Z (.dK kvs)):pk H a (kV k) (iO kvs k):=.inl ⟨kvs,k,.inl e,O,O⟩
theorem pk.t{H:Hp}{a b:dE}{kvs:List (List Key×V)}{k:List Key}(e:H a=Z (.dT kvs))(c:H b=Z (.tup (k.map kV))):pk H a (.ref b) (iO kvs k):=.inr ⟨kvs,k,b,.inl e,O,c,O⟩
theorem yR.k{H:Hp}{a:dE}{kvs:List (Key×V)}{k:Key}{v:V}(e:H a=Z (.dK kvs))(b:kvs.length<dL):yR H a (kV k) v (upd H a (.dK (iG kvs k v))):=.inl ⟨kvs,k,e,O,b,O⟩
theorem yR.t{H:Hp}{a b:dE}{kvs:List (List Key×V)}{k:List Key}{v:V}(e:H a=some (.dT kvs))(c:H b=some (.tup (k.map kV)))(d:kvs.length<dL):
  yR H a (.ref b) v (upd H a (.dT (iG kvs k v))):=.inr ⟨kvs,k,b,e,O,c,d,O⟩
section
variable{ag:List (dE×Obj)}{σ:St}{H:Hp}{s:dD}{a:dE}{y v:V}{u r:dB}{o:Option V}{A:dG}{E:dB->dD->Prop}
theorem Inv.big(I:Inv X ag σ H s):sysModules<s.heap.objs.size:=by
 have h:dI<s.heap.objs.size:=(I.mod.glob.keeps I.bk).lt;exact bg (by decide) h
theorem yz{Q:dB->dD->Prop}(t:A.units+1<cLine)(I:Inv X ag σ H s)(g:pk H a y (some v))(q:d8 y u)(h:∀ f s',Inv X ag σ H s'->d8 v f->Q f s'):
  dM (model X.prog X.w) A (getItem (.ref a) u) Q E s:=by
 rcases g with⟨kvs,k,e,i,l⟩|⟨kvs,k,b,e,i,r,l⟩
 ·subst i;obtain⟨z,x,vs,c,n⟩:=uk I.hok e;obtain⟨f,j,d⟩:=mW.some_of (v:=v) (o:=valueAt vs k) (by rw[l];exact c.val k);exact wpAny_getItem_of (pV q) n.mapOf j (h f _ (I.tok _) d)
 ·subst i;cases(show u=Value.ref b from q);obtain⟨z,x,xs,c,n⟩:=uj I.hok e;obtain⟨f,j,d⟩:=mW.some_of (v:=v) (o:=(atKey xs k).map (·.2)) (by rw[l];exact c.val k);obtain⟨p,w,m⟩:=oM1.mp j;refine wpAny_getItem_heap (tupleKind_room_in1 t) (n0 I.hok r) n w ?_;rw[m];exact h f _ (I.tok _) d
theorem JZ{Q:dB->dD->Prop}(n:A.units+1<cLine)(I:Inv X ag σ H s)(g:pk H a y o)(j:d8 y u)(h:∀ s',Inv X ag σ H s'->Q (.bool o.isSome) s'):
  dM (model X.prog X.w) A (compareOp .In u (.ref a)) Q E s:=by
 rcases g with⟨kvs,k,e,d,l⟩|⟨kvs,k,b,e,d,m,l⟩
 ·subst d;obtain⟨z,f,vs,c,i⟩:=uk I.hok e;refine wpAny_in_of (pV j) f i.mapOf ?_;rw[<- (c.val k).isSome_eq,<- l];exact h _ (I.tok _)
 ·subst d;cases(show u=Value.ref b from j);obtain⟨z,f,xs,c,i⟩:=uj I.hok e;refine wpAny_in_heap (tupleKind_room_in1 n) (n0 I.hok m) f i ?_;have q:=(c.val k).isSome_eq;rw[bf]at q;rw[<- q,<- l];exact h _ (I.tok _)
theorem Do{Q:dB->dD->Prop}(n:A.units+1<cLine)(I:Inv X ag σ H s)(g:pk H a y o)(j:d8 y u)(h:∀ s',Inv X ag σ H s'->Q (.bool (!o.isSome)) s'):
  dM (model X.prog X.w) A (compareOp .NotIn u (.ref a)) Q E s:=by
 rcases g with⟨kvs,k,e,d,l⟩|⟨kvs,k,b,e,d,m,l⟩
 ·subst d;obtain⟨z,f,vs,c,i⟩:=uk I.hok e;refine wpAny_notIn_of (pV j) f i.mapOf ?_;rw[<- (c.val k).isSome_eq,<- l];exact h _ (I.tok _)
 ·subst d;cases(show u=Value.ref b from j);obtain⟨z,f,xs,c,i⟩:=uj I.hok e;refine wpAny_notIn_heap (tupleKind_room_in1 n) (n0 I.hok m) f i ?_;have q:=(c.val k).isSome_eq;rw[bf]at q;rw[<- q,<- l];exact h _ (I.tok _)
theorem ln{h':dP}{t':Nat}{c:HO}(I:Inv X ag σ H s)(mu:Mut (H a))(hs:Heap.SameBut a s.heap h')(he:∃ q,h'.get? a=some q)(new:eX X.prog X.w (upd H a c) h' a c):
  Inv X ag σ (upd H a c) {s with heap:=h',toks:=t'}:=
 I.write (x:=a) (e:=a) mu (.inl O) (λb q d z=>(hs.2 b d).trans z) he new
theorem Bd{P:dF}{w:dH}{H':Hp}{h':dP}{kvs:List (Key×V)}{vs:List (Key×dB)}(z:kvs.length<=dL)(hd:(a == sysModules)=false)(b:KV kvs vs)(dd:h'.DictOf (ff P w) a vs):
  eX P w H' h' a (.dK kvs):=⟨z,hd,vs,b,dd⟩
theorem yx{H':Hp}{Q:Unit->dD->Prop}(G:A.units+1<cLine)(I:Inv X ag σ H s)(g:yR H a y v H')(B:d8 y u)(x:d8 v r)(h:∀ s',Inv X ag σ H' s'->Q () s'):
  dM (model X.prog X.w) A (setItem (.ref a) u r) Q E s:=by
 rcases g with⟨kvs,k,e,p,l,t⟩|⟨kvs,k,b,e,p,D,l,t⟩
 ·subst p t;obtain⟨z,n,vs,d,o⟩:=ul I.hok e;have j:vs.length<=dL:=by rw[<- d.length];exact z
  have w:(iG kvs k v).length<=dL:=by have:=js kvs k v;lia
  refine wpAny_setItem_pairs (hsz:=j) (pV B) o λh' f m=>h _ ?_;have F:∃q,h'.get? a=Z q:=let ⟨q,_,_,i,_⟩:=f;⟨q,i⟩
  exact ln I (by rw[e];exact True.intro) m F (Bd w n (d.put k x) f)
 ·subst p t;cases(show u=Value.ref b from B);obtain⟨z,n,xs,d,o⟩:=Im I.hok e;have j:xs.length<=dL:=by rw[<- Paired.length d];exact z
  have w:(iG kvs k v).length<=dL:=by have:=js kvs k v;lia
  refine wpAny_setItem_heap (hsz:=j) (tupleKind_room_in1 G) (n0 I.hok D) o λh' f m=>h _ ?_;obtain⟨q,es,ep,i,h2,K,L,_,am⟩:=f;refine ln I (by rw[e];exact True.intro) m ⟨q,i⟩ ⟨w,n,_,(d.put k D x).keeps λc ys C=>?_,q,es,ep,i,h2,K,L,am⟩;rw[d0 (HB C e (λz=>nomatch z))];exact C
end
section
variable{ag:List (dE×Obj)}{σ:St}{H:Hp}{s:dD}{a:dE}{kvs:List (Key×V)}{k:Key}{u:dB}{A:dG}{E:dB->dD->Prop}
end
theorem uo{X:Cx}{ag:List (dE×Obj)}{σ:St}{H:Hp}{s:dD}{a:dE}{y:V}{o:Option V}(I:Inv X ag σ H s)(g:pk H a y o):s.TypeIs (.ref a) "dict":=by
 rcases g with⟨kvs,k,e,_,_⟩|⟨kvs,k,b,e,_,_,_⟩
 ·obtain⟨_,_,vs,_,c⟩:=uk I.hok e;exact c.typeIs
 ·obtain⟨_,_,xs,_,c⟩:=uj I.hok e;exact c.typeIs
section
variable{o i e value:Expr}{pos pos' tpos:Pos}{td ty tv:TE}
end
theorem um{P:dF}{w:dH}{H:Hp}(h:dP)(hb:sysModules<h.objs.size):eX P w H (h.push {cls:=.type "dict",data:=.dict #[]}) h.objs.size (.dK []):=
 ⟨bh _,beq_eq_false_iff_ne.mpr (Ne.symm (nN1 hb)),[],.nil,Heap.DictOf.new h⟩
def Ep:TE:=λ_ H Q=>∀p,H p=Y->Q (.ref p) (upd H p (.dK []))
section
variable{pos:Pos}
theorem z0:PE X (.Dict [] [] pos) Ep:=λag s σ H Q I h=>
 wpAny_Dict_empty ⟨.ref s.heap.objs.size,_,I.laid (a:=s.heap.objs.size) (o:=.dK []) (t':=s.toks) (λ_ _ q=>hP1 _ q) (nR1 _) (um s.heap I.big),O,h _ (I.hok.fresh (nR1 _))⟩
end
def qy:List (TE×TE)->St->Hp->(List (V×V)->Hp->Prop)->Prop
 |[],_,H,Q=>Q [] H
 |(tk,tv)::r,σ,H,Q=>tk σ H λx H1=>tv σ H1 λy H2=>qy r σ H2 λps H3=>Q ((x,y)::ps) H3
abbrev VV:List (V×V)->List (dB×dB)->Prop:=Paired λp q=>d8 p.1 q.1/\d8 p.2 q.2
def IF(X:Cx)(pos:Pos)(keys:List (Option Expr))(values:List Expr)(trs:List (TE×TE)):Prop:=
 ∀(ag:List (dE×Obj)) (s:dD) (σ:St) (H:Hp) (Q:List (V×V)->Hp->Prop),Inv X ag σ H s->qy trs σ H Q ->
  dM (model X.prog X.w) X.A (evalPairs (pairTrees keys values X.env pos)) (λvs s'=>∃ps H',Inv X ag σ H' s'/\VV ps vs/\Q ps H') X.xe s
theorem Cf{X:Cx}{pos:Pos}:IF X pos [] [] []:=λag s σ H Q I h=>pairTrees_nil_walk ⟨[],H,I,.nil,h⟩
theorem zQ{X:Cx}{pos:Pos}{k v:Expr}{ks:List (Option Expr)}{vs:List Expr}{tk tv:TE}{a:List (TE×TE)}(hk:PE X k tk)(hv:PE X v tv)(hr:IF X pos ks vs a):
  IF X pos (Z k::ks) (v::vs) ((tk,tv)::a):=λag s σ H Q I h=>
 pairTrees_cons_walk (fD (hk ag s σ H _ I h) λu i ⟨x,H1,l,m,d⟩=>fD (hv ag i σ H1 _ l d) λq e ⟨y,H2,j,o,c⟩=>
  fD (hr ag e σ H2 _ j c) λws p ⟨ps,f,g,b,n⟩=>⟨(x,y)::ps,f,g,.cons ⟨m,o⟩ b,n⟩)
def iW(kvs more:List (Key×V)):List (Key×V):=more.foldl (λacc kv=>iG acc kv.1 kv.2) kvs
theorem KV.merge:∀{more:List (Key×V)} {rs:List (Key×dB)} {kvs:List (Key×V)} {vs:List (Key×dB)},KV more rs->KV kvs vs->KV (iW kvs more) (merged vs rs):=by
 intro more rs kvs vs r;unfold KV at r
 induction r generalizing kvs vs with
 |nil=>intro q;exact q
 | @cons p q ps b h t ih=>
  intro a;have e:KV (iG kvs p.1 p.2) (stored vs q.1 q.2):=by
   have:=a.put p.1 h.2;rw[<- h.1];exact this
  exact ih e
theorem j8:∀(more kvs:List (Key×V)),(iW kvs more).length<=kvs.length+more.length
 |[],kvs=>by show kvs.length<=kvs.length+0;lia
 |p::r,kvs=>by
  have h1:=j8 r (iG kvs p.1 p.2);have h2:=js kvs p.1 p.2;show(iW (iG kvs p.1 p.2) r).length<=_;rw[lC1];lia
theorem oB{P:dF}{w:dH}:∀{kvs:List (Key×V)} {ws:List (dB×dB)},VV (kvs.map λd=>(kV d.1,d.2)) ws -> ∃rs,Carries (ff P w) ws rs/\KV kvs rs
 |[],_,r=>by rw[aY]at r;cases r;exact⟨[],True.intro,.nil⟩
 |p::kvs,_,r=>by
  rw[mP1]at r;cases r with
  | @cons a b as bs h t=>
   obtain⟨rs,c,q⟩:=oB (P:=P) (w:=w) t;obtain⟨b1,b2⟩:=b;exact⟨(p.1,b2)::rs,⟨pV h.1,O,c⟩,.cons ⟨O,h.2⟩ q⟩
def G9(trs:List (TE×TE)):TE:=fun σ H Q=>∀p,H p=Y->qy trs σ (upd H p (.dK [])) λps H2=>H2 p=Z (.dK []) /\ ∃kvs:List (Key×V),ps=kvs.map (λkv=>(kV kv.1,kv.2))/\kvs.length<=15/\Q (.ref p) (upd H2 p (.dK (iW [] kvs)))
theorem Co{X:Cx}{pos:Pos}{keys:List (Option Expr)}{values:List Expr}{b:List (TE×TE)}(h:IF X pos keys values b)(f:keys.all (·.isSome)=M)(v:keys.length=values.length)(h0:keys≠[])(g:keys.length<=15):PE X (.Dict keys values pos) (G9 b):=by
 intro ag s σ H Q I q;have p:=I.hok.fresh (nR1 s.heap.objs.size);have x:=I.laid (a:=s.heap.objs.size) (o:=.dK []) (h':=s.heap.push {cls:=.type "dict",data:=.dict #[]}) (t':=s.toks) (λ_ _ q=>hP1 _ q) (nR1 _) (um s.heap I.big);refine wpAny_Dict_walk (knd:=ff X.prog X.w) f v h0 g (fD (h ag _ σ _ _ x (q _ p)) λws B ⟨ps,H2,j,i,e,kvs,ep,A,l⟩=>?_);subst ep;obtain⟨rs,c,rk⟩:=oB (P:=X.prog) (w:=X.w) i;obtain⟨z,t,y,n,u⟩:=ul j.hok e;cases n;refine⟨rs,c,u,λh' d r=>⟨.ref s.heap.objs.size,_,?_,O,l⟩⟩;have m:(iW [] kvs).length<=dL:=by
  have h1:=j8 kvs [];rw[bd]at h1;rw[sizeLine_eq];lia
 have k:∃q,h'.get? s.heap.objs.size=Z q:=let ⟨q,_,_,hq,_⟩:=d;⟨q,hq⟩
 exact ln j (by rw[e];exact True.intro) r k (Bd m t (rk.merge .nil) d)
structure M2 (X:Cx)(o:Expr)(m:Str)(apos:Pos)(e f:Expr)(cpos:Pos):Prop where
 base:attributeBase o m X.env (eval o X.env)=eval o X.env
 few:((backTo cpos (dJ [e,f] X.env)).all (λx=> !x.1)&&(backToKw cpos (keywordEach [] X.env)).all (λx=>x.1.isSome)
  && decide (([e,f]:List Expr).length+([]:List Keyword).length+(if([]:List Keyword).isEmpty then 0 else 1)<30))=true
 line:(apos.endLine == cpos.line)=true
 trees:backTo cpos (dJ [e,f] X.env)=[(false,eval e X.env),(false,eval f X.env)]
section
variable{ag:List (dE×Obj)}{σ:St}{H:Hp}{s:dD}{a:dE}{y d:V}{u r:dB}{o:Option V}{A:dG}{E:dB->dD->Prop}
end
section
variable{o e f:Expr}{apos cpos:Pos}{td ty tx:TE}
end
section
variable{ag:List (dE×Obj)}{σ:St}{H:Hp}{s:dD}{a:dE}{kvs:List (Key×V)}{A:dG}{E:dB->dD->Prop}
end
section
variable{ag:List (dE×Obj)}{σ:St}{H:Hp}{s:dD}{a:dE}{y:V}{u:dB}{A:dG}{E:dB->dD->Prop}
end
end L2
namespace Mi
open PySem PySem.Spec PyProof.Rows L2
inductive TK where
 |non|int (i:Int)|tup (xs:List TK)
instance:DecidableEq TK:=λ_ _=>Classical.propDecidable _
mutual
noncomputable def TK.hash:TK->Int
 | .non=>0xFCA86420
 | .int i=>hashInt i
 | .tup xs=>reduceHash (Builtin.Tuple.tupleHashOf (TK.hashes xs))
noncomputable def TK.hashes:List TK->List Int
 |[]=>[]
 |x::xs=>TK.hash x::TK.hashes xs
end
mutual
noncomputable def TK.draws:TK->Nat
 | .non=>1
 | .int _=>1
 | .tup xs=>TK.drawsAll xs+1
noncomputable def TK.drawsAll:List TK->Nat
 |[]=>0
 |x::xs=>TK.draws x+TK.drawsAll xs
end
mutual
noncomputable def TK.dep:TK->Nat
 | .non=>0
 | .int _=>0
 | .tup xs=>TK.depAll xs+1
noncomputable def TK.depAll:List TK->Nat
 |[]=>0
 |x::xs=>max (TK.dep x) (TK.depAll xs)
end
theorem TK.dep_mem:∀{xs:List TK} {x:TK},x∈xs->x.dep<=TK.depAll xs
 |y::ys,x,h=>by
  rw[TK.depAll];rcases aF.mp h with e|e
  ·rw[e];exact Nat.le_max_left _ _
  ·exact aC (TK.dep_mem e) (Nat.le_max_right _ _)
theorem TK.hashes_app:∀a b:List TK,TK.hashes (a++b)=TK.hashes a++TK.hashes b
 |[],_=>rfl
 |x::xs,b=>by rw[bi,TK.hashes,TK.hashes,TK.hashes_app xs b];rfl
theorem TK.draws_app:∀a b:List TK,TK.drawsAll (a++b)=TK.drawsAll a+TK.drawsAll b
 |[],_=>by simp[TK.drawsAll]
 |x::xs,b=>by rw[bi,TK.drawsAll,TK.drawsAll,TK.draws_app xs b,bj]
def vJ(xs:Array Nat):Prop:=xs.toList.Pairwise (· < ·)
noncomputable def DM(m:Nat):Nat->Nat->Nat->List Nat
 |0,_,_=>[]
 |n+1,i,b=>List.range' i (SetTable.runEnd m i-i+1)++DM m n (SetTable.leap m i b).1 (SetTable.leap m i b).2
def KN(m:Nat):Prop:=m=7\/m=31\/m=127
def Jx(m:Nat)(h:Int):List Nat:=DM m (SetTable.turns m) (SetTable.bits h%(m+1)) (SetTable.bits h)
def Jz(m:Nat)(occ:List Nat)(h:Int)(j:Nat):Prop:=∃pre post,Jx m h=pre++j::post /\ ∀y∈pre,y∈occ
structure Jy (es:Array (Int×dB))(t:SetTable):Prop where
 mks:KN t.mask
 up:vJ t.place
 du:t.dummies = #[]
 sz:t.place.size=es.size
 le:∀j∈t.place.toList,j<=t.mask
 fl:es.size<=t.mask
 rc:∀z∈t.place.toList.zip es.toList,Jz t.mask t.place.toList z.2.1 z.1
noncomputable def stO(es:Array (Int×dB))(ep:Nat)(t:SetTable):Obj:={cls:=.type "set",dict:=Y,data:=.set es ep t,slots:= #[]}
def IE(a:dE)(xs:List (TK×dE×dB))(h:dP):Prop:=(xs.map (·.1)).Nodup /\ ∃es ep t,h.get? a=Z (stO es ep t)/\Jy es t/\t.tooFull=J/\(∀e∈es.toList,∃z∈xs,e=(z.1.hash,.ref z.2.1))/\(∀z∈xs,(z.1.hash,Value.ref z.2.1)∈es.toList)/\es.size=xs.length
inductive D where
 |non|bl (b:Bool)|int (i:Int)|str (x:Str)|tup (xs:List D)|rol (xs:List D)|ref (n:Nat)|fn (x:Str)
inductive Ob where
 |lst (xs:List D)|dct (kvs:List (Key×D))|dcT (kvs:List (TK×D))|iset (xs:List Int)|dcF (kvs:List (TK×D))|tst (ks:List TK)
abbrev Sto:=List Ob
abbrev Ev:=List (Option D)
abbrev FE:=Ev->Sto->Option (D×Sto)
abbrev FT:=Ev->Sto->Option (Bool×Sto)
abbrev FA:=Ev->Sto->Option (List D×Sto)
abbrev FN:=List D->Sto->Option (D×Sto)
inductive Fl where
 |nx|rt (d:D)|bk|ct
abbrev FS:=Ev->Sto->Option (Fl×Ev×Sto)
def RoL(K:Fg1)(H:Hp)(a:dE)(xs:List V):Prop:=(∃o,H a=Z (.frz o (.lst xs))) \/
 ∃(o:Obj) (its:Array dB) (n:Nat),K.lookup a=Z o/\o.cls = .type "list"/\o.dict=Y/\o.data = .seq its n/\its.size<=dL/\eE xs its.toList
theorem RoL.sq{K:Fg1}{H:Hp}{a:dE}{xs:List V}(h:RoL K H a xs):mU K H a xs:=h.elim (λ⟨o,q⟩=>.inl (.inr ⟨o,q⟩)) .inr
mutual
inductive eO (K:Fg1)(H:Hp)(mu:List dE):D->V->Prop
 |non:eO K H mu .non .non
 |bl (b:Bool):eO K H mu (.bl b) (.bl b)
 |int (i:Int):eO K H mu (.int i) (.int i)
 |str (x:Str):eO K H mu (.str x) (.str x)
 |tup {ds:List D} {vs:List V} {a:dE} (h:kr K H a vs) (r:d5 K H mu ds vs):eO K H mu (.tup ds) (.ref a)
 |rol {ds:List D} {vs:List V} {a:dE} (h:RoL K H a vs) (r:d5 K H mu ds vs):eO K H mu (.rol ds) (.ref a)
 |ref {n:Nat} {a:dE} (h:mu[n]?=some a):eO K H mu (.ref n) (.ref a)
 |fn {x:Str} {a:dE} (h:wN1 K dI x=some (some (.ref a))):eO K H mu (.fn x) (.ref a)
inductive d5 (K:Fg1)(H:Hp)(mu:List dE):List D->List V->Prop
 |nil:d5 K H mu [] []
 |cons {d:D} {v:V} {ds:List D} {vs:List V} (r:eO K H mu d v) (t:d5 K H mu ds vs):d5 K H mu (d::ds) (v::vs)
end
structure Ext (mu mu':List dE)(H H':Hp):Prop where
 pre:mu <+: mu'
 old:∀a o,H a=some o->a∉mu->H' a=some o
 tup:∀a xs,Rd H a (.tup xs)->Rd H' a (.tup xs)
 frz:∀a o u,H a=some (.frz o u)->H' a=some (.frz o u)
 new:∀a∈mu',a∈mu\/H a=none
theorem Ext.refl(mu:List dE)(H:Hp):Ext mu mu H H:=⟨bm,λ_ _ h _=>h,λ_ _ h=>h,λ_ _ _ h=>h,λ_ h=>.inl h⟩
theorem Ext.trans{mu m1 m2:List dE}{H H1 H2:Hp}(a:Ext mu m1 H H1)(b:Ext m1 m2 H1 H2):Ext mu m2 H H2 where
 pre:=a.pre.trans b.pre
 old:=λc o h n=>b.old c o (a.old c o h n) λz=>by
  rcases a.new c z with q|q
  ·exact n q
  ·rw[h]at q;cases q
 tup:=λc xs h=>b.tup c xs (a.tup c xs h)
 frz:=λc o u h=>b.frz c o u (a.frz c o u h)
 new:=λc h=>by
  rcases b.new c h with q|q
  ·exact a.new c q
  ·by_cases z:c∈mu
   ·exact .inl z
   ·right;cases e:H c with
    |none=>rfl
    |some o=>rw[a.old c o e z]at q;cases q
theorem Ext.at{mu mu':List dE}{H H':Hp}(e:Ext mu mu' H H'){n:Nat}{a:dE}(h:mu[n]?=Z a):mu'[n]?=Z a:=by
 obtain⟨t,rfl⟩:=e.pre;have b:n<mu.length:=(gE1.mp h).1;rw[gL1 b];exact h
theorem Ext.back{mu mu':List dE}{H H':Hp}(e:Ext mu mu' H H'):Ext mu mu H H':=⟨bm,e.old,e.tup,e.frz,λ_ h=>.inl h⟩
structure sA (mu mu':List dE)(H H':Hp):Prop where
 pre:mu <+: mu'
 tup:∀a xs,Rd H a (.tup xs)->Rd H' a (.tup xs)
 frz:∀a o u,H a=some (.frz o u)->H' a=some (.frz o u)
theorem Ext.w{mu mu':List dE}{H H':Hp}(e:Ext mu mu' H H'):sA mu mu' H H':=⟨e.pre,e.tup,e.frz⟩
theorem sA.trans{mu m1 m2:List dE}{H H1 H2:Hp}(a:sA mu m1 H H1)(b:sA m1 m2 H1 H2):sA mu m2 H H2:=⟨a.pre.trans b.pre,λc xs h=>b.tup c xs (a.tup c xs h),λc o u h=>b.frz c o u (a.frz c o u h)⟩
theorem sA.at{mu mu':List dE}{H H':Hp}(e:sA mu mu' H H'){n:Nat}{a:dE}(h:mu[n]?=Z a):mu'[n]?=Z a:=by
 obtain⟨t,rfl⟩:=e.pre;have b:n<mu.length:=(gE1.mp h).1;rw[gL1 b];exact h
structure yY (mu mu':List dE)(H H':Hp):Prop where
 pre:mu <+: mu'
 tup:∀a xs,Rd H a (.tup xs)->Rd H' a (.tup xs)
 frl:∀a o xs,H a=some (.frz o (.lst xs))->H' a=some (.frz o (.lst xs))
theorem sA.v{mu mu':List dE}{H H':Hp}(e:sA mu mu' H H'):yY mu mu' H H':=⟨e.pre,e.tup,λa o xs h=>e.frz a o _ h⟩
theorem Ext.v{mu mu':List dE}{H H':Hp}(e:Ext mu mu' H H'):yY mu mu' H H':=e.w.v
theorem yY.at{mu mu':List dE}{H H':Hp}(e:yY mu mu' H H'){n:Nat}{a:dE}(h:mu[n]?=Z a):mu'[n]?=Z a:=by
 obtain⟨t,rfl⟩:=e.pre;have b:n<mu.length:=(gE1.mp h).1;rw[gL1 b];exact h
theorem kr.exv{K:Fg1}{mu mu':List dE}{H H':Hp}{a:dE}{vs:List V}(e:yY mu mu' H H')(h:kr K H a vs):kr K H' a vs:=by
 rcases h with h|h
 ·exact .inl (e.tup a vs h)
 ·exact .inr h
theorem RoL.exv{K:Fg1}{mu mu':List dE}{H H':Hp}{a:dE}{vs:List V}(e:yY mu mu' H H')(h:RoL K H a vs):RoL K H' a vs:=by
 rcases h with⟨o,h⟩|h
 ·exact .inl ⟨o,e.frl a o _ h⟩
 ·exact .inr h
theorem eO.exv{K:Fg1}{mu mu':List dE}{H H':Hp}(e:yY mu mu' H H'):∀ {d:D} {v:V},eO K H mu d v->eO K H' mu' d v:=fun h=>h.rec (motive_1:=fun d v _=>eO K H' mu' d v) (motive_2:=fun ds vs _=>d5 K H' mu' ds vs)
  .non .bl .int .str (λh _ ih=>.tup (kr.exv e h) ih) (λh _ ih=>.rol (RoL.exv e h) ih) (λh=>.ref (e.at h)) (λh=>.fn h) .nil (λ_ _ a b=>.cons a b)
theorem d5.ind{K:Fg1}{mu:List dE}{H:Hp}{P:(ds:List D)->(vs:List V)->d5 K H mu ds vs->Prop}(hn:P [] [] .nil)(hc:∀{d v ds vs} (r:eO K H mu d v) (t:d5 K H mu ds vs),P ds vs t->P (d::ds) (v::vs) (.cons r t)){ds:List D}{vs:List V}(h:d5 K H mu ds vs):P ds vs h:=
 h.rec (motive_1:=λ_ _ _=>True) (motive_2:=P) trivial (λ_=>trivial) (λ_=>trivial) (λ_=>trivial) (λ_ _ _=>trivial) (λ_ _ _=>trivial) (λ_=>trivial) (λ_=>trivial) hn (λr t _ ih=>hc r t ih)
theorem d5.exv{K:Fg1}{mu mu':List dE}{H H':Hp}(e:yY mu mu' H H'):∀{ds:List D} {vs:List V},d5 K H mu ds vs->d5 K H' mu' ds vs:=λh=>h.ind (P:=λds vs _=>d5 K H' mu' ds vs) .nil λr _ ih=>.cons (eO.exv e r) ih
section
variable{K:Fg1}{mu mu':List dE}{H H':Hp}{a:dE}{vs:List V}
theorem eO.exw(e:sA mu mu' H H'){d:D}{v:V}(h:eO K H mu d v):eO K H' mu' d v:=h.exv e.v
theorem d5.exw(e:sA mu mu' H H'){ds:List D}(h:d5 K H mu ds vs):d5 K H' mu' ds vs:=h.exv e.v
theorem eO.ext(e:Ext mu mu' H H'){d:D}{v:V}(h:eO K H mu d v):eO K H' mu' d v:=h.exv e.v
theorem d5.ext(e:Ext mu mu' H H'){ds:List D}(h:d5 K H mu ds vs):d5 K H' mu' ds vs:=h.exv e.v
end
section
variable{K:Fg1}{H:Hp}{mu:List dE}
theorem d5.length:∀{ds:List D} {vs:List V},d5 K H mu ds vs->ds.length=vs.length:=λh=>h.ind (P:=λds vs _=>ds.length=vs.length) O λ_ _ ih=>congrArg (· + 1) ih
theorem d5.get:∀{ds:List D} {vs:List V} {i:Nat} {d:D},d5 K H mu ds vs->ds[i]?=Z d -> ∃v,vs[i]?=Z v/\eO K H mu d v:=by
 intro ds vs i d h e
 induction h using d5.ind generalizing i with
 |hn=>cases e
 |hc r t ih=>cases i with
  |zero=>cases e;exact⟨_,O,r⟩
  |succ i=>exact ih (i:=i) e
theorem d5.getV:∀{ds:List D} {vs:List V} {i:Nat} {v:V},d5 K H mu ds vs->vs[i]?=Z v -> ∃d,ds[i]?=Z d/\eO K H mu d v:=by
 intro ds vs i d h e
 induction h using d5.ind generalizing i with
 |hn=>cases e
 |hc r t ih=>cases i with
  |zero=>cases e;exact⟨_,O,r⟩
  |succ i=>exact ih (i:=i) e
theorem d5.append:∀{ds es:List D} {vs ws:List V},d5 K H mu ds vs->d5 K H mu es ws->d5 K H mu (ds++es) (vs++ws):=λh s=>h.ind (P:=λds vs _=>d5 K H mu (ds++_) (vs++_)) s λr _ ih=>.cons r ih
theorem d5.take:∀{ds:List D} {vs:List V} (n:Nat),d5 K H mu ds vs->d5 K H mu (ds.take n) (vs.take n):=by
 intro ds vs n h
 induction h using d5.ind generalizing n with
 |hn=>rw[av,av];exact .nil
 |hc r t ih=>cases n with
  |zero=>exact .nil
  |succ n=>exact .cons r (ih n)
theorem d5.drop:∀{ds:List D} {vs:List V} (n:Nat),d5 K H mu ds vs->d5 K H mu (ds.drop n) (vs.drop n):=by
 intro ds vs n h
 induction h using d5.ind generalizing n with
 |hn=>rw[aw,aw];exact .nil
 |hc r t ih=>cases n with
  |zero=>exact .cons r t
  |succ n=>exact ih n
theorem d5.set{d:D}{v:V}(r:eO K H mu d v):∀{ds:List D} {vs:List V} (i:Nat),d5 K H mu ds vs->d5 K H mu (ds.set i d) (vs.set i v):=by
 intro ds vs i h
 induction h using d5.ind generalizing i with
 |hn=>exact .nil
 |hc q t ih=>cases i with
  |zero=>exact .cons r t
  |succ i=>exact .cons q (ih i)
theorem d5.eraseIdx:∀{ds:List D} {vs:List V} (i:Nat),d5 K H mu ds vs->d5 K H mu (ds.eraseIdx i) (vs.eraseIdx i):=by
 intro ds vs i h
 induction h using d5.ind generalizing i with
 |hn=>exact .nil
 |hc q t ih=>cases i with
  |zero=>exact t
  |succ i=>exact .cons q (ih i)
end
def KR{κ:Type}(K:Fg1)(H:Hp)(mu:List dE):List (κ×D)->List (κ×V)->Prop:=Paired λp q=>p.1=q.1/\eO K H mu p.2 q.2
mutual
noncomputable def tkD:TK->D
 | .non=>.non
 | .int i=>.int i
 | .tup xs=>.tup (ja xs)
noncomputable def ja:List TK->List D
 |[]=>[]
 |x::xs=>tkD x::ja xs
end
def gG(a:dE)(xs:List (TK×dE×dB))(h:dP):Prop:=(a == sysModules)=J/\(xs.map (·.1)).Nodup /\ ∃o es ep,h.get? a=Z o/\o.ExactDict/\o.data = .dict es ep/\es.toList=xs.map λx=>(⟨x.1.hash,.ref x.2.1,x.2.2⟩:DictEntry)
def xw(a:dE)(xs:List (TK×dE×dB))(o:Obj):Prop:=(a == sysModules)=J/\(xs.map (·.1)).Nodup/\o.ExactDict /\ ∃es ep,o.data = .dict es ep/\es.toList=xs.map λx=>(⟨x.1.hash,.ref x.2.1,x.2.2⟩:DictEntry)
def KT(K:Fg1)(H:Hp)(mu:List dE):List (TK×D)->List (TK×dE×dB)->Prop:=Paired λp q=>p.1=q.1/\p.1.dep<=8/\eO K H mu (tkD p.1) (.ref q.2.1) /\ ∃v,d8 v q.2.2/\eO K H mu p.2 v
def l7(K:Fg1)(H:Hp)(mu:List dE)(a:dE):Ob->Prop
 | .lst ds=>∃vs,H a=Z (.lst vs)/\d5 K H mu ds vs
 | .dct kvs=>∃ws,H a=Z (.dK ws)/\KR K H mu kvs ws
 | .dcT kvs=>∃xs,H a=Z (.ext (gG a xs))/\KT K H mu kvs xs/\xs.length<=dL
 | .iset xs=>H a=Z (.set (λk=>xs.contains k) xs.length)/\xs.Nodup
 | .dcF kvs=>∃xs,(∃o u,H a=Z (.frz o u)/\xw a xs o)/\KT K H mu kvs xs/\xs.length<=dL
 | .tst ks=>∃xs,H a=Z (.ext (IE a xs))/\KT K H mu (ks.map λk=>(k,D.non)) xs
structure Sim (K:Fg1)(H:Hp)(mu:List dE)(S:Sto):Prop where
 len:mu.length=S.length
 nd:mu.Nodup
 ob:∀(n:Nat) (o:Ob) (a:dE),S[n]?=some o->mu[n]?=some a->l7 K H mu a o
structure fH (K:Fg1)(H:Hp)(mu:List dE)(r:Ev)(σ:L2.St):Prop where
 len:r.length=σ.length
 val:∀(i:Nat) (d:D),r[i]?=some (some d) -> ∃v,σ[i]?=some (some v)/\eO K H mu d v
theorem fH.ext{K:Fg1}{mu mu':List dE}{H H':Hp}{r:Ev}{σ:L2.St}(e:Ext mu mu' H H')(h:fH K H mu r σ):fH K H' mu' r σ:=⟨h.len,λi d q=>by
 obtain⟨v,b,a⟩:=h.val i d q;exact⟨v,b,a.ext e⟩⟩
theorem KR.ext{κ:Type}{K:Fg1}{mu mu':List dE}{H H':Hp}{ks:List (κ×D)}{ws:List (κ×V)}(e:Ext mu mu' H H')(h:KR K H mu ks ws):KR K H' mu' ks ws:=
 Paired.mapP h λ_ _ z=>⟨z.1,z.2.ext e⟩
theorem KT.ext{K:Fg1}{mu mu':List dE}{H H':Hp}{ks:List (TK×D)}{ws:List (TK×dE×dB)}(e:Ext mu mu' H H')(h:KT K H mu ks ws):KT K H' mu' ks ws:=
 Paired.mapP h λ_ _ ⟨z,d,k,v,a,r⟩=>⟨z,d,k.ext e,v,a,r.ext e⟩
theorem Sim.nil{K:Fg1}{H:Hp}:Sim K H [] []:=⟨O,bn,λn o a h=>by simp at h⟩
theorem Sim.here{K:Fg1}{H:Hp}{mu:List dE}{S:Sto}(s:Sim K H mu S){a:dE}(h:a∈mu):∃o,H a=Z o:=by
 obtain⟨n,b⟩:=bo h;have c:n<S.length:=by rw[<- s.len];exact(gE1.mp b).1
 have q:=s.ob n _ a (gG1 c) b;cases e:S[n]with
 |lst ds=>rw[e]at q;obtain⟨vs,z,_⟩:=q;exact⟨_,z⟩
 |dct ks=>rw[e]at q;obtain⟨vs,z,_⟩:=q;exact⟨_,z⟩
 |dcT ks=>rw[e]at q;obtain⟨vs,z,_⟩:=q;exact⟨_,z⟩
 |iset xs=>rw[e]at q;exact⟨_,q.1⟩
 |dcF ks=>rw[e]at q;obtain⟨vs,⟨_,_,z,_⟩,_⟩:=q;exact⟨_,z⟩
 |tst ks=>rw[e]at q;obtain⟨vs,z,_⟩:=q;exact⟨_,z⟩
def po(K:Fg1)(mu:List dE)(H:Hp)(d:D)(S':Sto)(Q:VK):Prop:=∀v H' mu',Ext mu mu' H H'->eO K H' mu' d v->Sim K H' mu' S'->Q v H'
inductive tM (K:Fg1)(m:FE)(σ:L2.St)(H:Hp)(Q:VK):Prop
 |mk (r:Ev) (mu:List dE) (S:Sto) (d:D) (S':Sto) (he:fH K H mu r σ) (hs:Sim K H mu S) (hm:m r S=some (d,S')) (hc:po K mu H d S' Q)
inductive zl (K:Fg1)(m:FT)(σ:L2.St)(H:Hp)(Q:Bool->Hp->Prop):Prop
 |mk (r:Ev) (mu:List dE) (S:Sto) (b:Bool) (S':Sto) (he:fH K H mu r σ) (hs:Sim K H mu S) (hm:m r S=some (b,S')) (hc:∀H' mu',Ext mu mu' H H'->Sim K H' mu' S'->Q b H')
inductive Ki (K:Fg1)(m:FA)(σ:L2.St)(H:Hp)(Q:List V->Hp->Prop):Prop
 |mk (r:Ev) (mu:List dE) (S:Sto) (ds:List D) (S':Sto) (he:fH K H mu r σ) (hs:Sim K H mu S) (hm:m r S=some (ds,S')) (hc:∀vs H' mu',Ext mu mu' H H'->d5 K H' mu' ds vs->Sim K H' mu' S'->Q vs H')
def Jn(K:Fg1)(mu:List dE)(H:Hp)(r':Ev)(S':Sto)(E:jH)(f:Fl):Prop:=match f with
 | .nx=>∀ σ' H' mu',Ext mu mu' H H'->fH K H' mu' r' σ'->Sim K H' mu' S'->E.nx σ' H'
 | .bk=>∀ σ' H' mu',Ext mu mu' H H'->fH K H' mu' r' σ'->Sim K H' mu' S'->E.bk σ' H'
 | .ct=>∀ σ' H' mu',Ext mu mu' H H'->fH K H' mu' r' σ'->Sim K H' mu' S'->E.ct σ' H'
 | .rt d=>po K mu H d S' E.rt
inductive v4 (K:Fg1)(m:FS)(E:jH)(σ:L2.St)(H:Hp):Prop
 |mk (r:Ev) (mu:List dE) (S:Sto) (f:Fl) (r':Ev) (S':Sto) (he:fH K H mu r σ) (hs:Sim K H mu S) (hm:m r S=some (f,r',S')) (hc:Jn K mu H r' S' E f)
inductive rN (K:Fg1)(f:FN)(vs:List V)(H:Hp)(Q:VK):Prop
 |mk (mu:List dE) (S:Sto) (ds:List D) (d:D) (S':Sto) (hr:d5 K H mu ds vs) (hs:Sim K H mu S) (hm:f ds S=some (d,S')) (hc:po K mu H d S' Q)
abbrev ME(X:Cx)(e:Expr)(m:FE):Prop:=PE X e (tM X.K m)
abbrev MT(X:Cx)(e:Expr)(m:FT):Prop:=PT X e (zl X.K m)
abbrev MW(X:Cx)(e:Expr)(m:FT):Prop:=PW X e (zl X.K m)
abbrev MA(X:Cx)(es:List Expr)(m:FA):Prop:=PA X es (Ki X.K m)
abbrev MS(X:Cx)(st:dR)(m:FS):Prop:=PS X st (v4 X.K m)
abbrev yN(X:Cx)(st:List dR)(m:FS):Prop:=uL X st (v4 X.K m)
variable{X:Cx}
section
variable{e:Expr}{es:List Expr}{st:dR}{sts:List dR}
theorem fy{t t':TE}(h:PE X e t)(i:∀ σ H Q,t' σ H Q->t σ H Q):PE X e t':=λag s σ H Q I q=>h ag s σ H Q I (i σ H Q q)
theorem u7{t t':TT}(h:PT X e t)(i:∀ σ H Q,t' σ H Q->t σ H Q):PT X e t':=λag s σ H Q I q=>h ag s σ H Q I (i σ H Q q)
theorem zJ{t t':TT}(h:PW X e t)(i:∀ σ H Q,t' σ H Q->t σ H Q):PW X e t':=λa ag s σ H Q I q=>h a ag s σ H Q I (i σ H Q q)
theorem z7{t t':TA}(h:PA X es t)(i:∀ σ H Q,t' σ H Q->t σ H Q):PA X es t':=λpos ag s σ H Q I q=>h pos ag s σ H Q I (i σ H Q q)
theorem iw{t t':TS}(h:PS X st t)(i:∀E σ H,t' E σ H->t E σ H):PS X st t':=λag s σ H E I q=>h ag s σ H E I (i E σ H q)
theorem rg{t t':TS}(h:uL X sts t)(i:∀E σ H,t' E σ H->t E σ H):uL X sts t':=λag s σ H E I q=>h ag s σ H E I (i E σ H q)
end
noncomputable def mV (i:Nat):FE:=λr S=>match r[i]? with
 |some (some d)=>some (d,S)
 |_=>none
noncomputable def mC (d:D):FE:=λ_ S=>some (d,S)
section
variable{pos:Pos}
theorem FH (i:Nat){x:Str}(hN:X.N[i]?=Z x)(hv:Vis X.env.scope x)(hd:autoParam ((x == ("__debug__":Str))=J) bu0)(hcd:autoParam ((x == ("__classdict__":Str))=J) bu0):ME X (.Name x pos) (mV i):=
 fy (zX hN hv hd hcd) <| by
  rintro σ H Q ⟨r,mu,S,d,h,b,c,a,hc⟩;unfold mV at a;split at a
  ·rename_i j e;cases a;obtain⟨v,g,f⟩:=b.val i _ e;exact⟨v,g,hc v H mu (.refl _ _) f c⟩
  ·cases a
theorem Av{e:Expr}{v:V}(d:D)(h:PE X e (tC v))(hr:∀H mu,eO X.K H mu d v):ME X e (mC d):=
 fy h <| by
  rintro σ H Q ⟨r,mu,S,g,f,c,a,b,hc⟩;cases b;exact hc v H mu (.refl _ _) (hr H mu) a
theorem FQ{i:Int}{j}:ME X (.Constant (.int i) j pos) (mC (.int i)):=Av _ E8 λ_ _=>.int i
theorem HI{b:Bool}{j}:ME X (.Constant (.bool b) j pos) (mC (.bl b)):=Av _ Hs λ_ _=>.bl b
theorem FM{j}:ME X (.Constant .none j pos) (mC .non):=Av _ E6 λ_ _=>.non
theorem FK{x:Str}{j}:ME X (.Constant (.str x) j pos) (mC (.str x)):=Av _ E5 λ_ _=>.str x
end
noncomputable def dV:FA:=λ_ S=>Z ([],S)
noncomputable def dU (m:FE)(n:FA):FA:=λr S=>(m r S).bind λp=>(n r p.2).bind λq=>some (p.1::q.1,q.2)
section
variable{pos:Pos}{e:Expr}{es:List Expr}{m:FE}{n:FA}
theorem FU:MA X [] dV:=z7 rh <| by
 rintro σ H Q ⟨r,mu,S,ds,d,c,b,a,hc⟩;cases a;exact hc [] H mu (.refl _ _) .nil b
theorem CP(h:ME X e m)(ht:MA X es n)(hs:autoParam (dJ (e::es) X.env=(J,eval e X.env)::dJ es X.env) au0):MA X (e::es) (dU m n):=
 z7 (m5 h ht hs) <| by
  rintro σ H Q ⟨r,mu,S,ds,s,f,hs,a,hc⟩;unfold dU at a;obtain⟨⟨d,i⟩,q,a⟩:=oB1.mp a;obtain⟨⟨b,t⟩,k,a⟩:=oB1.mp a;cases a;refine⟨r,mu,S,d,i,f,hs,q,λv H1 mu1 g l p=>?_⟩;refine⟨r,mu1,i,b,_,f.ext g,p,k,λvs H2 c j r2 o=>?_⟩;exact hc _ H2 c (g.trans j) (.cons (l.ext j) r2) o
end
noncomputable def m2 (f:FN)(a b:FE):FE:=λr S=>(a r S).bind λp=>(b r p.2).bind λq=>f [p.1,q.1] q.2
noncomputable def m1 (f:FN)(a:FE):FE:=λr S=>(a r S).bind λp=>f [p.1] p.2
noncomputable def mN (f:FN)(a:FA):FE:=λr S=>(a r S).bind λp=>f p.1 p.2
abbrev r2(K:Fg1)(f:FN):R2:=λx y H Q=>rN K f [x,y] H Q
section
variable{K:Fg1}{f:FN}{a b:FE}{σ:L2.St}{H:Hp}{Q:VK}
theorem wD(h:tM K (m2 f a b) σ H Q):G4 (r2 K f) (tM K a) (tM K b) σ H Q:=by
 obtain⟨r,mu,S,d,q,i,s,c,hc⟩:=h;obtain⟨⟨j,n⟩,C,c⟩:=oB1.mp c;obtain⟨⟨k,o⟩,A,c⟩:=oB1.mp c;refine⟨r,mu,S,j,n,i,s,C,λv H1 mu1 l p x=>?_⟩;refine⟨r,mu1,n,k,o,i.ext l,x,A,λu H2 g m r2 t=>?_⟩;exact⟨g,o,[j,k],d,q,.cons (p.ext m) (.cons r2 .nil),t,c,λv B e w z y=>hc v B e ((l.trans m).trans w) z y⟩
theorem Ay{a:FA}(h:tM K (mN f a) σ H Q):Ki K a σ H λvs H1=>rN K f vs H1 Q:=by
 obtain⟨r,mu,S,d,j,i,k,b,hc⟩:=h;obtain⟨⟨e,g⟩,t,b⟩:=oB1.mp b;refine⟨r,mu,S,e,g,i,k,t,λv H1 mu1 l m p=>?_⟩;exact⟨mu1,g,e,d,j,m,p,b,λv o c n s q=>hc v o c (l.trans n) s q⟩
theorem HF{op:Operator}{x y:Expr}{pos:Pos}(ho:gt X (binaryOp op) (r2 X.K f))(hx:ME X x a)(hy:ME X y b):ME X (.BinOp x op y pos) (m2 f a b):=fy (Ho ho hx hy) λ_ _ _=>wD
theorem FR{op:CmpOp}{x y:Expr}{pos:Pos}(ho:gt X (compareOp op) (r2 X.K f))(hx:ME X x a)(hy:ME X y b)(hm:behindInMarks op y=J):ME X (.Compare x [op] [y] pos) (m2 f a b):=fy (Cp ho hx hy hm) λ_ _ _=>wD
theorem HG{x y:Expr}{pos:Pos}(ho:D7 X (r2 X.K f))(hx:ME X x a)(hy:ME X y b)(hs:nk y):ME X (.Subscript x y pos) (m2 f a b):=fy (Hq ho hx hy hs) λ_ _ _=>wD
theorem Au {x:Str}{p pos:Pos}{e:Expr}{es:List Expr}{id:String}{a:FA}(hc:fj X (.builtin id) (rN X.K f))(hg:Gl X x)(hm:X.mg x=none)(hv:bootBuiltins x=some (.builtin id))(ha:MA X (e::es) a)(hn:autoParam (x≠"__name__") bu0)(hdb:autoParam ((x == ("__debug__":Str))=false) bu0)
  (he:autoParam (dJ (e::es) X.env=(J,eval e X.env)::dJ es X.env) au0) (hpl:autoParam ((backTo pos (dJ es X.env)).any (·.1)=J) au0):ME X (.Call (.Name x p) (e::es) [] pos) (mN f a):=
 fy (tf hc hg hm hv ha hn hdb he hpl) λ_ _ _=>Ay
theorem xY {x:Str}{p pos:Pos}{e:Expr}{es:List Expr}{T:String}{a:FA}(hc:fj X (.type T) (rN X.K f))(hg:Gl X x)(hm:X.mg x=none)(hv:bootBuiltins x=some (.type T))(ha:MA X (e::es) a)(hn:autoParam (x≠"__name__") bu0)(hdb:autoParam ((x == ("__debug__":Str))=false) bu0)
  (he:autoParam (dJ (e::es) X.env=(J,eval e X.env)::dJ es X.env) au0) (hpl:autoParam ((backTo pos (dJ es X.env)).any (·.1)=J) au0):ME X (.Call (.Name x p) (e::es) [] pos) (mN f a):=
 fy (lN hc hg hm hv ha hn hdb he hpl) λ_ _ _=>Ay
end
noncomputable def mB (m:FE):FT:=λr S=>(m r S).bind λp=>match p.1 with
 | .bl b=>some (b,p.2)
 |_=>none
theorem HM{K:Fg1}{m:FE}{σ:L2.St}{H:Hp}{Q:Bool->Hp->Prop}(h:zl K (mB m) σ H Q):tB (tM K m) σ H Q:=by
 obtain⟨r,mu,S,b,l,c,e,a,hc⟩:=h;obtain⟨⟨d,n⟩,j,a⟩:=oB1.mp a;cases d with
 |bl k=>
  cases a;refine⟨r,mu,S,_,_,c,e,j,λv H1 mu1 f g i=>?_⟩;cases g;exact⟨_,O,hc H1 mu1 f i⟩
 |_=>cases a
noncomputable def oX(a b:FT):FT:=λr S=>(a r S).bind λp=>if p.1=M then b r p.2 else Z (J,p.2)
noncomputable def HJ(a b:FT):FT:=λr S=>(a r S).bind λp=>if p.1=M then Z (M,p.2)else b r p.2
noncomputable def Ax(a:FT):FT:=λr S=>(a r S).bind λp=>Z (!p.1,p.2)
noncomputable def Kp(a b:FE):FE:=λr S=>(a r S).bind λp=>match p.1 with
 | .bl c=>if c=M then b r p.2 else Z (.bl J,p.2)
 |_=>Y
noncomputable def La(a b:FE):FE:=λr S=>(a r S).bind λp=>match p.1 with
 | .bl c=>if c=M then Z (.bl M,p.2)else b r p.2
 |_=>Y
noncomputable def Km(a:FE):FE:=λr S=>(a r S).bind λp=>match p.1 with
 | .bl c=>Z (.bl (!c),p.2)
 |_=>Y
noncomputable def mIf(c:FT)(a b:FE):FE:=λr S=>(c r S).bind λp=>if p.1=M then a r p.2 else b r p.2
section
variable{x y c:Expr}{rest:List Expr}{pos:Pos}{a b:FT}{f g:FE}
theorem Fs{op:CmpOp}{f:FN}{a b:FE}(ho:gt X (compareOp op) (r2 X.K f))(hx:ME X x a)(hy:ME X y b)(hm:behindInMarks op y=J):MT X (.Compare x [op] [y] pos) (mB (m2 f a b)):=
 u7 (B9 ho hx hy hm) fun σ H Q h=>by
  obtain⟨r,mu,S,d,e,c,g,hm,hc⟩:=HM h;exact wD ⟨r,mu,S,d,e,c,g,hm,λv H' mu' i j k=>hc v H' mu' i j k⟩
theorem CA(ha:MT X x a):MW X (.BoolOp .And [x] pos) a:=B7 ha
theorem Fo(ha:MT X x a):MW X (.BoolOp .Or [x] pos) a:=EL ha
theorem Fp(ha:MT X x a)(hb:MW X (.BoolOp .And (y::rest) pos) b):MW X (.BoolOp .And (x::y::rest) pos) (oX a b):=
 zJ (EM ha hb) <| by
  rintro σ H Q ⟨r,mu,S,k,i,f,j,c,hc⟩;obtain⟨⟨b1,g⟩,n,c⟩:=oB1.mp c;refine⟨r,mu,S,b1,g,f,j,n,λH1 mu1 d h=>?_⟩;cases b1 with
  |true=>exact⟨r,mu1,g,k,i,f.ext d,h,c,λH2 e m l=>hc H2 e (d.trans m) l⟩
  |false=>cases c;exact hc H1 mu1 d h
theorem HC(ha:MT X x a)(hb:MW X (.BoolOp .Or (y::rest) pos) b):MW X (.BoolOp .Or (x::y::rest) pos) (HJ a b):=
 zJ (Hl ha hb) <| by
  rintro σ H Q ⟨r,mu,S,k,i,f,j,c,hc⟩;obtain⟨⟨b1,g⟩,n,c⟩:=oB1.mp c;refine⟨r,mu,S,b1,g,f,j,n,λH1 mu1 d h=>?_⟩;cases b1 with
  |false=>exact⟨r,mu1,g,k,i,f.ext d,h,c,λH2 e m l=>hc H2 e (d.trans m) l⟩
  |true=>cases c;exact hc H1 mu1 d h
theorem JL(h:MW X x a):MT X x a:=PW.pt h
theorem Fq(ha:MT X x a):MT X (.UnaryOp .Not x pos) (Ax a):=
 u7 (EN ha) <| by
  rintro σ H Q ⟨r,mu,S,k,i,c,d,b,hc⟩;obtain⟨⟨b1,f⟩,h,b⟩:=oB1.mp b;cases b;exact⟨r,mu,S,b1,f,c,d,h,λH1 mu1 e g=>hc H1 mu1 e g⟩
theorem HH(hc:MT X c a)(hx:ME X x f)(hy:ME X y g):ME X (.IfExp c x y pos) (mIf a f g):=
 fy (zZ hc hx hy) <| by
  rintro σ H Q ⟨r,mu,S,k,n,h,p,e,hc⟩;obtain⟨⟨b1,j⟩,q,e⟩:=oB1.mp e;refine⟨r,mu,S,b1,j,h,p,q,λH1 mu1 d o=>?_⟩;cases b1 with
  |true=>exact⟨r,mu1,j,k,n,h.ext d,o,e,λm H2 b l r2 i=>hc m H2 b (d.trans l) r2 i⟩
  |false=>exact⟨r,mu1,j,k,n,h.ext d,o,e,λm H2 b l r2 i=>hc m H2 b (d.trans l) r2 i⟩
end
section
variable{x y z:Expr}{pos:Pos}{f g:FN}{a b c:FE}{op op':CmpOp}
end
mutual
noncomputable def D.und(n:Nat):D->Bool
 | .tup xs=>D.unds n xs
 | .rol xs=>D.unds n xs
 | .ref k=>decide (k<n)
 | .non=>M
 | .bl _=>M
 | .int _=>M
 | .str _=>M
 | .fn _=>M
noncomputable def D.unds(n:Nat):List D->Bool
 |[]=>M
 |d::ds=>D.und n d&&D.unds n ds
end
noncomputable def D.sames(a b:List D):Bool:=@decide (a=b) (Classical.propDecidable _)
theorem D.sames_eq{a b:List D}(h:D.sames a b=M):a=b:=@of_decide_eq_true _ (Classical.propDecidable _) h
theorem D.sames_refl(a:List D):D.sames a a=M:=@decide_eq_true _ (Classical.propDecidable _) O
section
variable{K:Fg1}{H:Hp}{mu mu':List dE}
theorem eO.cut{n:Nat}(h:∀ k,k<n->mu[k]? = mu'[k]?):∀ {d:D} {v:V},eO K H mu d v->d.und n=true->eO K H mu' d v:=fun c=>c.rec (motive_1:=fun d v _=>d.und n=true->eO K H mu' d v) (motive_2:=fun ds vs _=>D.unds n ds=true->d5 K H mu' ds vs)
  (λ_=>.non) (λb _=>.bl b) (λi _=>.int i) (λx _=>.str x) (λq _ ih e=>.tup q (ih (by rw[D.und]at e;exact e))) (λq _ ih e=>.rol q (ih (by rw[D.und]at e;exact e)))
  (λq e=>.ref (by rw[D.und]at e;rw[<- h _ (of_decide_eq_true e)];exact q)) (λq _=>.fn q) (λ_=>.nil) (λ_ _ a b e=>by rw[D.unds,bA1]at e;exact .cons (a e.1) (b e.2))
theorem d5.cut{n:Nat}(h:∀k,k<n->mu[k]?=mu'[k]?):∀{ds:List D} {vs:List V},d5 K H mu ds vs->D.unds n ds=M->d5 K H mu' ds vs:=λa=>a.ind (P:=λds vs _=>D.unds n ds=M->d5 K H mu' ds vs) (λ_=>.nil) λr _ b e=>by rw[D.unds,bA1]at e;exact .cons (eO.cut h r e.1) (b e.2)
end
noncomputable def Ob.und(n:Nat):Ob->Bool
 | .lst xs=>D.unds n xs
 | .dct kvs=>D.unds n (kvs.map (·.2))
 | .dcT kvs=>D.unds n (kvs.map (·.2))
 | .iset _=>M
 | .dcF kvs=>D.unds n (kvs.map (·.2))
 | .tst _=>M
theorem KR.cut{κ:Type}{K:Fg1}{H:Hp}{mu mu':List dE}{n:Nat}(h:∀k,k<n->mu[k]?=mu'[k]?):∀{ks:List (κ×D)} {ws:List (κ×V)},KR K H mu ks ws->D.unds n (ks.map (·.2))=M->KR K H mu' ks ws:=by
 intro ks ws a e
 induction a with
 |nil=>exact .nil
 |cons r t ih=>
  rw[mP1,D.unds,bA1]at e;exact .cons ⟨r.1,r.2.cut h e.1⟩ (ih e.2)
mutual
theorem zi(n:Nat):∀k:TK,(tkD k).und n=M
 | .non=>rfl
 | .int _=>rfl
 | .tup xs=>by rw[tkD,D.und];exact vX n xs
theorem vX(n:Nat):∀ks:List TK,D.unds n (ja ks)=M
 |[]=>rfl
 |x::xs=>by rw[ja,D.unds,zi n x,vX n xs];rfl
end
theorem KT.cut{K:Fg1}{H:Hp}{mu mu':List dE}{n:Nat}(h:∀k,k<n->mu[k]?=mu'[k]?):∀{ks:List (TK×D)} {ws:List (TK×dE×dB)},KT K H mu ks ws->D.unds n (ks.map (·.2))=M->KT K H mu' ks ws:=by
 intro ks ws b e
 induction b with
 |nil=>exact .nil
 |cons r t ih=>
  rw[mP1,D.unds,bA1]at e;obtain⟨z,d,k,v,a,r⟩:=r;exact .cons ⟨z,d,k.cut h (zi n _),v,a,r.cut h e.1⟩ (ih e.2)
theorem wz(n:Nat):∀ks:List TK,D.unds n ((ks.map λk=>(k,D.non)).map (·.2))=M
 |[]=>rfl
 |_::ks=>by rw[mP1,mP1,D.unds,wz n ks];rfl
theorem l7.cut{K:Fg1}{H:Hp}{mu mu':List dE}{n:Nat}{a:dE}(h:∀k,k<n->mu[k]?=mu'[k]?):∀{o:Ob},l7 K H mu a o->o.und n=M->l7 K H mu' a o
 | .lst _,⟨vs,e,r⟩,b=>⟨vs,e,r.cut h b⟩
 | .dct _,⟨ws,e,r⟩,b=>⟨ws,e,KR.cut h r b⟩
 | .dcT _,⟨ws,e,r,l⟩,b=>⟨ws,e,KT.cut h r b,l⟩
 | .iset _,q,_=>q
 | .dcF _,⟨ws,e,r,l⟩,b=>⟨ws,e,KT.cut h r b,l⟩
 | .tst ks,⟨ws,e,r⟩,_=>⟨ws,e,KT.cut h r (wz n ks)⟩
def gc(n:Nat)(p:D×Sto):D×Sto:=if p.1.und n&&(p.2.take n).all (Ob.und n)then(p.1,p.2.take n)else p
mutual
noncomputable def D.sh(n:Nat):D->D
 | .tup xs=>.tup (D.shs n xs)
 | .rol xs=>.rol (D.shs n xs)
 | .ref k=>.ref (n+k)
 | .fn x=>.fn x
 | .non=>.non
 | .bl b=>.bl b
 | .int i=>.int i
 | .str x=>.str x
noncomputable def D.shs(n:Nat):List D->List D
 |[]=>[]
 |d::ds=>D.sh n d::D.shs n ds
end
def Ob.sh(n:Nat):Ob->Ob
 | .lst xs=>.lst (D.shs n xs)
 | .dct kvs=>.dct (kvs.map λp=>(p.1,p.2.sh n))
 | .dcT kvs=>.dcT (kvs.map λp=>(p.1,p.2.sh n))
 | .iset xs=>.iset xs
 | .dcF kvs=>.dcF (kvs.map λp=>(p.1,p.2.sh n))
 | .tst ks=>.tst ks
theorem eO.sh{K:Fg1}{H:Hp}{mu mu':List dE}:∀ {d:D} {v:V},eO K H mu' d v->eO K H (mu++mu') (d.sh mu.length) v:=fun c=>c.rec (motive_1:=fun d v _=>eO K H (mu++mu') (d.sh mu.length) v) (motive_2:=fun ds vs _=>d5 K H (mu++mu') (D.shs mu.length ds) vs)
  .non .bl .int .str (λh _ ih=>.tup h ih) (λh _ ih=>.rol h ih) (λh=>.ref (by rw[gR1 (bq _ _),br];exact h)) (λh=>.fn h) .nil (λ_ _ a b=>.cons a b)
theorem d5.sh{K:Fg1}{H:Hp}{mu mu':List dE}:∀{ds:List D} {vs:List V},d5 K H mu' ds vs->d5 K H (mu++mu') (D.shs mu.length ds) vs:=λh=>h.ind (P:=λds vs _=>d5 K H (mu++mu') (D.shs mu.length ds) vs) .nil λr _ ih=>.cons (eO.sh r) ih
theorem KR.sh{κ:Type}{K:Fg1}{H:Hp}{mu mu':List dE}:∀{ks:List (κ×D)} {ws:List (κ×V)},KR K H mu' ks ws->KR K H (mu++mu') (ks.map λp=>(p.1,p.2.sh mu.length)) ws:=by
 intro ks ws h
 induction h with
 |nil=>exact .nil
 |cons r t ih=>exact .cons ⟨r.1,r.2.sh⟩ ih
mutual
theorem DH(n:Nat):∀k:TK,(tkD k).sh n=tkD k
 | .non=>rfl
 | .int _=>rfl
 | .tup xs=>by rw[tkD,D.sh,zg n xs]
theorem zg(n:Nat):∀ks:List TK,D.shs n (ja ks)=ja ks
 |[]=>rfl
 |x::xs=>by rw[ja,D.shs,DH n x,zg n xs]
end
theorem KT.sh{K:Fg1}{H:Hp}{mu mu':List dE}:∀{ks:List (TK×D)} {ws:List (TK×dE×dB)},KT K H mu' ks ws->KT K H (mu++mu') (ks.map λp=>(p.1,p.2.sh mu.length)) ws:=by
 intro ks ws h
 induction h with
 |nil=>exact .nil
 |cons r t ih=>
  obtain⟨z,d,k,v,a,r⟩:=r;exact .cons ⟨z,d,by have:=k.sh (mu:=mu);rw[DH]at this;exact this,v,a,r.sh⟩ ih
theorem l7.sh{K:Fg1}{H:Hp}{mu mu':List dE}{a:dE}:∀{o:Ob},l7 K H mu' a o->l7 K H (mu++mu') a (o.sh mu.length)
 | .lst _,⟨vs,e,r⟩=>⟨vs,e,r.sh⟩
 | .dct _,⟨ws,e,r⟩=>⟨ws,e,KR.sh r⟩
 | .dcT _,⟨ws,e,r,l⟩=>⟨ws,e,KT.sh r,l⟩
 | .iset _,q=>q
 | .dcF _,⟨ws,e,r,l⟩=>⟨ws,e,KT.sh r,l⟩
 | .tst ks,⟨ws,e,r⟩=>⟨ws,e,by have:=KT.sh (mu:=mu) r;rw[bt]at this;exact this⟩
theorem eO.mor{K:Fg1}{H:Hp}{mu:List dE}(mu':List dE):∀{d:D} {v:V},eO K H mu d v->eO K H (mu++mu') d v:=λh=>h.exv ⟨bu _ _,λ_ _ h=>h,λ_ _ _ h=>h⟩
theorem d5.mor{K:Fg1}{H:Hp}{mu:List dE}(mu':List dE):∀{ds:List D} {vs:List V},d5 K H mu ds vs->d5 K H (mu++mu') ds vs:=λh=>h.exv ⟨bu _ _,λ_ _ h=>h,λ_ _ _ h=>h⟩
theorem KR.mor{κ:Type}{K:Fg1}{H:Hp}{mu:List dE}(mu':List dE){ks:List (κ×D)}{ws:List (κ×V)}(h:KR K H mu ks ws):KR K H (mu++mu') ks ws:=Paired.mapP h λ_ _ z=>⟨z.1,z.2.mor mu'⟩
theorem l7.mor{K:Fg1}{H:Hp}{mu:List dE}{a:dE}(mu':List dE):∀{o:Ob},l7 K H mu a o->l7 K H (mu++mu') a o
 | .lst _,⟨vs,e,r⟩=>⟨vs,e,r.mor mu'⟩
 | .dct _,⟨ws,e,r⟩=>⟨ws,e,KR.mor mu' r⟩
 | .dcT _,⟨ws,e,r,l⟩=>⟨ws,e,Paired.mapP r λ_ _ ⟨z,d,k,v,b,r⟩=>⟨z,d,k.mor mu',v,b,r.mor mu'⟩,l⟩
 | .iset _,q=>q
 | .dcF _,⟨ws,e,r,l⟩=>⟨ws,e,Paired.mapP r λ_ _ ⟨z,d,k,v,b,r⟩=>⟨z,d,k.mor mu',v,b,r.mor mu'⟩,l⟩
 | .tst _,⟨ws,e,r⟩=>⟨ws,e,Paired.mapP r λ_ _ ⟨z,d,k,v,b,r⟩=>⟨z,d,k.mor mu',v,b,r.mor mu'⟩⟩
def qk(f:FN):FN:=λds S=>if D.unds 0 ds=M then(f ds []).map λp=>if p.1.und 0=M then(p.1,S)else(p.1.sh S.length,S++p.2.map (Ob.sh S.length))else(f ds S).map (gc S.length)
theorem l7.keep{K:Fg1}{H H':Hp}{mu:List dE}{a:dE}(e:Ext mu mu H H')(h:∀o,H a=Z o->H' a=Z o):∀{o:Ob},l7 K H mu a o->l7 K H' mu a o
 | .lst _,⟨vs,q,r⟩=>⟨vs,h _ q,r.ext e⟩
 | .dct _,⟨ws,q,r⟩=>⟨ws,h _ q,KR.ext e r⟩
 | .dcT _,⟨ws,q,r,l⟩=>⟨ws,h _ q,KT.ext e r,l⟩
 | .iset _,q=>⟨h _ q.1,q.2⟩
 | .dcF _,⟨ws,⟨o,u,b,c⟩,r,l⟩=>⟨ws,⟨o,u,h _ b,c⟩,KT.ext e r,l⟩
 | .tst _,⟨ws,q,r⟩=>⟨ws,h _ q,KT.ext e r⟩
theorem Bj{K:Fg1}{f:FN}{vs:List V}{H:Hp}{Q:VK}(h:rN K (qk f) vs H Q):rN K f vs H Q:=by
 obtain⟨mu,S,ds,d,ao,C,c,g,hc⟩:=h;unfold qk at g;split at g
 ·rename_i j;obtain⟨⟨y,p⟩,A,g⟩:=oM1.mp g;refine⟨[],[],ds,y,p,C.cut (n:=0) (λk i=>absurd i (bv _)) j,.nil,A,λv H' mu' x r s=>?_⟩;have u:Ext mu mu H H':=⟨bm,λa o e _=>x.old a o e (by simp),x.tup,x.frz,λ_ z=>.inl z⟩;dsimp only at g;split at g
  ·rename_i I;cases g;refine hc v H' mu u (r.cut (n:=0) (λk i=>absurd i (bv _)) I) ⟨c.len,c.nd,λn o a h1 h2=>?_⟩;exact(c.ob n o a h1 h2).keep u λo e=>x.old a o e (by simp)
  ·cases g;have D:∀ a∈mu',H a=none:=fun a B=>(x.new a B).resolve_left (by simp);have L:Ext mu (mu++mu') H H':=⟨bu _ _,fun a o e _=>x.old a o e (by simp),x.tup,x.frz,fun a z=>by
    rcases aG.mp z with z|z
    ·exact .inl z
    ·exact .inr (D a z)⟩
   refine hc v H' (mu++mu') L (by rw[<- c.len];exact r.sh) ⟨by rw[lA1,lA1,lM1,c.len,s.len],?_,λn o a h1 h2=>?_⟩
   ·refine bw.mpr ⟨c.nd,s.nd,λa B b j z=>?_⟩;subst z;obtain⟨o,e⟩:=c.here B;rw[D a j]at e;cases e
   ·by_cases l:n<S.length
    ·rw[gL1 l]at h1;rw[gL1 (by rw[c.len];exact l)]at h2;exact((c.ob n o a h1 h2).keep u λo e=>x.old a o e (by simp)).mor mu'
    ·have m:=Nat.le_of_not_lt l;rw[gR1 m]at h1;rw[gR1 (by rw[c.len];exact m)]at h2;rw[gP1]at h1;obtain⟨G,F,am⟩:=oM1.mp h1;subst am;have q:=s.ob (n-S.length) G a F (by rw[c.len]at h2;exact h2);rw[<- c.len];exact q.sh
 ·obtain⟨⟨y,p⟩,A,g⟩:=oM1.mp g;refine⟨mu,S,ds,y,p,C,c,A,λv H' mu' x r s=>?_⟩;unfold gc at g;split at g
  ·rename_i j;cases g;rw [bA1] at j;have i:∀ k,k<S.length->mu'[k]? = mu[k]?:=fun k i=>by
    obtain⟨t,rfl⟩:=x.pre;rw[gL1 (by rw[c.len];exact i)]
   refine hc v H' mu x.back (r.cut i j.1) ⟨?_,c.nd,λn o a h1 h2=>?_⟩
   ·have:=s.len;have E:=x.pre.length_le;rw[aQ,<- s.len];rw[c.len]at E ⊢;exact(bA E).symm
   ·have l:n<S.length:=by rw[<- c.len];exact(gE1.mp h2).1
    have w:p[n]?=Z o:=by rw[aS l]at h1;exact h1
    refine(s.ob n o a w ((i n l).trans h2)).cut i ?_;exact bB.mp j.2 o (gM1 h1)
  ·cases g;exact hc v H' mu' x r s
noncomputable def BA(K:Fg1)(n:Nat)(f:FN):Sp:=λvs H Q _=>vs.length=n/\rN K f vs H Q
section
variable{k n:Nat}{f:dE}{fd:dQ}{ps:List Str}{x:Str}{p pos:Pos}{e:Expr}{es:List Expr}{m:FN}{a:FA}
noncomputable def dZ (n:Nat)(f:FN):FN:=λds S=>if ds.length=n then qk f ds S else none
theorem CO (F:l8 X.prog X.w X.K X.mg X.base uI k f fd ps (BA X.K n m))(hr:fR k X.A)(hg:Gl X x)(hm:X.mg x=some (.ref f))(hk:wK1 X.K (.ref f)=true)(hb:lG X.K fd ps [])
  (ha:MA X (e::es) a) (hdb:autoParam ((x == ("__debug__":Str))=J) bu0) (he:autoParam (dJ (e::es) X.env=(J,eval e X.env)::dJ es X.env) au0) (hpl:autoParam ((backTo pos (dJ es X.env)).any (·.1)=J) au0):
  ME X (.Call (.Name x p) (e::es) [] pos) (mN (dZ n m) a):=
 fy (Cq (E:=E0) F hr hg hm hk hb .nil Ht ha hdb he hpl) fun σ H Q h=>by
  obtain⟨r,mu,S,ds,g,he,i,hm,hc⟩:=Ay h;refine⟨r,mu,S,ds,g,he,i,hm,λvs H' mu' l o t=>?_⟩;have q:=hc vs H' mu' l o t;show BA X.K n m (vs++[]) H' Q E0;rw[aM];obtain⟨d,v,c,j,w,h1,h2,b,u⟩:=q;unfold dZ at b;split at b
  ·rename_i s;exact⟨by rw[<- h1.length];exact s,Bj ⟨d,v,c,j,w,h1,h2,b,u⟩⟩
  ·cases b
end
noncomputable def nY:FS:=λr S=>Z (.nx,r,S)
noncomputable def d6 (a b:FS):FS:=λr S=>(a r S).bind λp=>match p.1 with
 | .nx=>b p.2.1 p.2.2
 |f=>some (f,p.2.1,p.2.2)
noncomputable def eS (m:FE):FS:=λr S=>(m r S).bind λp=>some (.rt p.1,r,p.2)
noncomputable def Kl:FS:=λr S=>Z (.rt .non,r,S)
noncomputable def fM (m:FE):FS:=λr S=>(m r S).bind λp=>some (.nx,r,p.2)
noncomputable def gj (c:FT)(a b:FS):FS:=λr S=>(c r S).bind λp=>if p.1=true then a r p.2 else b r p.2
section
variable{pos:Pos}{e c:Expr}{st:dR}{rest as bs:List dR}{a b:FS}{m:FE}{t:FT}
theorem CC:yN X [] nY:=rg Cb <| by
 rintro E σ H ⟨r,mu,S,f,e,d,a,b,c,hc⟩;cases c;exact hc σ H mu (.refl _ _) a b
theorem An(h1:MS X st a)(h2:yN X rest b):yN X (st::rest) (d6 a b):=rg (zN h1 h2) <| by
 rintro E σ H ⟨r,mu,S,f,s,p,o,q,h,hc⟩;obtain⟨⟨l,m,n⟩,u,h⟩:=oB1.mp h;refine⟨r,mu,S,l,m,n,o,q,u,?_⟩;cases l with
 |nx=>
  intro t H1 mu1 i j k;refine⟨m,mu1,n,f,s,p,j,k,h,?_⟩;cases f with
  |nx=>exact λe H2 c g=>hc e H2 c (i.trans g)
  |bk=>exact λe H2 c g=>hc e H2 c (i.trans g)
  |ct=>exact λe H2 c g=>hc e H2 c (i.trans g)
  |rt d=>exact λv H2 c g=>hc v H2 c (i.trans g)
 |bk=>cases h;exact hc
 |ct=>cases h;exact hc
 |rt d=>cases h;exact hc
theorem CB(h1:MS X st a):yN X [st] a:=Ca h1
theorem CD(h:ME X e m)(hs:autoParam (swapsWith e Y pos.line X.env=pure J) au0):MS X (.Expr e pos) (fM m):=iw (Cc h hs) <| by
 rintro E σ H ⟨r,mu,S,f,j,i,b,hs,a,hc⟩;obtain⟨⟨d,l⟩,g,a⟩:=oB1.mp a;cases a;exact⟨r,mu,S,d,_,b,hs,g,λv H' mu' x k c=>hc σ H' mu' x (b.ext x) c⟩
theorem Fu(h:ME X e m):MS X (.Return (Z e) pos) (eS m):=iw (ER h) <| by
 rintro E σ H ⟨r,mu,S,f,j,i,b,c,a,hc⟩;obtain⟨⟨d,k⟩,g,a⟩:=oB1.mp a;cases a;exact⟨r,mu,S,d,_,b,c,g,hc⟩
theorem HD(hc:MT X c t)(ha:yN X as a)(hb:yN X bs b):MS X (.If c as bs pos) (gj t a b):=iw (Hm hc ha hb) <| by
 rintro E σ H ⟨r,mu,S,f,o,n,m,q,i,hc⟩;obtain⟨⟨k,l⟩,u,i⟩:=oB1.mp i;refine⟨r,mu,S,k,l,m,q,u,λH1 mu1 j s=>?_⟩;have p:∀c:FS,c r l=Z (f,o,n)->v4 X.K c E σ H1:=λc i=>by
  refine⟨r,mu1,l,f,o,n,m.ext j,s,i,?_⟩;cases f with
  |nx=>exact λg H2 e h=>hc g H2 e (j.trans h)
  |bk=>exact λg H2 e h=>hc g H2 e (j.trans h)
  |ct=>exact λg H2 e h=>hc g H2 e (j.trans h)
  |rt d=>exact λv H2 e h=>hc v H2 e (j.trans h)
 cases k with
 |true=>exact p a i
 |false=>exact p b i
end
abbrev FG:=D->Ev->Sto->Option (Ev×Sto)
abbrev By:=List D->Ev->Sto->Option (Ev×Sto)
inductive Eo (K:Fg1)(g:FG)(v:V)(σ:L2.St)(H:Hp)(Q:L2.St->Hp->Prop):Prop
 |mk (r:Ev) (mu:List dE) (S:Sto) (d:D) (r':Ev) (S':Sto) (he:fH K H mu r σ) (hs:Sim K H mu S) (hr:eO K H mu d v) (hm:g d r S=some (r',S')) (hc:∀ σ' H' mu',Ext mu mu' H H'->fH K H' mu' r' σ'->Sim K H' mu' S'->Q σ' H')
inductive Jp (K:Fg1)(g:By)(vs:List V)(σ:L2.St)(H:Hp)(Q:L2.St->Hp->Prop):Prop
 |mk (r:Ev) (mu:List dE) (S:Sto) (ds:List D) (r':Ev) (S':Sto) (he:fH K H mu r σ) (hs:Sim K H mu S) (hr:d5 K H mu ds vs) (hm:g ds r S=some (r',S')) (hc:∀ σ' H' mu',Ext mu mu' H H'->fH K H' mu' r' σ'->Sim K H' mu' S'->Q σ' H')
abbrev MG(X:Cx)(e:Expr)(g:FG):Prop:=PG X e (Eo X.K g)
abbrev IH(X:Cx)(es:List Expr)(g:By):Prop:=GK X es (Jp X.K g)
noncomputable def gN (i:Nat):FG:=λd r S=>some (r.set i (some d),S)
noncomputable def gNl:By:=λds r S=>match ds with
 |[]=>Z (r,S)
 |_=>Y
noncomputable def gCs (g:FG)(gs:By):By:=λds r S=>match ds with
 |d::ds=>(g d r S).bind λp=>gs ds p.1 p.2
 |[]=>none
noncomputable def gT (n:Nat)(gs:By):FG:=λd r S=>match d with
 | .tup ds=>if ds.length=n then gs ds r S else none
 |_=>none
theorem fH.set{K:Fg1}{H:Hp}{mu:List dE}{r:Ev}{σ:L2.St}{i:Nat}{d:D}{v:V}(h:fH K H mu r σ)(q:eO K H mu d v):fH K H mu (r.set i (Z d)) (σ.set i (Z v)):=by
 refine⟨by rw[aV,aV];exact h.len,λj g e=>?_⟩;by_cases a:i=j
 ·subst a;have b:i<r.length:=by
   have:=(gE1.mp e).1
   rwa [aV]at this
  rw[aI b]at e;cases e;exact⟨v,aI (by rw[<- h.len];exact b),q⟩
 ·rw[gS1 a]at e;obtain⟨f,k,c⟩:=h.val j g e;exact⟨f,by rw[gS1 a];exact k,c⟩
section
variable{pos:Pos}
theorem u9{e:Expr}{t t':TG}(h:PG X e t)(i:∀v σ H Q,t' v σ H Q->t v σ H Q):PG X e t':=λag s σ H v u Q I r q=>h ag s σ H v u Q I r (i v σ H Q q)
theorem wj{e:List Expr}{t t':D5}(h:GK X e t)(i:∀v σ H Q,t' v σ H Q->t v σ H Q):GK X e t':=λag s σ H v u Q I r q=>h ag s σ H v u Q I r (i v σ H Q q)
theorem CM(i:Nat){x:Str}(hN:X.N.Nodup)(hi:X.N[i]?=Z x)(hx:vM X.env.scope x)(hf:autoParam (X.fn x=M\/X.env.scope.names.lookup x=Z .local) au0):MG X (.Name x pos) (gN i):=
 u9 (wl hN hi hx hf) <| by
  rintro v σ H Q ⟨r,mu,S,d,g,f,a,c,b,e,hc⟩;cases e;exact hc _ H mu (.refl _ _) (a.set b) c
theorem CL:IH X [] gNl:=wj Cm <| by
 rintro vs σ H Q ⟨r,mu,S,ds,f,e,b,d,c,a,hc⟩;unfold gNl at a;split at a
 ·cases a;cases c;exact⟨O,hc σ H mu (.refl _ _) b d⟩
 ·cases a
theorem Aq{e:Expr}{es:List Expr}{g:FG}{f:By}(h1:MG X e g)(h2:IH X es f)(hs:autoParam ((assignEach (e::es) X.env).map (·.2)=assign e X.env::(assignEach es X.env).map (·.2)) au0):IH X (e::es) (gCs g f):=
 wj (zW h1 h2 hs) <| by
  rintro vs σ H Q ⟨r,mu,S,ds,n,l,k,hs,m,a,hc⟩;unfold gCs at a;split at a
  ·obtain⟨⟨i,j⟩,u,a⟩:=oB1.mp a;cases m with
   |cons q t=>
    exact⟨_,_,O,r,mu,S,_,i,j,k,hs,q,u,λp H1 mu1 h b o=>⟨i,mu1,j,_,n,l,b,o,t.ext h,a,λc H2 d s=>hc c H2 d (h.trans s)⟩⟩
  ·cases a
theorem FD{es:List Expr}{k:Nat}{b:By}{n:Nat}(hc:X.calm=M)(h:IH X es b)(hn:autoParam ((assignEach es X.env).length=n) au0)(hst:autoParam ((assignEach es X.env).findIdx? (·.1)=Y) au0):MG X (.Tuple es k pos) (gT n b):=
 u9 (E1 hc h hn hst) <| by
  rintro v σ H Q ⟨r,mu,S,d,i,c,f,g,e,a,hc⟩;cases d with
  |tup ds=>
   rw[gT]at a;split at a
   ·rename_i j;cases e with
    |tup q t=>exact⟨_,_,O,q,by rw[<- t.length];exact j,r,mu,S,ds,i,c,f,g,t,a,hc⟩
   ·cases a
  |_=>cases a
inductive rU (K:Fg1)(f:FN)(o i v:V)(H:Hp)(Q:Hp->Prop):Prop
 |mk (mu:List dE) (S:Sto) (ds:List D) (d:D) (S':Sto) (hr:d5 K H mu ds [o,i,v]) (hs:Sim K H mu S) (hm:f ds S=some (d,S')) (hc:∀H' mu',Ext mu mu' H H'->Sim K H' mu' S'->Q H')
noncomputable def gS(f:FN)(a b:FE):FG:=λd r S=>(a r S).bind λp=>(b r p.2).bind λq=>(f [p.1,q.1,d] q.2).bind λt=>Z (r,t.2)
theorem FF{o i:Expr}{a b:FE}{f:FN}(ho:ME X o a)(hi:ME X i b)(hs:vL X (rU X.K f))(ha:autoParam (∀v,assign (.Subscript o i pos) X.env v=(do
   let ov<-holding [v] (eval o X.env)
   let iv<-holding [v,ov] (eval i X.env)
   standAt pos
   holding [v,ov,iv] (setItem ov iv v)
   release [v,ov,iv] [])) du0):MG X (.Subscript o i pos) (gS f a b):=
 u9 (E2 ho hi hs ha) <| by
  rintro v σ H Q ⟨r,mu,S,d,F,D,h,hs,u,c,hc⟩;obtain⟨⟨l,p⟩,B,c⟩:=oB1.mp c;obtain⟨⟨m,q⟩,z,c⟩:=oB1.mp c;obtain⟨⟨s,I⟩,C,c⟩:=oB1.mp c;cases c;refine⟨r,mu,S,l,p,h,hs,B,λG H1 mu1 e t x=>?_⟩;refine⟨r,mu1,p,m,q,h.ext e,x,z,λE H2 k g r2 w=>?_⟩;exact⟨k,q,[l,m,d],s,_,.cons (t.ext g) (.cons r2 (.cons ((u.ext e).ext g) .nil)),w,C,λA j n y=>hc σ A j ((e.trans g).trans n) (((h.ext e).ext g).ext n) y⟩
noncomputable def ea (m:FE)(g:FG):FS:=λr S=>(m r S).bind λp=>(g p.1 r p.2).bind λq=>some (.nx,q.1,q.2)
theorem rG{K:Fg1}{m:FE}{g:FG}{E:jH}{σ:L2.St}{H:Hp}(h:v4 K (ea m g) E σ H):zm (tM K m) (Eo K g) E σ H:=by
 obtain⟨r,mu,S,f,t,s,d,k,a,hc⟩:=h;obtain⟨⟨e,j⟩,q,a⟩:=oB1.mp a;obtain⟨⟨r2,v⟩,l,a⟩:=oB1.mp a;cases a;refine⟨r,mu,S,e,j,d,k,q,λu H1 mu1 i n o=>?_⟩;exact⟨r,mu1,j,e,_,_,d.ext i,o,n,l,λb H2 c p=>hc b H2 c (i.trans p)⟩
theorem Fx{tg e:Expr}{m:FE}{g:FG}(he:ME X e m)(hg:MG X tg g)(hs:autoParam (swapsWithSole [tg] e pos.line X.env=pure J) au0)(hw:autoParam (swappedStores [tg] e X.env=pure Y) au0)(h1:autoParam ((assignEach [tg] X.env).map (·.2)=[assign tg X.env]) au0):MS X (.Assign [tg] e pos) (ea m g):=iw (EV he hg hs hw h1) λ_ _ _=>rG
theorem Ft(i:Nat){x:Str}{e:Expr}{m:FE}{pos':Pos}(hN:X.N.Nodup)(hi:X.N[i]? = some x)(hx:vM X.env.scope x)(he:ME X e m)(hs:autoParam (swapsWith e (some (.Name x pos')) pos.line X.env=pure false) au0)(hf:autoParam (X.fn x=true\/X.env.scope.names.lookup x=some .local) au0):
  MS X (.Assign [.Name x pos'] e pos) (ea m (gN i)):=iw (EQ hN hi hx he hs hf) λE σ H h=>by
 obtain⟨r,mu,S,d,f,h1,h2,p,o⟩:=rG h;refine⟨r,mu,S,d,f,h1,h2,p,λv H' mu' j k n=>?_⟩;obtain⟨r2,a,t,s,u,w,b,c,q,l,g⟩:=o v H' mu' j k n;cases l;exact g _ H' a (.refl _ _) (b.set q) c
noncomputable def CT(i:Nat)(f:FN)(m:FE):FS:=λr S=>match r[i]? with
 |some (Z d)=>(m r S).bind λp=>(f [d,p.1] p.2).bind λq=>Z (.nx,r.set i (Z q.1),q.2)
 |_=>Y
theorem Fw(i:Nat){x:Str}{e:Expr}{m:FE}{op:Operator}{f:FN}{pos':Pos}(hN:X.N.Nodup)(hi:X.N[i]? = some x)(hx:vM X.env.scope x)(he:ME X e m)(ho:Je X op (r2 X.K f))(hf:autoParam (X.fn x=true\/X.env.scope.names.lookup x=some .local) au0):
  MS X (.AugAssign (.Name x pos') op e pos) (CT i f m):=iw (EU hN hi hx he ho hf) <| by
 rintro E σ H ⟨r,mu,S,C,B,A,he,o,a,hc⟩;unfold CT at a;split at a
 ·rename_i d e;obtain⟨⟨g,j⟩,y,a⟩:=oB1.mp a;obtain⟨⟨p,F⟩,u,a⟩:=oB1.mp a;cases a;obtain⟨v,l,n⟩:=he.val i d e;refine⟨v,l,r,mu,S,g,j,he,o,y,λD H1 mu1 c k q=>?_⟩;exact⟨mu1,j,[d,g],p,_,.cons (n.ext c) (.cons k .nil),q,u,λz w b h t s=>hc _ w b (c.trans h) (((he.ext c).ext h).set t) s⟩
 ·cases a
end
noncomputable def sx (c:FT)(b:FS):Nat->FS
 |0=>λ_ _=>none
 | n+1=>fun r S=>(c r S).bind fun p=>if p.1=true then (b r p.2).bind fun q=>match q.1 with
   | .nx=>sx c b n q.2.1 q.2.2
   | .ct=>sx c b n q.2.1 q.2.2
   | .bk=>some (.nx,q.2.1,q.2.2)
   | .rt d=>some (.rt d,q.2.1,q.2.2)
  else some (.nx,r,p.2)
theorem Eb{K:Fg1}{c:FT}{b:FS}{n:Nat}{E:jH}{σ:L2.St}{H:Hp}(h:v4 K (sx c b n) E σ H):zk (zl K c) (v4 K b) E σ H:=by
 refine⟨λm a H'=>v4 K (sx c b m) E a H',⟨n,h⟩,λm u H1 q=>?_⟩;obtain⟨r,mu,S,f,A,w,t,F,i,hc⟩:=q;cases m with
 |zero=>cases i
 |succ m=>
  obtain⟨⟨k,C⟩,G,i⟩:=oB1.mp i;refine⟨r,mu,S,k,C,t,F,G,λH2 e o z=>?_⟩;cases k with
  |false=>
   cases i;exact hc u H2 e o (t.ext o) z
  |true=>
   obtain⟨⟨D,p,s⟩,I,i⟩:=oB1.mp i;have B:∀{a H' mu'},Ext e mu' H2 H'->fH K H' mu' p a->Sim K H' mu' s->sx c b m p s=Z (f,A,w)->v4 K (sx c b m) E a H':=λ{a H' mu'} x g l i=>by
    refine⟨p,mu',s,f,A,w,g,l,i,?_⟩;cases f with
    |nx=>exact λj H2 e y=>hc j H2 e ((o.trans x).trans y)
    |bk=>exact λj H2 e y=>hc j H2 e ((o.trans x).trans y)
    |ct=>exact λj H2 e y=>hc j H2 e ((o.trans x).trans y)
    |rt d=>exact λv H2 e y=>hc v H2 e ((o.trans x).trans y)
   refine⟨λa H'=>v4 K (sx c b m) E a H',λa H' q=>⟨m,bC _,q⟩,r,e,C,D,p,s,t.ext o,z,I,?_⟩;cases D with
   |nx=>exact λa H' mu' x g l=>B x g l i
   |ct=>exact λa H' mu' x g l=>B x g l i
   |bk=>cases i;exact λa H' mu' x g l=>hc a H' mu' (o.trans x) g l
   |rt d=>cases i;exact λv H' mu' x p l=>hc v H' mu' (o.trans x) p l
theorem Ao{X:Cx}{pos:Pos}(n:Nat){c:Expr}{a:List dR}{t:FT}{b:FS}(hp:PassesOwn (model X.prog X.w) X.A X.env X.xe)(hc:MT X c t)(hb:yN X a b):MS X (.While c a [] pos) (sx t b n):=
 iw (zO hp hc hb) λ_ _ _=>Eb
structure Bx where
 items:List D
 chk:List (Nat×List D)
noncomputable def oW (S:Sto):List (Nat×List D)->Bool
 |[]=>true
 | (n,xs)::c=>(match S[n]? with
   |some (.lst ys)=>D.sames ys xs
   |_=>false)&&oW S c
def ItR(K:Fg1)(j:It)(am:Bx)(mu:List dE)(H:Hp):Prop:=∀i H1 mu1 S1,sA mu mu1 H H1->Sim K H1 mu1 S1->oW S1 am.chk=M ->
 (∀d,am.items[i]?=Z d->j.go i H1 /\ ∀x H2,j.yld i H1 x H2->Ext mu1 mu1 H1 H2/\Sim K H2 mu1 S1/\eO K H2 mu1 d x)/\(am.items.length<=i->j.stop i H1)
abbrev FI:=Ev->Sto->Option (Bx×Sto)
inductive Jo (K:Fg1)(m:FI)(σ:L2.St)(H:Hp)(R:It->Hp->Prop):Prop
 |mk (r:Ev) (mu:List dE) (S:Sto) (am:Bx) (S':Sto) (he:fH K H mu r σ) (hs:Sim K H mu S) (hm:m r S=some (am,S')) (hc:∀j H' mu',Ext mu mu' H H'->ItR K j am mu' H'->Sim K H' mu' S'->R j H')
abbrev MI(X:Cx)(tg iter:Expr)(m:FI):Prop:=PI X tg iter (Jo X.K m)
theorem nP{X:Cx}{tg e:Expr}{t t':TI}(h:PI X tg e t)(i:∀ σ H R,t' σ H R->t σ H R):PI X tg e t':=λag s σ H R I q=>h ag s σ H R I (i σ H R q)
theorem Hn{X:Cx}{tg e:Expr}{t t':TI}(h:PI X tg e t)(h':PI X tg e t'):PI X tg e (fun σ H R=>t σ H R\/t' σ H R):=λag s σ H R I q=>q.elim (h ag s σ H R I) (h' ag s σ H R I)
noncomputable def i6 (c:List (Nat×List D))(g:FG)(b:FS):List D->FS
 |[]=>λr S=>if oW S c=true then some (.nx,r,S)else none
 | d::ds=>fun r S=>if oW S c=true then (g d r S).bind fun p=>(b p.1 p.2).bind fun q=>match q.1 with
   | .nx=>i6 c g b ds q.2.1 q.2.2
   | .ct=>i6 c g b ds q.2.1 q.2.2
   | .bk=>some (.nx,q.2.1,q.2.2)
   | .rt v=>some (.rt v,q.2.1,q.2.2)
  else none
noncomputable def hH (m:FI)(g:FG)(b:FS):FS:=λr S=>(m r S).bind λp=>i6 p.1.chk g b p.1.items r p.2
theorem mG{α:Type}{l:List α}{i:Nat}{d:α}{ds:List α}(h:l.drop i=d::ds):l[i]?=Z d/\l.drop (i+1)=ds:=by
 have h1:l[i]?=Z d:=by
  have:=congrArg (·[0]?) h;simpa using this
 refine⟨h1,?_⟩;rw[<- bD,h];rfl
inductive Ke (K:Fg1)(mu1:List dE)(H1:Hp)(c:List (Nat×List D))(g:FG)(b:FS)(f:Fl)(r':Ev)(S':Sto)(L:List D)(σ':L2.St)(H':Hp):Prop
 |mk (r2:Ev) (mu2:List dE) (S2:Sto):Ext mu1 mu2 H1 H'->fH K H' mu2 r2 σ'->Sim K H' mu2 S2->i6 c g b L r2 S2=some (f,r',S')->Ke K mu1 H1 c g b f r' S' L σ' H'
theorem CS{K:Fg1}{m:FI}{g:FG}{b:FS}{E:jH}{σ:L2.St}{H:Hp}(h:v4 K (hH m g b) E σ H):G7 (Jo K m) (Eo K g) (v4 K b) E σ H:=by
 obtain⟨r,mu,S,f,Q,N,ao,X,D,hc⟩:=h;obtain⟨⟨am,U⟩,e1,D⟩:=oB1.mp D;refine⟨r,mu,S,am,U,ao,X,e1,λj H1 mu1 z T wq=>?_⟩;refine⟨λi k s H'=>k=(am.items.drop i).length/\Ke K mu1 H1 am.chk g b f Q N (am.items.drop i) s H',⟨_,O,r,mu1,U,.refl _ _,ao.ext z,wq,D⟩,?_⟩;rintro i k B H2 ⟨rfl,r2,l,S2,p,w,F,a⟩;cases hl:am.items.drop i with
 |nil=>
  left;rw[hl]at a;rw[i6]at a;dsimp only at a;split at a
  ·rename_i ok;cases a;refine⟨(T i H2 l _ p.w F ok).2 (List.drop_eq_nil_iff.mp hl),?_⟩;exact hc B H2 l (z.trans p) w F
  ·cases a
 |cons d ds=>
  right;rw[hl]at a;obtain⟨hi,au⟩:=mG hl;rw[i6]at a;dsimp only at a;split at a
  ·rename_i ok;obtain⟨⟨P,V⟩,e3,a⟩:=oB1.mp a;obtain⟨⟨R,L,C⟩,e4,a⟩:=oB1.mp a;obtain⟨go,yl⟩:=(T i H2 l _ p.w F ok).1 d hi;refine⟨go,Ke K mu1 H1 am.chk g b f Q N ds,?_,λx H3 y=>?_⟩
   ·intro s H' h5;exact⟨ds.length,bC _,(congrArg List.length au).symm,au.symm ▸ h5⟩
   ·obtain⟨t,s3,q3⟩:=yl x H3 y;refine⟨r2,l,S2,d,P,V,w.ext t,s3,q3,e3,λaq H4 G A I W=>?_⟩;refine⟨P,G,V,R,L,C,I,W,e4,?_⟩;cases R with
    |nx=>exact λq u c o e n=>⟨L,c,C,(p.trans t).trans (A.trans o),e,n,a⟩
    |ct=>exact λq u c o e n=>⟨L,c,C,(p.trans t).trans (A.trans o),e,n,a⟩
    |bk=>cases a;exact λq u c o e n=>hc q u c ((z.trans p).trans (t.trans (A.trans o))) e n
    |rt v=>cases a;exact λv5 u c o r5 n=>hc v5 u c ((z.trans p).trans (t.trans (A.trans o))) r5 n
  ·cases a
theorem Fv{X:Cx}{pos:Pos}{tg iter:Expr}{a:List dR}{m:FI}{g:FG}{b:FS}(hp:PassesOwn (model X.prog X.w) X.A X.env X.xe)(hc:X.calm=M)(hi:MI X tg iter m)(hg:MG X tg g)(hb:yN X a b)(hs:autoParam (∀x,foldedSetIterable iter X.env x=pure x) du0):MS X (.For tg iter a [] pos) (hH m g b):=iw (ET hp hc hi hg hb hs) λ_ _ _=>CS
noncomputable def iu(n:Nat)(ds:List D):Ev:=ds.map Z++aO (n-ds.length) Y
noncomputable def iy (n:Nat)(b:FS):FN:=λds S=>(b (iu n ds) S).bind λp=>match p.1 with
 | .rt d=>some (d,p.2.2)
 | .nx=>some (.non,p.2.2)
 |_=>none
theorem xK{K:Fg1}{H:Hp}{mu:List dE}{ds:List D}{vs:List V}(N:List Str)(h:d5 K H mu ds vs):fH K H mu (iu N.length ds) (L2.jg N vs):=by
 refine⟨?_,λi d e=>?_⟩
 ·unfold iu L2.jg;rw[lA1,lA1,lM1,lM1,lR1,lR1,h.length]
 ·unfold iu at e;unfold L2.jg;by_cases hi:i<ds.length
  ·rw[gL1 (by rw[lM1];exact hi),gP1]at e;obtain⟨f,a,c⟩:=oM1.mp e;cases c;obtain⟨v,b,r⟩:=h.get a;refine⟨v,?_,r⟩;rw[gL1 (by rw[lM1,<- h.length];exact hi),gP1,b];rfl
  ·rw[gR1 (by rw[lM1];lia)]at e;have:=gM1 e;rw[List.mem_replicate]at this;cases this.2
theorem Ie{P:dF}{w:dH}{K:Fg1}{mg:Str->Option dB}{base:dP}{x c:Str}{st:dR}{f:dE}{fd:dQ}{N ps:List Str}{k:Nat}{b:FS}(F:yX K x c st f fd)(S:gu N ps (ev st))(i:∀(e:dB) (A:dG) (a:List Env) (s:dD) (H:Hp) (E:XK),fR k (A.deeper (envOfC c (ev st) s.heap.objs.size f e)) ->
   yN (mS uI P w K mg base N c (ev st) f e A a s H E).nox (fB st) b):l8 P w K mg base uI (k+1) f fd ps (BA K ps.length (iy N.length b)):=by
 refine yX.ok F S (λvs H Q E h=>h.1) λe A a s H vs Q E n j=>⟨_,i e A a s H E n,?_⟩;obtain⟨_,mu,St,ds,d,u,h1,h2,g,m⟩:=j;unfold iy at g;obtain⟨⟨l,o,p⟩,r,g⟩:=oB1.mp g;refine⟨_,mu,St,l,o,p,xK N h1,h2,r,?_⟩;cases l with
 |nx=>cases g;exact λq H' mu' x t s=>m .non H' mu' x .non s
 |rt d=>cases g;exact m
 |bk=>cases g
 |ct=>cases g
noncomputable def jx(cells:List (Str×dE)):List (Str×NameKind)->List (Str×dE)->Option (List (Str×dE))
 |[],acc=>Z acc
 |(n,k)::r,acc=>if k == .free then(cells.lookup n).bind λc=>jx cells r ((n,c)::acc)else jx cells r acc
theorem vB{env:Env}(f:Str×NameKind->List (Str×dE)->Sem (ForInStep (List (Str×dE))))(hf:∀n k g,f (n,k) g=if k == .free then(do let c<-cellOf env n;pure (.yield ((n,c)::g)))else pure (.yield g)):
  ∀(a:List (Str×NameKind)) (acc b:List (Str×dE)),jx env.cells a acc=Z b->forIn a acc f=(pure b:Sem (List (Str×dE)))
 |[],acc,b,h=>by cases h;rfl
 |(n,k)::r,acc,b,h=>by
  rw[bE,hf];unfold jx at h;split at h
  ·rename_i d;rw[ak d];obtain⟨c,e,h⟩:=oB1.mp h;have:cellOf env n=pure c:=by unfold cellOf;rw[e]
   rw[this,pure_bind,pure_bind];exact vB f hf r _ b h
  ·rename_i d;rw[aj d,pure_bind];exact vB f hf r _ b h
theorem Bh{scope:dS}{env:Env}{cl:List (Str×dE)}(h:jx env.cells scope.names []=Z cl):closureFor scope env=pure cl:=by
 simp only[closureFor];rw[vB (env:=env) _ (λn k a=>by cases hk:k == NameKind.free<;>simp[hk]) scope.names [] cl h];rfl
theorem vA{a:List (Str×dE)}:∀{b:List (Str×NameKind)} {acc d:List (Str×dE)},jx a b acc=Z d->(∀x c,acc.lookup x=Z c->a.lookup x=Z c) -> ∀x c,d.lookup x=Z c->a.lookup x=Z c
 |[],acc,d,h,ha=>by cases h;exact ha
 |(n,k)::r,acc,d,h,ha=>by
  unfold jx at h;split at h
  ·obtain⟨c,e,h⟩:=oB1.mp h;refine vA h λx g q=>?_;rw[bF]at q;split at q
   ·rename_i f;cases q;rw[beq_iff_eq.mp f];exact e
   ·exact ha x g q
  ·exact vA h ha
theorem nj{b:List (Str×dE)}{x:Str}:∀{a:List (Str×NameKind)} {acc d:List (Str×dE)},jx b a acc=Z d->(a.lookup x=Z .free\/(acc.lookup x).isSome=M)->(d.lookup x).isSome=M
 |[],acc,d,h,ha=>by
  cases h;rcases ha with q|q
  ·cases q
  ·exact q
 |(n,k)::r,acc,d,h,ha=>by
  unfold jx at h;split at h
  ·obtain⟨c,e,h⟩:=oB1.mp h;refine nj h ?_;rcases ha with q|q
   ·rw[bF]at q;split at q
    ·rename_i f;right;rw[bF,f];rfl
    ·exact .inl q
   ·right;rw[bF];split
    ·rfl
    ·exact q
  ·rename_i g;refine nj h ?_;rcases ha with q|q
   ·rw[bF]at q;split at q
    ·cases q;exact absurd O g
    ·exact .inl q
   ·exact .inr q
theorem gr{x:Str}{c:dE}:∀{a:List (Str×NameKind)} {n:Nat} {acc:List (Str×dE)},(cellsFrom n a acc).lookup x=Z c->(n<=c/\(x,c)∈cellsFrom n a [])\/acc.lookup x=Z c
 |[],_,_,h=>.inr h
 |(y,k)::r,n,acc,h=>by
  unfold cellsFrom at h ⊢;split at h
  ·rename_i b;rw [if_pos b];have app:∀ (a:List (Str×NameKind)) (m:Nat) (acc:List (Str×dE)),cellsFrom m a acc=cellsFrom m a []++acc:=by
    intro a
    induction a with
    |nil=>intro m acc;rfl
    |cons p r ih=>
     obtain⟨z,q⟩:=p;intro m acc;unfold cellsFrom;split
     ·rw[ih _ ((z,m)::acc),ih _ [(z,m)],bG];rfl
     ·exact ih m acc
   rcases gr h with⟨h1,h2⟩|h1
   ·refine .inl ⟨by lia,?_⟩;rw[app];exact aH _ h2
   ·rw[bF]at h1;split at h1
    ·rename_i d;cases h1;refine .inl ⟨nR1 _,?_⟩;rw[app,beq_iff_eq.mp d];exact mA1 _ mS1
    ·exact .inr h1
  ·rename_i b;rw[aj b];exact gr h
theorem pf{x:Str}{c:dE}{n:Nat}{acc:List (Str×dE)}{a:List (Str×NameKind)}(hx:a.lookup x=Z .cell)(h:(cellsFrom n a acc).lookup x=Z c):n<=c:=by
 have app:∀(a:List (Str×NameKind)) (m:Nat) (acc:List (Str×dE)),cellsFrom m a acc=cellsFrom m a []++acc:=by
  intro a
  induction a with
  |nil=>intro m acc;rfl
  |cons p r ih=>
   obtain⟨z,q⟩:=p;intro m acc;unfold cellsFrom;split
   ·rw[ih _ ((z,m)::acc),ih _ [(z,m)],bG];rfl
   ·exact ih m acc
 rw[app,List.lookup_append]at h;have q:=PySem.W.cellsFrom_some a n [] (.inl hx);obtain⟨b,e⟩:=aP.mp q;rw[e]at h;cases h;rcases gr e with⟨h1,_⟩|h1
 ·exact h1
 ·cases h1
theorem j7 {ao:Model}{A:dG}{E:dB->dD->Prop}{s:dD}{scope:dS}{globals:dE}{c:List (Str×dE)}{qual:Str}{func:Option dE}{code:dB}{env:Env}{b:dE}{Q:Env->dD->Prop}
  (d:Q {scope,locals:=s.heap.objs.size,globals,cells:=cellsFrom (s.heap.objs.size+1) scope.names c,qual,func,code:=env.code,frame:=env.frame,builtins:=env.builtins}
   {s with heap:=pushCells (s.heap.push {cls:=.type "dict",data:=.dict #[]}) scope.names}):
  dM ao A (newFunctionEnv scope globals c [] qual func code (Z env) b) Q E s:=by
 simp only[newFunctionEnv,bc,if_true];refine wB1 (wpAny_alloc ?_);refine wB1 (wpAny_layCells _ (λname a cells=>by cases hkc:a == NameKind.cell<;>simp[hkc]) _ _ _ _ ?_);rw[show({s with heap:=s.heap.push {cls:=.type "dict",data:=.dict #[]}}:dD).heap.objs.size=s.heap.objs.size+1 from hZ1 ..];refine wB1 ?_;rw[List.forIn_nil];exact wP1 (wP1 d)
noncomputable def cxC(X:Cx)(scope:dS)(cl:List (Str×dE))(T:List Str)(keep:List Nat)(s:dD)(H:Hp)(fp:List dE):Cx where
 prog:=X.prog
 w:=X.w
 K:=X.K
 mg:=X.mg
 base:=X.base
 A:=X.A
 N:=T++keep.map λi=>X.N.getD i (Str.ofString "")
 s₀:=s
 H₀:=H
 env:=compEnvC scope (cellsFrom (s.heap.objs.size+1) scope.names cl) s.heap.objs.size X.env
 outer:=X.stack
 stack:=X.stack
 ex:=fp
 fn:=λx=>scope.names.lookup x == Z .cell
 calm:=X.calm
 pn:=[]
 xe:=λ_ _=>False
noncomputable def rO(k:Nat)(keep:List Nat)(σ:L2.St):L2.St:=aO k Y++keep.map λi=>(σ[i]?).join
theorem jr{env:Env}{x:Str}:∀ {a:List (Str×NameKind)},
  (a.map λ(n,k)=>if(k == NameKind.free&&env.scope.kind == .function&&env.kindOf n == Z .cell)then(n,NameKind.cell)else(n,k)).lookup x =
   (a.lookup x).map λk=>if(k == NameKind.free&&env.scope.kind == .function&&env.kindOf x == Z .cell)then NameKind.cell else k
 |[]=>rfl
 |(n,k)::r=>by
  show List.lookup x ((if(k == NameKind.free&&env.scope.kind == .function&&env.kindOf n == Z .cell)=M then(n,NameKind.cell)else(n,k))::_)=_;cases hx:x == n with
  |true=>
   have e:=beq_iff_eq.mp hx;subst e;by_cases hc:(k == NameKind.free&&env.scope.kind == .function&&env.kindOf x == Z .cell)=M
   ·rw[ak hc,bF,hx,bF,hx];simp only[oP1,ak hc]
   ·rw[aj hc,bF,hx,bF,hx];simp only[oP1,aj hc]
  |false=>
   have ih:=@jr env x r;by_cases hc:(k == NameKind.free&&env.scope.kind == .function&&env.kindOf n == Z .cell)=M
   ·rw[ak hc,bF,hx,bF,hx];exact ih
   ·rw[aj hc,bF,hx,bF,hx];exact ih
structure GR (X:Cx)(scope:dS)(T:List Str)(keep:List Nat):Prop where
 kind:scope.kind = .function
 names:∀x∈scope.names,x.2 = .local->scope.names.lookup x.1=some .local
 free:∀i∈keep,∃x,X.N[i]?=some x/\scope.names.lookup x=some .free/\(X.env.kindOf x=some .cell\/X.env.kindOf x=some .free)/\(x,NameKind.cell)∉scope.names
theorem tX{X:Cx}{ag:List (dE×Obj)}{σ:L2.St}{H:Hp}{s:dD}{scope:dS}{t:List (Str×dE)}{T:List Str}{keep:List Nat}{D:List dE}(I:Inv X ag σ H s)(C:GR X scope T keep)(B:jx X.env.cells scope.names []=some t)(hf:∀b∈D,jW X ag H b)(F:∀b∈D,∃o,s.heap.get? b=some o):
  Inv (cxC X scope t T keep s H D) [] (rO T.length keep σ) H {s with heap:=pushCells (s.heap.push {cls:=.type "dict",data:=.dict #[]}) scope.names}:=by
 have kept:∀b o,s.heap.get? b=Z o->(pushCells (s.heap.push {cls:=.type "dict",data:=.dict #[]}) scope.names).get? b=Z o:=λb o e=>pushCells_keeps _ _ b o (hP1 _ e);have A:=cellsFrom_ok scope.names (s.heap.push {cls:=.type "dict",data:=.dict #[]}) (s.heap.objs.size+1) [] ⟨λ_ _ S=>(nomatch S),List.Pairwise.nil⟩ (by rw[hZ1];exact nR1 _);rw[hZ1]at A;have K:=vA B (λx c q=>by cases q)
 -- a cell of the block: its own or an elder one
 have d:∀x c,(cellsFrom (s.heap.objs.size+1) scope.names t).lookup x=Z c->(s.heap.objs.size+1<=c/\(x,c)∈cellsFrom (s.heap.objs.size+1) scope.names [])\/X.env.cells.lookup x=Z c:=λx c h=>by
  rcases gr h with h1|h1
  ·exact .inl h1
  ·exact .inr (K x c h1)
 have g:∀x c,X.env.cells.lookup x=Z c->c<s.heap.objs.size:=λx c e=>by
  obtain⟨v,z⟩:=I.cell x c e;exact z.lt
 have w:∀b∈D,b<s.heap.objs.size:=λb l=>by
  obtain⟨o,e⟩:=F b l;exact hL1 e
 have fst:∀b∈D,b∉frs X.stack:=λb l z=>by
  rcases aF.mp (I.stkSub b z)with q|q
  ·exact(hf b l).2.1 q
  ·exact(hf b l).2.2.1 q
 have kindOf:∀x,(cxC X scope t T keep s H D).env.kindOf x=(scope.names.lookup x).map λk=>if(k == NameKind.free&&X.env.scope.kind == .function&&X.env.kindOf x == Z .cell)then NameKind.cell else k:=λx=>jr
 refine⟨⟨I.ok.mod,C.kind,I.ok.glob,I.ok.blt,nR1 _,λx y c h1 h2=>?_,λx E=>?_,λx c h1 h2=>?_,I.ok.hd,I.ok.frames,.inl O,λb l=>⟨nN1 (w b l),λx c h z=>?_⟩,λb o e=>I.bs b o e,aC I.ok.bsz I.sz,λb o e l=>?_,fst,I.stack,I.stkFree⟩,
  rfl,I.bare,Un.kept kept,⟨λ_=>Y,(Heap.Ns.new s.heap (.type "dict")).keeps (pushCells_keeps _ _),λi x v h1 h2 h3=>?_⟩,λx c h=>?_,I.hok.fresh (nR1 _),λx c h=>?_,λp hp=>absurd (show p∈([]:List (dE×Obj))from hp) (by simp),I.hok.kept kept,?_⟩
 ·rcases d x c h1 with⟨a1,a2⟩|a1<;>rcases d y c h2 with⟨b1,b2⟩|b1
  ·exact name_of_addr A.apart a2 b2
  ·exact absurd (bH (bI a1) (g y c b1)) (az _)
  ·exact absurd (bH (bI b1) (g x c a1)) (az _)
  ·exact I.ok.inj x y c a1 b1
 ·have am:scope.names.lookup x=some .cell\/scope.names.lookup x=some .free:=by
   rw[kindOf x]at E;cases e:scope.names.lookup x with
   |none=>rw[e]at E;rcases E with z|z<;>cases z
   |some k=>
    rw[e]at E;simp only[oP1]at E;cases k<;>simp_all
  have:((cellsFrom (s.heap.objs.size+1) scope.names t).lookup x).isSome=M:=by
   rcases am with z|z
   ·exact PySem.W.cellsFrom_some _ _ _ (.inl z)
   ·exact PySem.W.cellsFrom_some _ _ _ (.inr (nj B (.inl z)))
  exact aP.mp this
 ·have f:scope.names.lookup x=Z .cell:=by simpa[cxC]using h1
  have:=pf f h2;exact aC (aW _) this
 ·subst z;rcases d x c h with⟨a1,_⟩|a1
  ·exact absurd (bH (bI a1) (w c l)) (az _)
  ·exact(hf c l).2.2.2.2.1 x c a1 O
 ·rcases(hf b l).2.2.2.1 with z|z
  ·exact I.ok.noex b o e z
  ·exact absurd (nL1 (hL1 e) (aC I.ok.bsz z)) (az _)
 ·-- a name of the block that has a value:one of the outer text's
  have hi:T.length<=i:=by
   refine Nat.le_of_not_lt λhi=>?_;unfold rO at h2;rw[gL1 (by rw[lR1];exact hi),aR]at h2;split at h2<;>cases h2
  unfold rO at h2;rw[gR1 (by rw[lR1];exact hi),lR1,gP1]at h2;obtain⟨j,N,h2⟩:=oM1.mp h2;have f:X.N.getD j (Str.ofString "")=x:=by
   have f:(T++keep.map λi=>X.N.getD i (Str.ofString ""))[i]?=Z x:=h1;rw[gR1 hi,gP1,N]at f;exact Option.some.inj f
  obtain⟨y,Q,au,ky,aq⟩:=C.free j (gM1 N);have L:y=x:=by rw[<- f,bJ,Q];rfl
  subst L;have G:σ[j]?=Z (Z v):=by
   cases e:σ[j]? with
   |none=>rw[e]at h2;cases h2
   |some o=>rw[e]at h2;cases h2;rfl
  obtain⟨m,hn,hl⟩:=I.loc;obtain⟨u,W,R⟩:=hl j y v Q G (by
   rcases ky with z|z
   ·exact .inr (.inl z)
   ·exact .inr (.inr z))
  refine⟨u,W,?_⟩;rcases R with⟨z,_⟩|⟨_,c,wq,U⟩
  ·rcases ky with q|q<;>(rw[z]at q;cases q)
  ·right;refine⟨?_,c,?_,U.keeps kept⟩
   ·rw[kindOf,au];simp only[oP1];split
    ·exact .inl O
    ·exact .inr O
   ·obtain⟨c',V⟩:=aP.mp (PySem.W.cellsFrom_some scope.names (s.heap.objs.size+1) t (.inr (nj B (.inl au))):((cellsFrom (s.heap.objs.size+1) scope.names t).lookup y).isSome=M);have P:(cellsFrom (s.heap.objs.size+1) scope.names t).lookup y=Z c':=V;rcases d y c' P with⟨a1,a2⟩|a1
    ·-- an own cell of that name:its kind would be cell
     exfalso;have:∀(names:List (Str×NameKind)) (n:Nat),(y,c')∈cellsFrom n names []->(y,NameKind.cell)∈names:=by
      have app:∀(names:List (Str×NameKind)) (m:Nat) (acc:List (Str×dE)),cellsFrom m names acc=cellsFrom m names []++acc:=by
       intro names
       induction names with
       |nil=>intro m acc;rfl
       |cons p r ih=>
        obtain⟨z,q⟩:=p;intro m acc;unfold cellsFrom;split
        ·rw[ih _ ((z,m)::acc),ih _ [(z,m)],bG];rfl
        ·exact ih m acc
      intro names
      induction names with
      |nil=>intro n h;cases h
      |cons p r ih=>
       obtain⟨z,q⟩:=p;intro n h;unfold cellsFrom at h;split at h
       ·rename_i hq;rw[app]at h;rcases aG.mp h with h|h
        ·exact mC1 _ (ih _ h)
        ·have:(y,c')=(z,n):=by simpa using h
         cases this;have ao:q=NameKind.cell:=by simpa using hq
         subst ao;exact mS1
       ·exact mC1 _ (ih _ h)
     exact aq (this _ _ a2)
    ·rw[wq]at a1;cases a1;exact P
 ·rcases d x c h with⟨a1,a2⟩|a1
  ·exact⟨_,(A.empty x c a2).1⟩
  ·obtain⟨v,z⟩:=I.cell x c a1;exact⟨v,z.keeps kept⟩
 ·rcases d x c h with⟨a1,a2⟩|a1
  ·exact I.hok.fresh (bI a1)
  ·exact I.freeC x c a1
 ·show(rO T.length keep σ).length=(T++keep.map λi=>X.N.getD i (Str.ofString "")).length;unfold rO;rw[lA1,lA1,lR1,lM1,lM1]
noncomputable def sJ(p:Pos)(tg:Expr)(ifs:List Expr)(it:dB)(env:Env)(emit:Sem Unit)(c:Code):Sem PySem.Fin:=do
 standAt p
 match<-pyNext it with
 |none=>pure (.done .next)
 |some v=>
  letOwnedTupleGo tg it v
  assign tg env v
  let mut ok:=M
  for c in ifs do
   if ok then ok<-isTrue c env (eval c env)
  if ok then emit
  again c
noncomputable def qf(elt:Expr)(acc:dB)(env:Env):Sem Unit:=do let _<-call (.builtin "list.append") [acc,<- eval elt env]
theorem uW(elt tg iter:Expr)(ifs:List Expr)(scope:dS)(pos:Pos)(it acc:dB)(env:Env):
  compTurn (.ListComp elt [⟨tg,iter,ifs,0⟩] scope pos) 0 it acc env=sJ iter.pos tg ifs it env (qf elt acc env) (.compLoop (.ListComp elt [⟨tg,iter,ifs,0⟩] scope pos) 0 it acc env):=by rfl
def ph(X:Cx)(ifs:List Expr)(t:TT):Prop:=
 ∀(ag:List (dE×Obj)) (s:dD) (σ:L2.St) (H:Hp) (Q:Bool->Hp->Prop),Inv X ag σ H s->t σ H Q ->
  dM (model X.prog X.w) X.A (forIn ifs M λc r=>if r=M then do let ok<-isTrue c X.env (eval c X.env);pure (ForInStep.yield ok)else pure (ForInStep.yield r)) (TP X ag σ Q) X.xe s
theorem zT{X:Cx}:ph X [] (fun σ H Q=>Q M H):=λag s σ H Q I h=>wpAny_tests_nil ⟨H,I,h⟩
theorem zS{X:Cx}{c:Expr}{t:TT}(h:PT X c t):ph X [c] t:=λag s σ H Q I q=>wpAny_tests_one (h ag s σ H Q I q)
def PU(X:Cx)(m:Sem Unit)(t:TS):Prop:=
 ∀(ag:List (dE×Obj)) (s:dD) (σ:L2.St) (H:Hp) (E:jH),Inv X ag σ H s->t E σ H->dM (model X.prog X.w) X.A m (λ_ s'=>∃ σ' H',Inv X ag σ' H' s'/\E.nx σ' H') X.xe s
theorem qg{X:Cx}(hx:X.xe=fun _ _=>False)(hc:X.calm=true){elt:Expr}{c:List Comprehension}{scope:dS}{pos p:Pos}{d:Nat}{tg:Expr}{ifs:List Expr}{acc:dB}{emit:Sem Unit}{am:It}{v:List dE}{it:dE}{P:Nat->dP->Prop}{g:TG}{ti:TT}{tb:TS}(eq:compTurn (.ListComp elt c scope pos) d (.ref it) acc X.env=sJ p tg ifs (.ref it) X.env emit (.compLoop (.ListComp elt c scope pos) d (.ref it) acc X.env))(T:uG X.prog X.w X.K tg am v it P)(hg:PG X tg g)(hi:ph X ifs ti)(he:PU X emit tb){ag:List (dE×Obj)}{s:dD}{σ:L2.St}{H:Hp}{D:jH}(I:Inv X ag σ H s)(st:P 0 s.heap)(aq:∀b∈v,jW X ag H b)(h:∃W:Nat->Nat->L2.St->Hp->Prop,(∃m,W 0 m σ H) /\ ∀i m σ H,W i m σ H ->
   (am.stop i H/\D.nx σ H)\/(am.go i H /\ ∃N:L2.St->Hp->Prop,(∀a H',N a H' -> ∃au,au<m/\W (i+1) au a H') /\ ∀x H',am.yld i H x H'->g x σ H' λt H2=>ti t H2 λb w=>if b=M then tb {D with nx:=N} t w else N t w)):
  dN (model X.prog X.w) X.A (.compLoop (.ListComp elt c scope pos) d (.ref it) acc X.env) (λr s'=>match r with | .ok _=>∃a H',Inv X ag a H' s'/\D.nx a H' | .error _=>False) s:=by
 obtain⟨W,⟨m0,w0⟩,F⟩:=h;have j:∀{H':Hp},(∀b∈v,H' b=Y) -> ∀b∈v,jW X ag H' b:=λhn b l=>⟨hn b l,(aq b l).2⟩;refine codeAny_loop O (λn s'=>∃i a H',Inv X ag a H' s'/\P i s'.heap/\(∀b∈v,H' b=Y)/\W i n a H') ?_ m0 ⟨0,σ,H,I,st,λb l=>(aq b l).1,w0⟩;rintro n V ⟨i,k,w,I3,G,L,w3⟩;show dM _ _ ((compTurn (.ListComp elt c scope pos) d (.ref it) acc X.env).onRaise (λx=>do noteFrame x X.env;theTreesLotGoes x)) _ _ V;refine wpAny_noted ?_;rw[eq];have C:∀{α:Type} {m:Sem α} {Q:α->dD->Prop} {s:dD} {E:dB->dD->Prop},dM (model X.prog X.w) X.A m Q X.xe s->dM (model X.prog X.w) X.A m Q E s:=λh=>by
  rw[hx]at h;exact wpAny_mono h (λ_ _ q=>q) λ_ _ q=>q.elim
 unfold sJ;refine wB1 (wpAny_standAt (wB1 ?_));rcases F i n k w w3 with⟨K,qn⟩|⟨go,N,hN,step⟩
 ·refine C (fD (T.done X O O O hc i ag V k w X.xe I3 (j L) G K) λr s4 ⟨U,I4⟩=>?_);subst U;exact wP1 ⟨k,w,I4,qn⟩
 ·refine C (fD (T.item X rfl rfl rfl hc i ag V k w X.xe I3 (j L) G go) fun r s4 ⟨u,U,h4⟩=>?_);subst U;refine wB1 (C (fD h4 fun _ wq ⟨x,H5,I5,r5,y5,z,S⟩=>?_));have R:=I5.pinned (j S) (T.obj _ _ z);refine wB1 (C (fD (hg _ wq k H5 x u _ R r5 (step x H5 y5)) fun _ s6 ⟨ao,H6,I6,q6⟩=>?_));refine wB1 (C (fD (hi _ s6 ao H6 _ I6 q6) fun ok A ⟨y,B,q7⟩=>?_));have again':∀ {f:L2.St} {y:Hp} {A:dD},Inv X (ag++nO v wq.heap) f y A->N f y -> ∃ m,m<n /\ ∃ i a H',Inv X ag a H' A/\P i A.heap/\(∀ b∈v,H' b=none)/\W i m a H':=fun {f y A} B n7=>by
   obtain⟨au,hm,w7⟩:=hN f y n7;refine⟨au,hm,i+1,f,y,B.unpinned,T.keep _ _ _ z λb l o e=>(B.pin (b,o) (mA1 _ (mA1 _ (iX l e)))).1,λb l=>?_,w7⟩;obtain⟨o,e,d⟩:=T.obj _ _ z b l;exact(B.pin (b,o) (mA1 _ (mA1 _ (iX l e)))).2.1
  cases ok with
  |false=>exact wP1 ⟨O,again' B q7⟩
  |true=>exact wB1 (C (fD (he _ A ao y _ B q7) λ_ s8 ⟨σ8,H8,I8,q8⟩=>wP1 ⟨O,again' I8 q8⟩))
def sL(p:dE)(te:TE):TS:=λD σ H=>te σ H λx H1=>∃xs,H1 p=Z (.lst xs)/\xs.length<dL/\D.nx σ (upd H1 p (.lst (xs++[x])))
theorem rf{X:Cx}{elt:Expr}{te:TE}(h:PE X elt te)(p:dE):PU X (qf elt (.ref p) X.env) (sL p te):=by
 intro ag s σ H E I q;unfold qf;refine wB1 (fD (h ag s σ H _ I q) λu e ⟨x,H1,g,c,xs,i,d,a⟩=>?_);refine wB1 (fD (pN ag e σ H1 (.ref p) [x] (.ref p) [u] (λ_ H'=>E.nx σ H') g O (.cons c .nil) ⟨p,xs,x,O,O,i,d,a⟩) λ_ j ⟨_,H2,f,_,b⟩=>?_);exact wP1 ⟨σ,H2,f,b⟩
noncomputable def DK(am:It)(g:TG)(ti:TT)(tb:TS):TS:=λD σ H=>∃W:Nat->Nat->L2.St->Hp->Prop,(∃m,W 0 m σ H) /\ ∀i m σ H,W i m σ H ->
 (am.stop i H/\D.nx σ H)\/(am.go i H /\ ∃N:L2.St->Hp->Prop,(∀ σ' H',N σ' H' -> ∃m',m'<m/\W (i+1) m' σ' H') /\ ∀x H',am.yld i H x H'->g x σ H' fun σ2 H2=>ti σ2 H2 λb H3=>if b=M then tb {D with nx:=N} σ2 H3 else N σ2 H3)
theorem Un.sameBut{fs ex:List dE}{H H':Hp}{h h1 h2:dP}{c:dE}(u:Un fs ex H H' h h1)(hs:Heap.SameBut c h1 h2)(hc:h.get? c=Y):Un fs ex H H' h h2:=by
 have ne:∀{b o},h.get? b=Z o->b≠c:=λe z=>by rw[z,hc]at e;cases e
 refine⟨λb o e n d a=>(hs.2 b (ne e)).trans (u.keep b o e n d a),λb o e n d a=>?_,u.free,λb o e a=>?_,u.tups,u.frzs,u.tbls⟩
 ·obtain⟨f,q⟩:=u.slot b o e n d a;exact⟨f,(hs.2 b (ne e)).trans q⟩
 ·obtain⟨o',q⟩:=u.there b o e a;exact⟨o',(hs.2 b (ne e)).trans q⟩
def v6(k:Nat)(keep:List Nat)(wi:TI)(g:TG)(ti:TT)(tb:dE->TS):TE:=fun σ H Q=>wi σ H λam H1=>∀p,H1 p=Y ->
 DK am g ti (tb p) {nx:=λ_ H'=>Q (.ref p) H',rt:=λ_ _=>False} (rO k keep σ) (upd H1 p (.lst []))
theorem wo{X:Cx}(hc:X.calm=true){elt tg iter:Expr}{ifs:List Expr}{rest:List Comprehension}{scope:dS}{pos:Pos}{T:List Str}{keep:List Nat}{l:List (Str×dE)}{ao:TI}{g:TG}{ti:TT}{tb:dE->TS}{emit:dB->Env->Sem Unit}(eq:∀it k i,compTurn (.ListComp elt (⟨tg,iter,ifs,0⟩::rest) scope pos) 0 it k i=sJ iter.pos tg ifs it i (emit k i) (.compLoop (.ListComp elt (⟨tg,iter,ifs,0⟩::rest) scope pos) 0 it k i))(C:GR X scope T keep)(w:jx X.env.cells scope.names []=some l)(hi:PI X tg iter ao)(hb:∀s H d p,PG (cxC X scope l T keep s H d) tg g/\ph (cxC X scope l T keep s H d) ifs ti/\PU (cxC X scope l T keep s H d) (emit (.ref p) (cxC X scope l T keep s H d).env) (tb p))(hs:autoParam (∀x,foldedSetIterable iter X.env x=pure x) du0):
  PE X (.ListComp elt (⟨tg,iter,ifs,0⟩::rest) scope pos) (v6 T.length keep ao g ti tb):=by
 intro ag s σ H Q I h;rw[eval_ListComp];refine wpAny_comprehension_free (use:=Y) O hs (Bh w) C.kind C.names ?_;refine fD (hi ag s σ H _ I h) λv s1 h1=>fD h1 λS a h2=>?_;obtain⟨it,d,aq,am,H2,rfl,G,TT,t,E,N⟩:=h2;refine wO1 ?_;have L:Inv X ag σ (upd H2 a.heap.objs.size (.lst [])) {a with heap:=a.heap.push {cls:=.type "list",data:=.seq ([]:List dB).toArray}}:=G.lnew (t':=a.toks) .nil (bh _);have old:∀b∈d,∃o,a.heap.get? b=Z o:=λb hb=>by
  obtain⟨o,e,_⟩:=TT.obj 0 a.heap t b hb;exact⟨o,e⟩
 have D:∀b∈d,b≠a.heap.objs.size:=λb hb z=>by
  obtain⟨o,e⟩:=old b hb;have:=hL1 e;rw[z]at this;exact az _ this
 have B:∀b∈d,jW X ag (upd H2 a.heap.objs.size (.lst [])) b:=λb hb=>⟨by rw[d0 (D b hb)];exact(E b hb).1,(E b hb).2⟩;have au:∀b∈d,∃o,({a with heap:=a.heap.push {cls:=.type "list",data:=.seq ([]:List dB).toArray}}:dD).heap.get? b=Z o:=λb hb=>by
  obtain⟨o,e⟩:=old b hb;exact⟨o,hP1 _ e⟩
 have A:=tX L C w B au;obtain⟨hg,W,P⟩:=hb {a with heap:=a.heap.push {cls:=.type "list",data:=.seq ([]:List dB).toArray}} (upd H2 a.heap.objs.size (.lst [])) d a.heap.objs.size;refine j7 ?_;have f4:∀b∈d,jW (cxC X scope l T keep {a with heap:=a.heap.push {cls:=.type "list",data:=.seq ([]:List dB).toArray}} (upd H2 a.heap.objs.size (.lst [])) d) [] (upd H2 a.heap.objs.size (.lst [])) b:=λb hb=>
  ⟨(B b hb).1,(A.ok.exf b hb).1,A.ok.exfs b hb,.inl hb,(A.ok.exf b hb).2,λp hp=>absurd (show p∈([]:List (dE×Obj))from hp) (by simp)⟩
 have u:aq 0 (pushCells ((a.heap.push {cls:=.type "list",data:=.seq ([]:List dB).toArray}).push {cls:=.type "dict",data:=.dict #[]}) scope.names):=
  TT.keep 0 a.heap _ t λb hb o e=>pushCells_keeps scope.names _ b o (hP1 _ (hP1 _ e))
 have j:=qg (X:=cxC X scope l T keep {a with heap:=a.heap.push {cls:=.type "list",data:=.seq ([]:List dB).toArray}} (upd H2 a.heap.objs.size (.lst [])) d) O hc (eq (.ref it) (.ref a.heap.objs.size) _) TT hg W P A u f4
  (N a.heap.objs.size (G.hok.fresh (nR1 _)))
 refine codeAny_mono (codeAny_compStart_list j (TT.self X.A 0 _ _ _ u j)) λr s' F=>?_;cases r with
 |error e=>exact F.elim
 |ok f=>
  obtain⟨R,H',n,V⟩:=F;obtain⟨m,U,_⟩:=id n.loc;refine⟨m,U,λh' y=>⟨.ref a.heap.objs.size,H',?_,O,V⟩⟩;refine L.call' (s':={s' with heap:=h'}) (ch:=d) n.os (Un.sameBut n.base y (Heap.get?_none_of_le (nR1 _))) (λb wq e=>?_) n.bare λb hb=>(B b hb).2.2.2 |> λz=>⟨z.1,(B b hb).2.1,z.2.1,z.2.2⟩
  refine(n.hok b wq e).stay (λc w' hc q=>(y.2 c ?_).trans q) (λ_ q=>q) λ_ _ q=>q;rintro rfl;have K:=n.free;rcases hc with rfl|hc
  ·exact nomatch K.symm.trans e
  ·exact nomatch K.symm.trans hc
section
variable{K:Fg1}{H:Hp}{mu:List dE}{S:Sto}{p:dE}{u:HO}{o:Ob}{n:Nat}
theorem Rd.ne{a:dE}{x:HO}(h:H p=Y)(q:Rd H a x):a≠p:=by
 rintro rfl;rcases q with q|⟨_,q⟩<;>(rw[h]at q;cases q)
theorem Ext.fresh(hp:H p=Y):Ext mu mu H (upd H p u) where
 pre:=bm
 old:=λa o h _=>by rw[d0 (eI h hp)];exact h
 tup:=λa xs h=>by
  have ne:=Rd.ne hp h;rcases h with h|⟨b,h⟩
  ·exact .inl (by rw[d0 ne];exact h)
  ·exact .inr ⟨b,by rw[d0 ne];exact h⟩
 frz:=λa o x h=>by rw[d0 (eI h hp)];exact h
 new:=λ_ h=>.inl h
theorem Ext.new_(hp:H p=Y):Ext mu (mu++[p]) H (upd H p u) where
 pre:=bu _ _
 old:=(Ext.fresh (mu:=mu) hp).old
 tup:=(Ext.fresh (mu:=mu) hp).tup
 frz:=(Ext.fresh (mu:=mu) hp).frz
 new:=λa h=>by
  rcases aG.mp h with h|h
  ·exact .inl h
  ·have:a=p:=by simpa using h
   subst this;exact .inr hp
theorem Sim.fresh(s:Sim K H mu S)(hp:H p=Y):Sim K (upd H p u) mu S:=
 ⟨s.len,s.nd,λk o a h1 h2=>(s.ob k o a h1 h2).keep (Ext.fresh hp) λb e=>by rw[d0 (eI e hp)];exact e⟩
theorem Sim.notin(s:Sim K H mu S)(hp:H p=Y):p∉mu:=λh=>by
 obtain⟨o,e⟩:=s.here h;rw[hp]at e;cases e
theorem l7.more{a:dE}{mu':List dE}{H':Hp}(e:Ext mu mu' H H')(h:∀o,H a=Z o->H' a=Z o):∀{o:Ob},l7 K H mu a o->l7 K H' mu' a o
 | .lst _,⟨vs,q,r⟩=>⟨vs,h _ q,r.ext e⟩
 | .dct _,⟨ws,q,r⟩=>⟨ws,h _ q,KR.ext e r⟩
 | .dcT _,⟨ws,q,r,l⟩=>⟨ws,h _ q,KT.ext e r,l⟩
 | .iset _,q=>⟨h _ q.1,q.2⟩
 | .dcF _,⟨ws,⟨o,u,b,c⟩,r,l⟩=>⟨ws,⟨o,u,h _ b,c⟩,KT.ext e r,l⟩
 | .tst _,⟨ws,q,r⟩=>⟨ws,h _ q,KT.ext e r⟩
theorem Sim.new(s:Sim K H mu S)(hp:H p=Y)(ho:l7 K (upd H p u) (mu++[p]) p o):Sim K (upd H p u) (mu++[p]) (S++[o]):=by
 refine⟨by rw[lA1,lA1,s.len];rfl,?_,λk o' a h1 h2=>?_⟩
 ·rw[bw];refine⟨s.nd,by simp,λa f b g e=>?_⟩;have:b=p:=by simpa using g
  subst this;subst e;exact s.notin hp f
 ·by_cases d:k<S.length
  ·rw[gL1 d]at h1;rw[gL1 (by rw[s.len];exact d)]at h2;exact(s.ob k o' a h1 h2).more (Ext.new_ hp) λh e=>by rw[d0 (eI e hp)];exact e
  ·have c:k=S.length:=by
    have:=(gE1.mp h1).1;rw[lA1]at this;simp at this;lia
   subst c;rw[gR1 (nR1 _)]at h1;rw[<- s.len,gR1 (nR1 _)]at h2;simp at h1 h2;subst h1;subst h2;exact ho
theorem Ext.put{x:HO}(hp:H p=Z x)(hm:Mut (Z x))(b:p∈mu):Ext mu mu H (upd H p u) where
 pre:=bm
 old:=λa o h n=>by rw[d0 (λe=>n (by rw[e];exact b))];exact h
 tup:=λa xs h=>by
  have ne:a≠p:=by
   rintro rfl;rcases h with h|⟨_,h⟩<;>(rw[hp]at h;cases h;exact hm)
  rcases h with h|⟨c,h⟩
  ·exact .inl (by rw[d0 ne];exact h)
  ·exact .inr ⟨c,by rw[d0 ne];exact h⟩
 frz:=λa o y h=>by
  rw[d0 (λe=>?_)]
  ·exact h
  ·subst e;rw[hp]at h;cases h;exact hm
 new:=λ_ h=>.inl h
theorem Sim.put(s:Sim K H mu S){x:HO}(hn:mu[n]?=Z p)(hp:H p=Z x)(hm:Mut (Z x))(ho:l7 K (upd H p u) mu p o):Sim K (upd H p u) mu (S.set n o):=by
 refine⟨by rw[aV];exact s.len,s.nd,λk o' a h1 h2=>?_⟩;by_cases b:n=k
 ·subst b;have d:n<S.length:=by
   have:=(gE1.mp h1).1
   rwa [aV]at this
  rw[aI d]at h1;cases h1;rw[hn]at h2;cases h2;exact ho
 ·rw [gS1 b] at h1;have ne:a≠p:=fun e=>by
   subst e;obtain⟨i,f⟩:=gE1.mp hn;obtain⟨h,c⟩:=gE1.mp h2;exact b ((List.getElem_inj s.nd).mp (f.trans c.symm))
  exact(s.ob k o' a h1 h2).keep (Ext.put hp hm (gM1 hn)) λg e=>by rw[d0 ne];exact e
theorem Sim.lst(s:Sim K H mu S){ds:List D}{a:dE}(h:S[n]?=Z (.lst ds))(hn:mu[n]?=Z a):∃vs,H a=Z (.lst vs)/\d5 K H mu ds vs:=s.ob n _ a h hn
theorem Sim.dcT(s:Sim K H mu S){ks:List (TK×D)}{a:dE}(h:S[n]?=Z (.dcT ks))(hn:mu[n]?=Z a):∃ws,H a=Z (.ext (gG a ws))/\KT K H mu ks ws/\ws.length<=dL:=s.ob n _ a h hn
theorem Sim.iset(s:Sim K H mu S){xs:List Int}{a:dE}(h:S[n]?=Z (.iset xs))(hn:mu[n]?=Z a):H a=Z (.set (λk=>xs.contains k) xs.length)/\xs.Nodup:=s.ob n _ a h hn
theorem Sim.dct(s:Sim K H mu S){ks:List (Key×D)}{a:dE}(h:S[n]?=Z (.dct ks))(hn:mu[n]?=Z a):∃ws,H a=Z (.dK ws)/\KR K H mu ks ws:=s.ob n _ a h hn
theorem Sim.newL(s:Sim K H mu S){ds:List D}{vs:List V}(r:d5 K H mu ds vs)(hp:H p=Y):Sim K (upd H p (.lst vs)) (mu++[p]) (S++[.lst ds]):=s.new hp ⟨vs,d9,r.ext (Ext.new_ hp)⟩
theorem Sim.putL(s:Sim K H mu S){ds:List D}{vs ws:List V}(r:d5 K H mu ds vs)(hn:mu[n]?=Z p)(hp:H p=Z (.lst ws)):Sim K (upd H p (.lst vs)) mu (S.set n (.lst ds)):=
 s.put hn hp trivial ⟨vs,d9,r.ext (Ext.put hp trivial (gM1 hn))⟩
end
theorem gf{mu:List dE}{S:Sto}(h:mu.length=S.length)(p:dE):(mu++[p])[S.length]?=Z p:=by
 rw[<- h,gR1 (nR1 _)];simp
noncomputable def eD (a:FA):FE:=λr S=>(a r S).bind λp=>if p.1.length<=dL then some (.tup p.1,p.2)else none
noncomputable def kg (a:FA):FE:=λr S=>(a r S).bind λp=>if p.1.length<=dL then some (.ref p.2.length,p.2++[.lst p.1])else none
section
variable{es:List Expr}{pos:Pos}{a:FA}
theorem FJ{x1}(h:MA X es a):ME X (.Tuple es x1 pos) (eD a):=fy (E3 h) <| by
 rintro σ H Q ⟨r,mu,S,d,l,f,g,b,hc⟩;obtain⟨⟨ds,m⟩,k,b⟩:=oB1.mp b;dsimp only at b;split at b
 ·rename_i i;cases b;refine⟨r,mu,S,ds,_,f,g,k,λvs H1 mu1 x1 e j=>⟨by rw[<- e.length];exact i,λp c=>?_⟩⟩;exact hc _ _ mu1 (x1.trans (Ext.fresh c)) (.tup (kr.of d9) (e.ext (Ext.fresh c))) (j.fresh c)
 ·cases b
theorem FP(h:MA X es a):ME X (.List es pos) (kg a):=fy (E7 h) <| by
 rintro σ H Q ⟨r,mu,S,d,m,g,i,b,hc⟩;obtain⟨⟨ds,n⟩,l,b⟩:=oB1.mp b;dsimp only at b;split at b
 ·rename_i k;cases b;refine⟨r,mu,S,ds,_,g,i,l,λvs H1 mu1 j c f=>⟨by rw[<- c.length];exact k,λp e=>?_⟩⟩;exact hc _ _ (mu1++[p]) (j.trans (Ext.new_ e)) (.ref (gf f.len p)) (f.newL c e)
 ·cases b
end
noncomputable def oZ(k:Nat)(keep:List Nat)(r:Ev):Ev:=aO k Y++keep.map λi=>(r[i]?).join
noncomputable def fW:FT:=λ_ S=>Z (M,S)
theorem DU{K:Fg1}{H:Hp}{mu:List dE}{r:Ev}{σ:L2.St}(k:Nat)(keep:List Nat)(h:fH K H mu r σ):fH K H mu (oZ k keep r) (rO k keep σ):=by
 refine⟨by unfold oZ rO;rw[lA1,lA1,lM1,lM1,lR1,lR1],λi d e=>?_⟩;unfold oZ at e;unfold rO;by_cases hi:i<k
 ·rw[gL1 (by rw[lR1];exact hi),aR]at e;split at e<;>cases e
 ·rw [gR1 (by rw [lR1];lia),lR1,gP1] at e;rw [gR1 (by rw [lR1];lia),lR1,gP1];obtain ⟨j,c,e⟩:=oM1.mp e;rw [c];have b:r[j]? = some (some d):=by
   cases q:r[j]? with
   |none=>rw[q]at e;cases e
   |some o=>rw[q]at e;cases e;rfl
  obtain⟨v,f,a⟩:=h.val j d b;exact⟨v,by rw[oP1,f];rfl,a⟩
theorem zU{ifs:List Expr}{t t':L2.TT}(h:ph X ifs t)(i:∀ σ H Q,t' σ H Q->t σ H Q):ph X ifs t':=λag s σ H Q I q=>h ag s σ H Q I (i σ H Q q)
theorem CJ:ph X [] (zl X.K fW):=zU zT fun σ H Q ⟨r,mu,S,b,e,d,c,a,hc⟩=>by cases a;exact hc H mu (.refl _ _) c
theorem CI{c:Expr}{t:FT}(h:MT X c t):ph X [c] (zl X.K t):=zS h
open PySem.AutoSeq1 (wpAny_loadPart')
def SIt(b:Bool)(h:dP)(it a:dE)(i:Nat):Prop:=match b with
 |true=>h.IsListIter it a i
 |false=>h.IsTupleIter it a i
def SCo(b:Bool)(h:dP)(a:dE)(xs:Array dB):Prop:=match b with
 |true=>h.IsList a xs
 |false=>h.IsTuple a xs
theorem SIt.to{b:Bool}{h h':dP}{it a:dE}{i:Nat}(x:SIt b h it a i)(k:∀o,h.get? it=Z o->h'.get? it=Z o):SIt b h' it a i:=by
 cases b<;>(obtain⟨o,e,r⟩:=x;exact⟨o,k o e,r⟩)
theorem SIt.rec_{b:Bool}{h:dP}{it a:dE}{i:Nat}(x:SIt b h it a i):∃o,h.get? it=Z o /\ ∀v,o.data ≠ .cell v:=by
 cases b<;>(obtain⟨o,e,c,d⟩:=x;exact⟨o,e,λv z=>by rw[d]at z;cases z⟩)
theorem SCo.to{b:Bool}{h h':dP}{a:dE}{xs:Array dB}(x:SCo b h a xs)(k:∀o,h.get? a=Z o->h'.get? a=Z o):SCo b h' a xs:=by
 cases b<;>(obtain⟨o,e,r⟩:=x;exact⟨o,k o e,r⟩)
noncomputable def f0(b:Bool)(a:dE):Obj:=match b with
 |true=>{cls:=.type "list_iterator",data:=.fields #[.ref a,.int 0 0]}
 |false=>{cls:=.type "tuple_iterator",data:=.fields #[.ref a,.int 0 0]}
section
variable{prog:dF}{w:dH}{A:dG}{E:dB->dD->Prop}{s:dD}
theorem qL{b:Bool}{h:dP}{it a:dE}(e:h.get? it=Z (f0 b a)):SIt b h it a 0:=by
 cases b<;>exact⟨_,e,O,O⟩
theorem ji{b:Bool}{a:dE}{xs:Array dB}{Q:dB->dD->Prop}(x:SCo b s.heap a xs)(h:Q (.ref s.heap.objs.size) {s with heap:=s.heap.push (f0 b a)}):dM (model prog w) A (pyIter (.ref a)) Q E s:=by
 cases b
 ·exact wpAny_pyIter_tuple x h
 ·exact wpAny_pyIter_list x h
theorem Aj{it l:dE}{i:Nat}{xs:Array dB}{x:dB}{Q:dB->dD->Prop}(ti:s.heap.IsTupleIter it l i)(tl:s.heap.IsTuple l xs)(hx:xs[i]? = Z x)(e:∀h',h'.IsTupleIter it l (i+1)->Heap.SameBut it s.heap h'->Q x {s with heap:=h'}):dM (model prog w) A (Builtin.SmallTypes.nextOf (.ref it)) Q E s:=by
 obtain⟨o,b,hc,a⟩:=id ti;obtain⟨f,d,_,g,c⟩:=tl;unfold Builtin.SmallTypes.nextOf;refine wB1 (wpAny_callSpecial?_slot (name:=Str.ofString "__next__") ti.typeIs F.slot_tuple_iterator_next (wE1 F.slot_tuple_iterator_next ti.typeIs F.entry_tuple_iterator_next ?_ (F.args_tuple_iterator_next_1 _)));show dM _ _ (field (.ref it) 0 >>= _) _ _ s;refine wB1 (wpAny_field b a (x:=.ref l) O ?_);show dM _ _ (if(Value.ref l == Value.none)=M then _ else _) _ _ s;rw[aj (show¬ ((Value.ref l == Value.none)=M)from aK)];show dM _ _ (field (.ref it) 1 >>= _) _ _ s;refine wB1 (wpAny_field b a (x:=.int i 0) O ?_);show dM _ _ (seqItems? (.ref l) >>= _) _ _ s;refine wB1 (wpAny_seqItems d c ?_);simp only[Int.toNat_natCast,hx];refine wB1 (wpAny_setField b a (by simp) (wP1 ⟨x,O,wP1 (e _ ⟨_,hW1 _ b (Obj.isFreed_of_fields (Obj.data_mapFields a _)),(Obj.cls_mapFields ..).trans hc,by rw[Obj.data_mapFields a];simp[rawInt]⟩ (Heap.SameBut.update ..))⟩))
theorem rA {it l:dE}{i:Nat}{xs:Array dB}{Q:dB->dD->Prop}(g:A.handled=none)(ti:s.heap.IsTupleIter it l i)(tl:s.heap.IsTuple l xs)(hx:xs[i]? = none)
  (h:∀h' e,Heap.ExtBut it s.heap h'->(∃o,h'.get? e=Z o/\o.cls = .type "StopIteration")->E (.ref e) {s with heap:=h'}):dM (model prog w) A (Builtin.SmallTypes.nextOf (.ref it)) Q E s:=by
 obtain⟨o,f,hc,c⟩:=id ti;obtain⟨j,d,_,k,b⟩:=tl;unfold Builtin.SmallTypes.nextOf;refine wB1 (wpAny_callSpecial?_slot (name:=Str.ofString "__next__") ti.typeIs F.slot_tuple_iterator_next (wE1 F.slot_tuple_iterator_next ti.typeIs F.entry_tuple_iterator_next ?_ (F.args_tuple_iterator_next_1 _)));show dM _ _ (field (.ref it) 0 >>= _) _ _ s;refine wB1 (wpAny_field f c (x:=.ref l) O ?_);show dM _ _ (if(Value.ref l == Value.none)=M then _ else _) _ _ s;rw[aj (show¬ ((Value.ref l == Value.none)=M)from aK)];show dM _ _ (field (.ref it) 1 >>= _) _ _ s;refine wB1 (wpAny_field f c (x:=.int i 0) O ?_);show dM _ _ (seqItems? (.ref l) >>= _) _ _ s;refine wB1 (wpAny_seqItems d b ?_);simp only[Int.toNat_natCast,hx];refine wB1 (wpAny_rule (wB1 (wpAny_setField f c (by simp) ?_)));show dM _ _ (newExc (.type "StopIteration") [] >>= _) _ _ _;refine wB1 ?_;simp only[newExc,newTuple];refine wB1 (wO1 ?_ (by size_fits));refine wB1 (m:=firstArgMember _ _) (wpAny_of_eq (a:=Value.none) (by first|rfl|(simp only[firstArgMember];rfl)) ?_);refine wO1 ?_ (by size_fits);simp only[raiseNew];refine wB1 (wpAny_handled ?_)
 first|rw[show A.in1.handled=Y from g] | rw[g]
 refine wB1 (wP1 (wpAny_throw ?_));exact h _ _ (((Heap.SameBut.update ..).extBut.push _).push _) ⟨_,hS1 _ O,O⟩
theorem kZ{b:Bool}{it l:dE}{i:Nat}{xs:Array dB}{x:dB}{Q:dB->dD->Prop}(ti:SIt b s.heap it l i)(tl:SCo b s.heap l xs)(hx:xs[i]? = Z x)(a:∀h',SIt b h' it l (i+1)->Heap.SameBut it s.heap h'->Q x {s with heap:=h'}):dM (model prog w) A (Builtin.SmallTypes.nextOf (.ref it)) Q E s:=by
 cases b
 ·exact Aj ti tl hx a
 ·exact wpAny_nextOf_list_item ti tl hx a
theorem iV {b:Bool}{it l:dE}{i:Nat}{xs:Array dB}{Q:dB->dD->Prop}(c:A.handled=none)(ti:SIt b s.heap it l i)(tl:SCo b s.heap l xs)(hx:xs[i]? = none)
  (a:∀h' e,Heap.ExtBut it s.heap h'->(∃o,h'.get? e=Z o/\o.cls = .type "StopIteration")->E (.ref e) {s with heap:=h'}):dM (model prog w) A (Builtin.SmallTypes.nextOf (.ref it)) Q E s:=by
 cases b
 ·exact rA c ti tl hx a
 ·exact wpAny_nextOf_list_end c ti tl hx a
theorem A9{b:Bool}(l:dE)(xs:Array dB):
  Meets (Builtin.«enumerate.__new__» ⟨[.type "enumerate",.ref l],[]⟩) (λ_ R s=>SCo b s.heap l xs /\
   R (.ok (.ret (.ref (s.heap.push (f0 b l)).objs.size))) {s with heap:=(s.heap.push (f0 b l)).push {cls:=.type "enumerate",data:=.fields #[.none,.bool J,.ref s.heap.objs.size,rawInt 0,.none,.none]}}):=
 .of_wp λprog w A R s h=>by
  obtain⟨f,g,d,tk,m⟩:=s;obtain⟨i,h⟩:=h;have k:=sub_enumerate
  have j:SCo b (Shared.heap ⟨f,g,d,tk,m⟩) l xs:=i;obtain⟨n,a⟩:∃o,f.get? l=some o:=by cases b<;>(obtain⟨o,e,_⟩:=i;exact⟨o,e⟩)
  wp_walk using wpAny_loadPart' a
  refine wpAny_stack_any λst=>wP1 ?_;split
  ·rename_i c _ _ _ _ _;cases(c == Value.type "enumerate")<;>(wp_walk using wpAny_loadPart' a,ji j;exact⟨_,O,h⟩)
  ·wp_walk using wpAny_loadPart' a,ji j
   exact⟨_,O,h⟩
theorem yr{b:Bool}{l:dE}{xs:Array dB}{Q:dB->dD->Prop}(f:SCo b s.heap l xs)(h:∀h',IsEnum h' (s.heap.objs.size+1) s.heap.objs.size 0 .none->SIt b h' s.heap.objs.size l 0->h'.objs.size=s.heap.objs.size+2->(∀b o,s.heap.get? b=some o->h'.get? b=some o)->Q (.ref (s.heap.objs.size+1)) {s with heap:=h'}):
  dM (model prog w) A (call (.type "enumerate") [.ref l]) Q E s:=by
 refine callType_new F.called_enumerate (by decide) (F.typeCall_enumerate_1 _) (F.newCall_enumerate_1 _) (λa=>F.args_object_init_2 a _) F.entry_enumerate_new (A9 (b:=b) l xs) ⟨f,?_⟩;have d:(s.heap.push (f0 b l)).objs.size=s.heap.objs.size+1:=hZ1 ..
 show _/\_;rw[d];have e:IsEnum ((s.heap.push (f0 b l)).push {cls:=.type "enumerate",data:=.fields #[.none,.bool J,.ref s.heap.objs.size,rawInt 0,.none,.none]}) (s.heap.objs.size+1) s.heap.objs.size 0 .none:=by
  have q:=hS1 (s.heap.push (f0 b l)) (o:={cls:=.type "enumerate",data:=.fields #[.none,.bool J,.ref s.heap.objs.size,rawInt 0,.none,.none]}) O;rw[d]at q;exact q
 have hi:(s.heap.push (f0 b l)).get? s.heap.objs.size=Z (f0 b l):=hS1 _ (by cases b<;>rfl);refine⟨⟨_,e,O⟩,h _ e (qL (hP1 _ hi)) (by rw[hZ1,d]) λc o x=>hP1 _ (hP1 _ x)⟩
theorem yq {b:Bool}{e it l:dE}{i:Nat}{xs:Array dB}{x old:dB}{Q:Option dB->dD->Prop}(he:IsEnum s.heap e it i old)(ti:SIt b s.heap it l i)(tl:SCo b s.heap l xs)(hx:xs[i]? = some x)(m:e≠it)
  (U:∀h',IsEnumOut h' e it ((i:Int)+1) x s.heap.objs.size->SIt b h' it l (i+1)->h'.get? s.heap.objs.size=Z {cls:=.type "tuple",data:=.seq #[.int i s.toks,x]}->h'.objs.size=s.heap.objs.size+1 ->
   (∀b o,b≠e->b≠it->s.heap.get? b=Z o->h'.get? b=Z o)->Q (Z (.ref s.heap.objs.size)) {s with heap:=h',toks:=s.toks+1}):dM (model prog w) A (pyNext (.ref e)) Q E s:=by
 have T:s.TypeIs (.ref e) "enumerate":=⟨_,he,O⟩;unfold pyNext;refine wB1 (wpAny_attempt (wpAny_callSpecial?_slot (name:=Str.ofString "__next__") T F.slot_enumerate_next (wE1 F.slot_enumerate_next T F.entry_enumerate_next ?_ (F.args_enumerate_next_1 _))));obtain⟨r,g,d,tk,t⟩:=s;show dM _ _ (field (.ref e) 2 >>= _) _ _ _;refine wB1 (wpAny_field he O (x:=.ref it) O ?_);refine wB1 (kZ ti tl hx λh1 H D=>?_);replace D:Heap.SameBut it r h1:=D;have h:IsEnum h1 e it i old:=(D.2 e m).trans he;show dM _ _ (field (.ref e) 3 >>= _) _ _ ⟨h1,g,d,tk,t⟩;refine wB1 (wpAny_field h O (x:=rawInt i) O ?_);show dM _ _ (field (.ref e) 4 >>= _) _ _ ⟨h1,g,d,tk,t⟩;refine wB1 (wpAny_field h O (x:=.none) O ?_);show dM _ _ (mkInt i >>= _) _ _ ⟨h1,g,d,tk,t⟩;refine wB1 (wpAny_mkInt ?_);show dM _ _ (setField (.ref e) 3 (rawInt ((i:Int)+1)) >>= _) _ _ ⟨h1,g,d,tk+1,t⟩;refine wB1 (wS1 h (by simp) λh2 n C=>?_);replace C:Heap.SameBut e h1 h2:=C;replace n:IsEnum h2 e it ((i:Int)+1) old:=n;show dM _ _ (setField (.ref e) 4 .none >>= _) _ _ ⟨h2,g,d,tk+1,t⟩;refine wB1 (wS1 n (by simp) λh3 j G=>?_);replace G:Heap.SameBut e h2 h3:=G;replace j:IsEnum h3 e it ((i:Int)+1) old:=j;show dM _ _ (newTuple [.int i tk,x] >>= _) _ _ ⟨h3,g,d,tk+1,t⟩;refine wB1 (wpAny_newTuple ?_);have k:IsEnum (h3.push {cls:=.type "tuple",data:=.seq #[.int i tk,x]}) e it ((i:Int)+1) old:=hP1 _ j;generalize f:h3.push {cls:=.type "tuple",data:=.seq #[.int i tk,x]}=h4 at k;have p:h3.objs.size=r.objs.size:=by rw[G.1,C.1,D.1]
 have N:e<r.objs.size:=hL1 he;have S:h4.get? r.objs.size=Z {cls:=.type "tuple",data:=.seq #[.int i tk,x]}:=by rw[<- f,<- p];exact hS1 _ O
 have R:h4.objs.size=r.objs.size+1:=by rw[<- f,hZ1,p]
 have L:∀b o,b≠e->b≠it->r.get? b=Z o->h4.get? b=Z o:=λb o a u au=>by
  rw[<- f];exact hP1 _ (G.extBut b o a (C.extBut b o a (D.extBut b o u au)))
 have P:SIt b h4 it l (i+1):=H.to λo q=>by rw[<- f];exact hP1 _ (G.extBut _ _ (Ne.symm m) (C.extBut _ _ (Ne.symm m) q))
 show dM _ _ (Builtin.SmallTypes.ownedTupleIsFree (.ref e) >>= _) _ _ ⟨h4,g,d,tk+1,t⟩;rw[p];clear f j G n C h D H p h3 h2 h1;refine wB1 ?_;unfold Builtin.SmallTypes.ownedTupleIsFree;refine wB1 (wpAny_field k O (x:=.none) O (wP1 ?_));simp only[if_true];refine wB1 (wpAny_rule ?_);refine wB1 (wpAny_field k O (x:=old) O ?_);refine wB1 (wS1 k (by simp) λh5 v am=>?_);replace am:Heap.SameBut e h4 h5:=am;replace v:IsEnum h5 e it ((i:Int)+1) x:=v;show dM _ _ (Builtin.SmallTypes.ownedTupleHandOut (.ref e) (.ref r.objs.size) >>= _) _ _ ⟨h5,g,d,tk+1,t⟩;refine wB1 ?_;unfold Builtin.SmallTypes.ownedTupleHandOut;refine wB1 (wS1 v (by simp) λh6 B K=>?_);replace K:Heap.SameBut e h5 h6:=K;replace B:IsEnumOut h6 e it ((i:Int)+1) x r.objs.size:=B;refine wS1 B (by simp) λh7 y I=>?_;replace I:Heap.SameBut e h6 h7:=I;replace y:IsEnumOut h7 e it ((i:Int)+1) x r.objs.size:=y;have ao:∀c o,c≠e->h4.get? c=Z o->h7.get? c=Z o:=λc o z q=>I.extBut _ _ z (K.extBut _ _ z (am.extBut _ _ z q));refine wB1 (wpAny_letGo (wP1 ⟨_,O,wP1 (U h7 y (P.to λo q=>ao _ o (Ne.symm m) q) (ao _ _ (nG1 N) S) (by rw[I.1,K.1,am.1,R]) λc o a u au=>ao c o a (L c o a u au))⟩))
theorem Ba{b:Bool}{e it l:dE}{i:Nat}{xs:Array dB}{old:dB}{Q:Option dB->dD->Prop}(f:A.handled=Y)(he:IsEnum s.heap e it i old)(ti:SIt b s.heap it l i)(tl:SCo b s.heap l xs)(hx:xs[i]? = Y)(g:∀h',Heap.ExtBut it s.heap h'->Q Y {s with heap:=h'}):dM (model prog w) A (pyNext (.ref e)) Q E s:=by
 have d:s.TypeIs (.ref e) "enumerate":=⟨_,he,O⟩;unfold pyNext;refine wB1 (wpAny_attempt (wpAny_callSpecial?_slot (name:=Str.ofString "__next__") d F.slot_enumerate_next (wE1 F.slot_enumerate_next d F.entry_enumerate_next ?_ (F.args_enumerate_next_1 _))));show dM _ _ (field (.ref e) 2 >>= _) _ _ _;refine wB1 (wpAny_field he O (x:=.ref it) O ?_);refine wB1 (iV f ti tl hx λh' x c a=>?_);obtain⟨o,h,hc⟩:=a;refine wB1 (wpAny_isInstance (T:="StopIteration") (b:=M) ⟨o,h,hc⟩ isSubtype_stop ?_);exact wP1 (g _ c)
theorem p9{e it:dE}{i:Int}{old:dB}{Q:dB->dD->Prop}(he:IsEnum s.heap e it i old)(h:Q (.ref e) s):dM (model prog w) A (pyIter (.ref e)) Q E s:=by
 have a:s.TypeIs (.ref e) "enumerate":=⟨_,he,O⟩;refine wpAny_pyIter_slot a F.slot_enumerate_iter (wE1 F.slot_enumerate_iter a F.entry_enumerate_iter ?_ (F.args_enumerate_iter_1 _));show dM _ _ (ret (.ref e)) _ _ s;exact wP1 ⟨_,O,"enumerate",_,a,F.slot_enumerate_next.lookup,h⟩
end
open PySem.AutoSeq1 (wpAny_loadPart')
structure Ka (z ti to i1 i2:dE):Prop where
 a1:ti≠z
 a2:to≠z
 a3:i1≠z
 a4:i2≠z
 a5:ti≠to
 a6:ti≠i1
 a7:ti≠i2
 a8:to≠i1
 a9:to≠i2
 a10:i1≠i2
section
variable{prog:dF}{w:dH}{A:dG}{E:dB->dD->Prop}{s:dD}{b1 b2:Bool}
theorem SCo.ne{b:Bool}{h:dP}{a c:dE}{xs:Array dB}{o:Obj}(x:SCo b h a xs)(e:h.get? c=Z o)(n:∀ys k,o.data ≠ .seq ys k):a≠c:=by
 rintro rfl;cases b<;>(obtain⟨o',f,g,k,d⟩:=x;rw[e]at f;cases f;exact n _ _ d)
theorem SCo.ne_it{b f:Bool}{h:dP}{a it l:dE}{xs:Array dB}{i:Nat}(x:SCo b h a xs)(y:SIt f h it l i):a≠it:=by
 cases f<;>(obtain⟨o,e,c,d⟩:=y;exact x.ne e λys k z=>by rw[d]at z;cases z)
theorem y0{z ti to i1 k B n:dE}{R P:Nat}{xs ys:Array dB}{x y a b:dB}{Q:Option dB->dD->Prop}(D:Ka z ti to i1 k)(i:IsZip s.heap z ti to .none)(X:IsPair s.heap ti (.ref i1) (.ref k))(hto:IsPair s.heap to a b)(n1:B≠to)(n2:n≠to)(h1:SIt b1 s.heap i1 B R)(h2:SIt b2 s.heap k n P)(c1:SCo b1 s.heap B xs)(V:SCo b2 s.heap n ys)(hx:xs[R]?=some x)(hy:ys[P]?=some y)(hQ:∀h',IsZip h' z ti to (rawInt s.heap.objs.size)->IsPair h' to x y->SIt b1 h' i1 B (R+1)->SIt b2 h' k n (P+1)->IsPair h' s.heap.objs.size x y->h'.objs.size=s.heap.objs.size+1 ->
   (∀c o,c≠z->c≠to->c≠i1->c≠k->s.heap.get? c=Z o->h'.get? c=Z o)->Q (Z (.ref s.heap.objs.size)) {s with heap:=h'}):dM (model prog w) A (pyNext (.ref z)) Q E s:=by
 have hT:s.TypeIs (.ref z) "zip":=⟨_,i,O⟩;have l1z:B≠z:=c1.ne i λ_ _ q=>by cases q
 have l2z:n≠z:=V.ne i λ_ _ q=>by cases q
 have G:n≠i1:=V.ne_it h1;unfold pyNext;refine wB1 (wpAny_attempt (wpAny_callSpecial?_slot (name:=Str.ofString "__next__") hT F.slot_zip_next (wE1 F.slot_zip_next hT F.entry_zip_next ?_ (F.args_zip_next_1 _))));show dM _ _ (field (.ref z) 2 >>= _) _ _ _;refine wB1 (wpAny_field i O (x:=.bool J) O ?_);show dM _ _ (field (.ref z) 3 >>= _) _ _ _;refine wB1 (wpAny_field i O (x:=.ref ti) O ?_);refine wB1 (wpAny_seqItems X O ?_);show dM _ _ (Builtin.SmallTypes.ownedTupleIsFree (.ref z) >>= _) _ _ _;refine wB1 ?_;unfold Builtin.SmallTypes.ownedTupleIsFree;refine wB1 (wpAny_field i O (x:=.none) O (wP1 ?_));simp only[if_true];refine wB1 (wpAny_rule ?_);refine wB1 (wpAny_field i O (x:=.ref to) O ?_);refine wB1 (wS1 i (by simp) λg1 t p=>?_);replace t:IsZip g1 z ti to .ellipsis:=t;refine wB1 ?_;simp only[bK,List.zipIdx_nil,bE,List.forIn_nil];refine wB1 (wB1 (wpAny_onRaise ?_));show dM _ _ (Builtin.SmallTypes.nextOf (.ref i1) >>= _) _ _ _
 refine wB1 (kZ (h1.to λo q=>p.extBut _ _ D.a3 q) (c1.to λo q=>p.extBut _ _ l1z q) hx λg2 W u=>wP1 ?_);have h:IsPair g2 to a b:=u.extBut _ _ D.a8 (p.extBut _ _ D.a2 hto);refine wB1 (wpAny_seqItems h O ?_);refine wB1 (wpAny_updateSeq_pair h λg3 f v=>?_);replace f:IsPair g3 to x b:=f;refine wB1 (wpAny_letGo (wP1 ?_));refine wB1 (wB1 (wpAny_onRaise ?_));show dM _ _ (Builtin.SmallTypes.nextOf (.ref k) >>= _) _ _ _
 refine wB1 (kZ (h2.to λo q=>v.extBut _ _ D.a9.symm (u.extBut _ _ D.a10.symm (p.extBut _ _ D.a4 q))) (V.to λo q=>v.extBut _ _ n2 (u.extBut _ _ G (p.extBut _ _ l2z q))) hy λg4 T C=>wP1 ?_);have j:IsPair g4 to x b:=C.extBut _ _ D.a9 f;refine wB1 (wpAny_seqItems j O ?_);refine wB1 (wpAny_updateSeq_pair j λd e I=>?_);replace e:IsPair d to x y:=e;refine wB1 (wpAny_letGo (wP1 (wP1 ?_)));refine wB1 (wpAny_seqItems e O ?_);refine wB1 (wpAny_newTuple ?_);have ao:d.objs.size=s.heap.objs.size:=by rw[I.1,C.1,v.1,u.1,p.1]
 have H:IsZip d z ti to .ellipsis:=I.extBut _ _ D.a2.symm (C.extBut _ _ D.a4.symm (v.extBut _ _ D.a2.symm (u.extBut _ _ D.a3.symm t)));have hk5:∀c o,c≠z->c≠to->c≠i1->c≠k->s.heap.get? c=Z o->d.get? c=Z o:=λc o r N q3 aq q=>I.extBut _ _ N (C.extBut _ _ aq (v.extBut _ _ N (u.extBut _ _ q3 (p.extBut _ _ r q))));have S:SIt b1 d i1 B (R+1):=W.to λo q=>I.extBut _ _ D.a8.symm (C.extBut _ _ D.a10 (v.extBut _ _ D.a8.symm q));have h25:SIt b2 d k n (P+1):=T.to λo q=>I.extBut _ _ D.a9.symm q;have l:z<d.objs.size:=hL1 H;show dM _ _ (Builtin.SmallTypes.ownedTupleHandOut (.ref z) (.ref d.objs.size) >>= _) _ _ _;refine wB1 ?_;unfold Builtin.SmallTypes.ownedTupleHandOut;have hz6:IsZip (d.push {cls:=.type "tuple",data:=.seq #[x,y]}) z ti to .ellipsis:=hP1 _ H;refine wB1 (wS1 hz6 (by simp) λg7 m U=>?_);replace m:IsZip g7 z ti to (rawInt d.objs.size):=m;refine wS1 m (by simp) λam g wq=>?_;replace g:IsZip am z ti to (rawInt d.objs.size):=g;have au:∀c o,c≠z->d.get? c=Z o->am.get? c=Z o:=λc o r q=>wq.extBut _ _ r (U.extBut _ _ r (hP1 _ q));have K:IsPair am d.objs.size x y:=wq.extBut _ _ (nG1 l) (U.extBut _ _ (nG1 l) (hS1 _ O));have L:am.objs.size=d.objs.size+1:=by rw[wq.1,U.1,hZ1]
 rw[ao]at g K L;refine wP1 ⟨_,O,wP1 ?_⟩;show Q (Z (.ref d.objs.size)) _;rw[ao]
 exact hQ am g (au _ _ D.a2 e) (S.to λo q=>au _ o D.a3 q) (h25.to λo q=>au _ o D.a4 q) K L λc o r N q3 aq q=>au c o r (hk5 c o r N q3 aq q)
theorem BK{z ti to i1 u G r:dE}{P ao:Nat}{xs ys:Array dB}{a b:dB}{Q:Option dB->dD->Prop}(U:A.handled=Y)(D:Ka z ti to i1 u)(k:IsZip s.heap z ti to .none)(am:IsPair s.heap ti (.ref i1) (.ref u))(K:IsPair s.heap to a b)(n1:G≠to)(n2:r≠to)(h1:SIt b1 s.heap i1 G P)(h2:SIt b2 s.heap u r ao)(R:SCo b1 s.heap G xs)(I:SCo b2 s.heap r ys)(B:xs[P]?=Y\/ys[ao]?=Y)(aq:∀h',(∀c o,c≠z->c≠to->c≠i1->c≠u->s.heap.get? c=Z o->h'.get? c=Z o)->Q Y {s with heap:=h'}):dM (model prog w) A (pyNext (.ref z)) Q E s:=by
 have X:s.TypeIs (.ref z) "zip":=⟨_,k,O⟩;have y:G≠z:=R.ne k λ_ _ q=>by cases q
 have au:r≠z:=I.ne k λ_ _ q=>by cases q
 have p:r≠i1:=I.ne_it h1;unfold pyNext;refine wB1 (wpAny_attempt (wpAny_callSpecial?_slot (name:=Str.ofString "__next__") X F.slot_zip_next (wE1 F.slot_zip_next X F.entry_zip_next ?_ (F.args_zip_next_1 _))));show dM _ _ (field (.ref z) 2 >>= _) _ _ _;refine wB1 (wpAny_field k O (x:=.bool J) O ?_);show dM _ _ (field (.ref z) 3 >>= _) _ _ _;refine wB1 (wpAny_field k O (x:=.ref ti) O ?_);refine wB1 (wpAny_seqItems am O ?_);show dM _ _ (Builtin.SmallTypes.ownedTupleIsFree (.ref z) >>= _) _ _ _;refine wB1 ?_;unfold Builtin.SmallTypes.ownedTupleIsFree;refine wB1 (wpAny_field k O (x:=.none) O (wP1 ?_));simp only[if_true];refine wB1 (wpAny_rule ?_);refine wB1 (wpAny_field k O (x:=.ref to) O ?_);refine wB1 (wS1 k (by simp) λg1 i g=>?_);replace i:IsZip g1 z ti to .ellipsis:=i;refine wB1 ?_;simp only[bK,List.zipIdx_nil,bE,List.forIn_nil];refine wB1 (wB1 (wpAny_onRaise ?_));show dM _ _ (Builtin.SmallTypes.nextOf (.ref i1) >>= _) _ _ _
 cases hx:xs[P]? with
 |none=>
  refine wB1 (iV U (h1.to λo q=>g.extBut _ _ D.a3 q) (R.to λo q=>g.extBut _ _ y q) hx λL e l H=>?_);obtain⟨N,d,f⟩:=H;have C:IsZip L z ti to .ellipsis:=l _ _ D.a3.symm i;have n:e≠z:=λq=>by subst q;rw[C]at d;cases d;simp at f
  refine wS1 C (by simp) λwq _ m=>?_;refine wB1 (wpAny_isInstance (T:="StopIteration") (b:=M) ⟨N,m.extBut _ _ n d,f⟩ isSubtype_stop ?_);exact wP1 (aq wq λc o t _ S _ q=>m.extBut _ _ t (l _ _ S (g.extBut _ _ t q)))
 |some x=>
  have hy:ys[ao]?=Y:=by rcases B with h|h;rw[hx]at h;cases h;exact h
  refine wB1 (kZ (h1.to λo q=>g.extBut _ _ D.a3 q) (R.to λo q=>g.extBut _ _ y q) hx λL h12 l=>wP1 ?_);have j:IsPair L to a b:=l.extBut _ _ D.a8 (g.extBut _ _ D.a2 K);refine wB1 (wpAny_seqItems j O ?_);refine wB1 (wpAny_updateSeq_pair j λwq hto3 m=>?_);refine wB1 (wpAny_letGo (wP1 ?_));refine wB1 (wB1 (wpAny_onRaise ?_));show dM _ _ (Builtin.SmallTypes.nextOf (.ref u) >>= _) _ _ _
  refine wB1 (iV U (h2.to λo q=>m.extBut _ _ D.a9.symm (l.extBut _ _ D.a10.symm (g.extBut _ _ D.a4 q))) (I.to λo q=>m.extBut _ _ n2 (l.extBut _ _ p (g.extBut _ _ au q))) hy λg4 e V H=>?_);obtain⟨N,d,f⟩:=H;have v:IsZip g4 z ti to .ellipsis:=V _ _ D.a4.symm (m.extBut _ _ D.a2.symm (l.extBut _ _ D.a3.symm i));have n:e≠z:=λq=>by subst q;rw[v]at d;cases d;simp at f
  refine wS1 v (by simp) λg5 _ W=>?_;refine wB1 (wpAny_isInstance (T:="StopIteration") (b:=M) ⟨N,W.extBut _ _ n d,f⟩ isSubtype_stop ?_);exact wP1 (aq g5 λc o t q2 S q4 q=>W.extBut _ _ t (V _ _ q4 (m.extBut _ _ q2 (l.extBut _ _ S (g.extBut _ _ t q)))))
def zH(b1 b2:Bool)(h:dP)(l1 l2:dE):dP:=((((h.push (f0 b1 l1)).push (f0 b2 l2)).push {cls:=.type "tuple",data:=.seq #[.ref h.objs.size,.ref (h.objs.size+1)]}).push {cls:=.type "tuple",data:=.seq #[.none,.none]}).push
 {cls:=.type "zip",data:=.fields #[.none,.bool J,.bool J,.ref (h.objs.size+2),.ref (h.objs.size+3)]}
theorem BJ(a c:dE)(xs ys:Array dB):Meets (Builtin.«zip.__new__» ⟨[.type "zip",.ref a,.ref c],[]⟩) (λ_ R s=>SCo b1 s.heap a xs/\SCo b2 s.heap c ys/\R (.ok (.ret (.ref (s.heap.objs.size+4)))) {s with heap:=zH b1 b2 s.heap a c}):=
 .of_wp λprog w A R s h=>by
  obtain⟨b,g,d,tk,f⟩:=s;obtain⟨k,l,h⟩:=h;have e:=sub_zip
  have j:SCo b1 (Shared.heap ⟨b,g,d,tk,f⟩) a xs:=k;have i:SCo b2 (Shared.heap ⟨b.push (f0 b1 a),g,d,tk,f⟩) c ys:=l.to λo q=>hP1 _ q
  wp_walk using ji j,ji i
  refine⟨_,O,?_⟩;have m:(b.push (f0 b1 a)).objs.size=b.objs.size+1:=hZ1 ..
  simp only[hZ1,zH]at h ⊢;exact h
theorem y1{d b:dE}{xs ys:Array dB}{Q:dB->dD->Prop}(k:SCo b1 s.heap d xs)(t:SCo b2 s.heap b ys)(h:∀h',IsZip h' (s.heap.objs.size+4) (s.heap.objs.size+2) (s.heap.objs.size+3) .none->IsPair h' (s.heap.objs.size+2) (.ref s.heap.objs.size) (.ref (s.heap.objs.size+1))->IsPair h' (s.heap.objs.size+3) .none .none ->
   SIt b1 h' s.heap.objs.size d 0->SIt b2 h' (s.heap.objs.size+1) b 0->h'.objs.size=s.heap.objs.size+5->(∀c o,s.heap.get? c=Z o->h'.get? c=Z o)->Q (.ref (s.heap.objs.size+4)) {s with heap:=h'}):
  dM (model prog w) A (call (.type "zip") [.ref d,.ref b]) Q E s:=by
 refine callType_new F.called_zip (by decide) (F.typeCall_zip_2 _ _) (F.newCall_zip_2 _ _) (λg=>F.args_object_init_3 g _ _) F.entry_zip_new (BJ (b1:=b1) (b2:=b2) d b xs ys) ⟨k,t,?_⟩;have a:∀{h:dP} {o:Obj} {c:dE} {u:Obj},h.get? c=Z u->(h.push o).get? c=Z u:=λq=>hP1 _ q;have at_:∀{h:dP} {o:Obj} {n:Nat},h.objs.size=n->o.isFreed=J->(h.push o).get? n=Z o:=λe f=>by rw[<- e];exact hS1 _ f
 have m:(f0 b1 d).isFreed=J:=by cases b1<;>rfl
 have l:(f0 b2 b).isFreed=J:=by cases b2<;>rfl
 have p:(zH b1 b2 s.heap d b).get? s.heap.objs.size=Z (f0 b1 d):=a (a (a (a (at_ O m))));have v:(zH b1 b2 s.heap d b).get? (s.heap.objs.size+1)=Z (f0 b2 b):=a (a (a (at_ (by simp only[hZ1]) l)));have r:IsPair (zH b1 b2 s.heap d b) (s.heap.objs.size+2) (.ref s.heap.objs.size) (.ref (s.heap.objs.size+1)):=a (a (at_ (by simp only[hZ1]) O));have j:IsPair (zH b1 b2 s.heap d b) (s.heap.objs.size+3) .none .none:=a (at_ (by simp only[hZ1]) O);have i:IsZip (zH b1 b2 s.heap d b) (s.heap.objs.size+4) (s.heap.objs.size+2) (s.heap.objs.size+3) .none:=at_ (by simp only[hZ1]) O;exact⟨⟨_,i,O⟩,h _ i r j (qL p) (qL v) (by simp only[zH,hZ1]) λc o q=>a (a (a (a (a q))))⟩
end
def sy(K:Fg1)(b:Bool)(H:Hp)(a:dE)(xs:List V):Prop:=match b with
 |true=>mU K H a xs
 |false=>kr K H a xs
section
variable{ag:List (dE×Obj)}{σ:L2.St}{H:Hp}{s:dD}
theorem e0{b:Bool}{a:dE}{xs:List V}(I:Inv X ag σ H s)(h:sy X.K b H a xs):∃c:List dB,eE xs c/\SCo b s.heap a c.toArray/\xs.length<=dL:=by
 cases b
 ·obtain⟨c,r,p,z⟩:=I.tuple h;exact⟨c,r,p,z⟩
 ·obtain⟨c,r,p,z⟩:=I.list h;exact⟨c,r,p.isList,z⟩
theorem mZ{b:Bool}{a:dE}{xs ys:List V}(I:Inv X ag σ H s)(h:sy X.K b H a xs)(h':sy X.K b H a ys):xs=ys:=by
 cases b
 ·exact I.tuple_inj h h'
 ·exact I.list_inj h h'
theorem qB{b:Bool}{a c:dE}{xs:List V}(I:Inv X ag σ H s)(h:sy X.K b H a xs)(f:jW X ag H c):a≠c:=by
 rintro rfl;have d:∀{o},X.K.lookup a=Z o->False:=λ{o} e=>by
  have g:=I.ok.mod.kin _ _ e;rcases f.2.2.2.1 with z|z
  ·exact I.ok.noex _ _ g z
  ·exact absurd (nL1 (hL1 g) (aC I.ok.bsz z)) (az _)
 cases b
 ·rcases h with(h|⟨_,h⟩)|⟨_,_,_,h,_⟩
  ·rw[f.1]at h;cases h
  ·rw[f.1]at h;cases h
  ·exact d h
 ·rcases h with(h|⟨_,h⟩)|⟨_,_,_,h,_⟩
  ·rw[f.1]at h;cases h
  ·rw[f.1]at h;cases h
  ·exact d h
theorem tW(I:Inv X ag σ H s){fp:List dE}(hf:∀ b∈fp,jW X ag H b){h':dP}{p:dE}{xs:List V}{its:List dB}{t':Nat}(hp:s.heap.objs.size<=p)(f:∀ b o,b∉fp->s.heap.get? b=Z o->h'.get? b=Z o)(t:IsTup h' p its.toArray)(l:eE xs its)(k:xs.length<=dL):Inv X ag σ (upd H p (.tup xs)) {s with heap:=h',toks:=t'}:=by
 have d:H p=Y:=I.hok.fresh hp;have g:∀{b o},s.heap.get? b=Z o->b≠p:=λe=>nN1 (nL1 (hL1 e) hp);have h:∀{b u},H b=Z u->b∉fp:=λe z=>by rw[(hf _ z).1]at e;cases e
 refine I.step (g':=s.gens) (d':=s.drawn) (ch:=fp) (λb a=>⟨(hf b a).2.2.2.1,(hf b a).2.1,(hf b a).2.2.2.2.1,(hf b a).2.2.2.2.2⟩) (λb o _ _ hc e _=>f b o hc e) (λb o _ _ hc e _=>⟨o.slots,f b o hc e⟩) (λb o _ e n=>?_)
  (λb o hc e=>⟨o,f b o hc e⟩) (λb ys e=>?_) (λb o u e=>?_) (λb ps e=>⟨#[],?_⟩) (λm i=>?_) (λb u e=>?_) I.bare
 ·rw[d0 (g e)];exact n
 ·rw[d0 (eI e d)];exact e
 ·rw[d0 (eI e d)];exact e
 ·rw[d0 (eI e d),e];simp
 ·obtain⟨o,es,ep,j,r⟩:=i;exact⟨o,es,ep,f _ o (λz=>(hf _ z).2.1 O) j,r⟩
 ·by_cases a:b=p
  ·subst a;rw[d9]at e;cases e;exact⟨k,its,l,t⟩
  ·rw[d0 a]at e;refine(I.hok b u e).stay (λc v hc q=>f c v ?_ q) (λc q=>by rw[d0 (eI q d)];exact q) λc ys q=>by rw[d0 (eI q d)];exact q
   rcases hc with z|z
   ·rw[z];exact h e
   ·exact h z
theorem n4(I:Inv X ag σ H s){fp:List dE}(hf:∀b∈fp,jW X ag H b){h':dP}{t':Nat}(a:∀b o,b∉fp->s.heap.get? b=Z o->h'.get? b=Z o):Inv X ag σ H {s with heap:=h',toks:=t'}:=by
 have f:∀{b u},H b=Z u->b∉fp:=λe z=>by rw[(hf _ z).1]at e;cases e
 refine I.step (g':=s.gens) (d':=s.drawn) (ch:=fp) (λb d=>⟨(hf b d).2.2.2.1,(hf b d).2.1,(hf b d).2.2.2.2.1,(hf b d).2.2.2.2.2⟩) (λb o _ _ hc e _=>a b o hc e) (λb o _ _ hc e _=>⟨o.slots,a b o hc e⟩) (λb o _ e n=>n)
  (λb o hc e=>⟨o,a b o hc e⟩) (λb ys e=>e) (λb o u e=>e) (λb ps e=>⟨#[],by rw[e];simp⟩) (λm g=>?_) (λb u e=>?_) I.bare
 ·obtain⟨o,es,ep,h,r⟩:=g;exact⟨o,es,ep,a _ o (λz=>(hf _ z).2.1 O) h,r⟩
 ·refine(I.hok b u e).stay (λc v hc q=>a c v ?_ q) (λc q=>q) λc ys q=>q;rcases hc with z|z
  ·rw[z];exact f e
  ·exact f z
end
theorem sI:(2:Nat)<=dL:=by decide
def KF(K:Fg1)(b:Bool)(a:dE):It:=
 ⟨λi H=>∃xs x,sy K b H a xs/\xs[i]?=Z x,λi H x H'=>∃p v,H p=Y/\x = .ref p/\H'=upd H p (.tup [.int i,v]) /\ ∀xs,sy K b H a xs->xs[i]?=Z v,λi H=>∃xs,sy K b H a xs/\xs.length<=i⟩
theorem xF{P:dF}{w:dH}{K:Fg1}{elts:List Expr}{k:Nat}{pos:Pos}(b:Bool)(a e it:dE)(ne:e≠it):uG P w K (.Tuple elts k pos) (KF K b a) [e,it] e (λi h=>(∃old,IsEnum h e it (i:Nat) old)/\SIt b h it a i) where
 mem:=by simp
 obj:=by
  rintro i h ⟨⟨old,st⟩,n⟩ c hc;rcases aF.mp hc with z|z
  ·subst z;exact⟨_,st,λv q=>by cases q⟩
  ·have S:c=it:=by simpa using z
   subst S;exact n.rec_
 keep:=λi h h' ⟨⟨old,st⟩,n⟩ au=>⟨⟨old,au e (by simp) _ st⟩,n.to λo q=>au it (by simp) o q⟩
 item:=by
  intro X ao B y hc i ag s σ H E I l st L;subst ao B y;obtain⟨⟨old,f⟩,j⟩:=st;obtain⟨xs,x,m,A⟩:=L;obtain⟨F,t,C,U⟩:=e0 I m;obtain⟨u,T,ru⟩:=t.get A;refine yq f j C (x:=u) (by simpa using T) ne λh1 am N p hz1 r=>?_;refine⟨.ref s.heap.objs.size,O,?_⟩;refine wpAny_letOwnedTupleGo_enum am λh2 D d=>?_;have R:s.heap.objs.size≠e:=nG1 (hL1 f);have G:∀c o,c∉[e,it]->s.heap.get? c=Z o->h2.get? c=Z o:=λc o hc q=>by
   have g:c≠e:=λz=>hc (by simp[z]);have V:c≠it:=λz=>hc (by simp[z]);exact d.extBut _ _ g (r c o g V q)
  have tp:IsTup h2 s.heap.objs.size [.int (i:Nat) s.toks,u].toArray:=⟨_,d.extBut _ _ R p,O,_,O⟩;have I2:=tW I l (t':=s.toks+1) (nR1 _) G tp (xs:=[.int i,x]) (.cons ⟨_,O⟩ (.cons ru .nil)) sI;have W:H s.heap.objs.size=Y:=I.hok.fresh (nR1 _);refine⟨.ref s.heap.objs.size,_,I2,O,⟨_,x,W,O,O,λys aq=>by rw[mZ I aq m];exact A⟩,⟨⟨u,?_⟩,N.to λo q=>d.extBut _ _ (Ne.symm ne) q⟩,λc hc=>?_⟩
  ·have:((i+1:Nat):Int)=(i:Int)+1:=by push_cast;rfl
   rw[this];exact D
  ·have g:c≠s.heap.objs.size:=fun z=>by
    rcases aF.mp hc with q|q
    ·exact R (z.symm.trans q)
    ·have wq:c=it:=by simpa using q
     obtain⟨o,Q,_⟩:=j.rec_;rw[<- wq,z]at Q;exact az _ (hL1 Q)
   rw[d0 g];exact(l c hc).1
 done:=by
  intro X ao B y hc i ag s σ H E I l st L;subst ao B y;obtain⟨⟨old,f⟩,j⟩:=st;obtain⟨xs,m,A⟩:=L;obtain⟨F,t,C,U⟩:=e0 I m;have hl:=t.length;refine Ba (I.ok.hd hc) f j C (by simp;lia) λh' eb=>⟨O,n4 I (t':=s.toks) l λc o hc q=>eb c o (λz=>hc (by simp[z])) q⟩
 self:=λ_ _ _ _ _ ⟨⟨_,st⟩,_⟩ h=>p9 st h
def KC(K:Fg1)(b1 b2:Bool)(a1 a2:dE):It:=
 ⟨λi H=>∃xs ys x y,sy K b1 H a1 xs/\sy K b2 H a2 ys/\xs[i]?=Z x/\ys[i]?=Z y,λi H x H'=>∃p v u,H p=Y/\x = .ref p/\H'=upd H p (.tup [v,u])/\(∀xs,sy K b1 H a1 xs->xs[i]?=Z v) /\ ∀ys,sy K b2 H a2 ys->ys[i]?=Z u,
  λi H=>∃xs ys,sy K b1 H a1 xs/\sy K b2 H a2 ys/\(xs.length<=i\/ys.length<=i)⟩
theorem zb{P:dF}{w:dH}{K:Fg1}{elts:List Expr}{k:Nat}{pos:Pos}(b1 b2:Bool)(a1 a2 z ti to n t:dE)(D:Ka z ti to n t):uG P w K (.Tuple elts k pos) (KC K b1 b2 a1 a2) [z,ti,to,n,t] z
  (λi h=>IsZip h z ti to .none/\IsPair h ti (.ref n) (.ref t)/\(∃u v,IsPair h to u v)/\SIt b1 h n a1 i/\SIt b2 h t a2 i) where
 mem:=by simp
 obj:=by
  rintro i h ⟨j,b,⟨u,v,d⟩,g,l⟩ c hc;simp only[aF,bL,or_false]at hc;rcases hc with rfl|rfl|rfl|rfl|rfl
  ·exact⟨_,j,λv q=>by cases q⟩
  ·exact⟨_,b,λv q=>by cases q⟩
  ·exact⟨_,d,λv q=>by cases q⟩
  ·exact g.rec_
  ·exact l.rec_
 keep:=λi h h' ⟨j,b,⟨u,v,d⟩,g,l⟩ C=>⟨C z (by simp) _ j,C ti (by simp) _ b,⟨u,v,C to (by simp) _ d⟩,g.to λo q=>C n (by simp) o q,l.to λo q=>C t (by simp) o q⟩
 item:=by
  intro X W Q N hc i ag s σ H E I f st V;subst W Q N;obtain⟨j,b,⟨u0,v0,d⟩,g,l⟩:=st;obtain⟨xs,ys,x,y,A,B,ex,ey⟩:=V;obtain⟨T,ao,R,hz⟩:=e0 I A;obtain⟨G,m,p,au⟩:=e0 I B;obtain⟨u,hu,ru⟩:=ao.get ex;obtain⟨L,S,aq⟩:=m.get ey;refine y0 D j b d (qB I A (f to (by simp))) (qB I B (f to (by simp))) g l R p (x:=u) (y:=L) (by simpa using hu) (by simpa using S) λh1 p1 p2 p3 p4 p5 p6 F=>?_;refine⟨.ref s.heap.objs.size,O,?_⟩;refine wpAny_letOwnedTupleGo_zip p1 λh2 z2 a=>?_;have lt:∀c∈[z,ti,to,n,t],c≠s.heap.objs.size:=λc hc e=>by
   obtain⟨o,wq⟩:∃o,s.heap.get? c=some o:=by
    simp only[aF,bL,or_false]at hc;rcases hc with rfl|rfl|rfl|rfl|rfl
    ·exact⟨_,j⟩
    ·exact⟨_,b⟩
    ·exact⟨_,d⟩
    ·obtain⟨o,e,_⟩:=g.rec_;exact⟨o,e⟩
    ·obtain⟨o,e,_⟩:=l.rec_;exact⟨o,e⟩
   rw[e]at wq;exact az _ (hL1 wq)
  have U:∀c o,c∉[z,ti,to,n,t]->s.heap.get? c=Z o->h2.get? c=Z o:=λc o hc q=>by
   simp only[aF,bL,or_false,not_or]at hc;exact a.extBut _ _ hc.1 (F c o hc.1 hc.2.2.1 hc.2.2.2.1 hc.2.2.2.2 q)
  have tp:IsTup h2 s.heap.objs.size [u,L].toArray:=⟨_,a.extBut _ _ (Ne.symm (lt z (by simp))) p5,O,_,O⟩;have I2:=tW I f (t':=s.toks) (nR1 _) U tp (xs:=[x,y]) (.cons ru (.cons aq .nil)) sI;have hn:H s.heap.objs.size=Y:=I.hok.fresh (nR1 _);refine⟨.ref s.heap.objs.size,_,I2,O,⟨_,x,y,hn,O,O,λam r=>by rw[mZ I r A];exact ex,λam r=>by rw[mZ I r B];exact ey⟩,
   ⟨z2,a.extBut _ _ D.a1 (F _ _ D.a1 D.a5 D.a6 D.a7 b),⟨u,L,a.extBut _ _ D.a2 p2⟩,p3.to λo q=>a.extBut _ _ D.a3 q,p4.to λo q=>a.extBut _ _ D.a4 q⟩,λc hc=>?_⟩
  rw[d0 (lt c hc)];exact(f c hc).1
 done:=by
  intro X W Q N hc i ag s σ H E I f st V;subst W Q N;obtain⟨j,b,⟨u0,v0,d⟩,g,l⟩:=st;obtain⟨xs,ys,A,B,hl⟩:=V;obtain⟨T,ao,R,hz⟩:=e0 I A;obtain⟨G,m,p,au⟩:=e0 I B;have l1:=ao.length;have l2:=m.length;refine BK (I.ok.hd hc) D j b d (qB I A (f to (by simp))) (qB I B (f to (by simp))) g l R p (by simp;lia) λh' eb=>⟨O,n4 I (t':=s.toks) f λc o hc q=>?_⟩;simp only[aF,bL,or_false,not_or]at hc;exact eb c o hc.1 hc.2.2.1 hc.2.2.2.1 hc.2.2.2.2 q
 self:=λ_ _ _ _ _ ⟨st,_⟩ h=>wpAny_pyIter_zip st h
section
variable{elts:List Expr}{k:Nat}{tpos:Pos}
def HZ(K:Fg1)(ta:TA):TI:=fun σ H R=>ta σ H λvs H1=>∃a b,vs=[.ref a]/\(∃xs,sy K b H1 a xs)/\R (KF K b a) H1
theorem Ck {a:Expr}{ta:TA}{p pos:Pos}(hg:Gl X "enumerate")(hm:X.mg "enumerate"=Y)(ha:PA X [a] ta)(hs:autoParam (dJ [a] X.env=[(J,eval a X.env)]) au0):PI X (.Tuple elts k tpos) (.Call (.Name "enumerate" p) [a] [] pos) (HZ X.K ta):=by
 intro ag s σ H R I h;refine Call_ (kh I hg hm boot_enumerate (PyProof.Rows.callWith_type1 (fD (ha pos ag s σ H _ I h) λD f ⟨vs,H1,g,n,l⟩=>?_) hs O));obtain⟨c,b,e,⟨xs,y⟩,q⟩:=l;subst e;cases n with
 |cons r m=>
  cases m;cases r;obtain⟨x,C,o,B⟩:=e0 g y;refine yr o λh' i u A t=>p9 i ?_;have v:Inv X ag σ H1 {f with heap:=h'}:=g.kept (t':=f.toks) t;refine⟨f.heap.objs.size+1,[f.heap.objs.size+1,f.heap.objs.size],_,_,H1,O,v,xF b c _ _ (Nat.succ_ne_self _),⟨⟨.none,i⟩,u⟩,λd w=>?_,q⟩;rcases aF.mp w with z|z
  ·subst z;exact g.fpOk (aW _) (g.hok.fresh (aW _))
  ·have j:d=f.heap.objs.size:=by simpa using z
   subst j;exact g.fpOk (nR1 _) (g.hok.fresh (nR1 _))
def JU(K:Fg1)(ta:TA):TI:=fun σ H R=>ta σ H λvs H1=>∃a1 b1 a2 b2,vs=[.ref a1,.ref a2]/\(∃xs,sy K b1 H1 a1 xs)/\(∃xs,sy K b2 H1 a2 xs)/\R (KC K b1 b2 a1 a2) H1
theorem EX {a b:Expr}{ta:TA}{p pos:Pos}(hg:Gl X "zip")(hm:X.mg "zip"=none)(ha:PA X [a,b] ta)(hs:autoParam (dJ [a,b] X.env=[(false,eval a X.env),(false,eval b X.env)]) au0)(hs2:autoParam (dJ [b] X.env=[(false,eval b X.env)]) au0):
  PI X (.Tuple elts k tpos) (.Call (.Name "zip" p) [a,b] [] pos) (JU X.K ta):=by
 intro ag s σ H R I h;refine Call_ (kh I hg hm boot_zip (PyProof.Rows.callWith_type1 (fD (ha pos ag s σ H _ I h) λN c ⟨vs,H1,g,o,C⟩=>?_) (by rw[hs,hs2]) (by rw[hs2];rfl)));obtain⟨K,b1,w,b2,e,⟨xs,x⟩,⟨ys,y⟩,q⟩:=C;subst e;cases o with
 |cons r j=>
  cases j with
  |cons D j=>
   cases j;cases r;cases D;obtain⟨F,P,E,Q⟩:=e0 g x;obtain⟨n,v,i,L⟩:=e0 g y;refine y1 E i λh' l G am u B au t=>wpAny_pyIter_zip l ?_;have A:Inv X ag σ H1 {c with heap:=h'}:=g.kept (t':=c.toks) t;refine⟨c.heap.objs.size+4,[c.heap.objs.size+4,c.heap.objs.size+2,c.heap.objs.size+3,c.heap.objs.size,c.heap.objs.size+1],_,_,H1,O,A,zb b1 b2 K w _ _ _ _ _ ?_,⟨l,G,⟨_,_,am⟩,u,B⟩,λd m=>?_,q⟩
   ·constructor<;>(intro z;have ao:((_:Nat)=_):=z;lia)
   ·have f:c.heap.objs.size<=d:=by
     simp only[aF,bL,or_false]at m;rcases m with rfl|rfl|rfl|rfl|rfl
     ·exact bq _ _
     ·exact bq _ _
     ·exact bq _ _
     ·exact nR1 _
     ·exact bq _ _
    exact g.fpOk f (g.hok.fresh f)
end
noncomputable def d7 (S:Sto):D->Option (Bool×List D)
 | .tup xs=>some (false,xs)
 | .rol xs=>some (true,xs)
 | .ref n=>match S[n]? with
  |some (.lst xs)=>some (true,xs)
  |_=>none
 |_=>none
noncomputable def jy(S:Sto):D->List (Nat×List D)
 | .ref n=>match S[n]? with
  |some (.lst xs)=>[(n,xs)]
  |_=>[]
 |_=>[]
section
variable{K:Fg1}{H:Hp}{mu:List dE}{S:Sto}
theorem ej{d:D}{v:V}{b:Bool}{xs:List D}(r:eO K H mu d v)(s:Sim K H mu S)(h:d7 S d=Z (b,xs)):∃a vs,v = .ref a/\sy K b H a vs/\d5 K H mu xs vs:=by
 cases d with
 |tup ys=>cases h;cases r with|tup q t=>exact⟨_,_,rfl,q,t⟩
 |rol ys=>cases h;cases r with|rol q t=>exact⟨_,_,rfl,q.sq,t⟩
 |ref n=>
  rw[d7]at h;split at h
  ·rename_i ys e;cases h;cases r with
   |ref q=>
    obtain⟨vs,f,c⟩:=s.lst e q;exact⟨_,vs,O,mU.of f,c⟩
  ·cases h
 |_=>cases h
theorem iE{d:D}{a:dE}{b:Bool}{xs:List D}(r:eO K H mu d (.ref a))(s:Sim K H mu S)(h:d7 S d=some (b,xs)){H1:Hp}{mu1:List dE}{S1:Sto}(x:sA mu mu1 H H1)(g:Sim K H1 mu1 S1)(ok:oW S1 (jy S d)=true):
  ∃vs,sy K b H1 a vs/\d5 K H1 mu1 xs vs:=by
 have f:=r.exw x;have h1:d7 S1 d=Z (b,xs):=by
  cases d with
  |ref n=>
   rw[d7]at h;split at h
   ·rename_i ys e;cases h;rw[jy,e]at ok;dsimp only[oW]at ok;rw[bM]at ok;rw[d7];split at ok
    ·rename_i zs c
     first|rw[c,D.sames_eq ok] | rw[D.sames_eq ok]
    ·cases ok
   ·cases h
  |_=>exact h
 obtain⟨i,vs,e,q,t⟩:=ej f g h1;cases e;exact⟨vs,q,t⟩
end
noncomputable def hK (m:FE):FI:=λr S=>(m r S).bind λp=>(d7 p.2 p.1).bind λq=>some (⟨q.2,jy p.2 p.1⟩,p.2)
noncomputable def yU:Nat->List D->List D
 |_,[]=>[]
 |n,d::ds=>.tup [.int n,d]::yU (n+1) ds
noncomputable def GO (m:FA):FI:=λr S=>(m r S).bind λp=>match p.1 with
 |[d]=>(d7 p.2 d).bind λq=>some (⟨yU 0 q.2,jy p.2 d⟩,p.2)
 |_=>none
noncomputable def uM:List D->List D->List D
 |x::xs,y::ys=>.tup [x,y]::uM xs ys
 |_,_=>[]
def BG(m:FA):FI:=λr S=>(m r S).bind λp=>match p.1 with
 |[d,e]=>(d7 p.2 d).bind λq=>(d7 p.2 e).bind λt=>Z (⟨uM q.2 t.2,jy p.2 d++jy p.2 e⟩,p.2)
 |_=>Y
noncomputable def gY(lo:Int):Nat->List D
 |0=>[]
 |n+1=>.int lo::gY (lo+1) n
noncomputable def t5 (m:FA):FI:=λr S=>(m r S).bind λp=>match p.1 with
 |[.int j]=>if-(2^62)<=j/\j<2^62 then some (⟨gY 0 j.toNat,[]⟩,p.2)else none
 |_=>none
def HX(m:FA):FI:=λr S=>(m r S).bind λp=>match p.1 with
 |[.int i,.int j]=>if-(2^62)<=i/\i<2^62 /\ -(2^62)<=j/\j<2^62 then Z (⟨gY i (j-i).toNat,[]⟩,p.2)else Y
 |_=>Y
theorem w8:∀(ds:List D) (n i:Nat),(yU n ds)[i]?=(ds[i]?).map λd=>.tup [.int ((n+i:Nat):Int),d]
 |[],n,i=>by simp[yU]
 |d::ds,n,0=>by simp[yU]
 |d::ds,n,i+1=>by
  rw[yU,gC1,w8 ds (n+1) i,gC1];rw[show n+1+i=n+(i+1) by lia]
theorem w6:∀(ds:List D) (n:Nat),(yU n ds).length=ds.length
 |[],_=>rfl
 |d::ds,n=>by rw[yU,lC1,w6 ds,lC1]
theorem vO:∀(xs ys:List D) (i:Nat) (d:D),(uM xs ys)[i]?=Z d -> ∃x y,xs[i]?=Z x/\ys[i]?=Z y/\d = .tup [x,y]
 |[],_,i,d,h=>by simp[uM]at h
 |_::_,[],i,d,h=>by simp[uM]at h
 |x::xs,y::ys,0,d,h=>by simp[uM]at h;exact⟨x,y,O,O,h.symm⟩
 |x::xs,y::ys,i+1,d,h=>by
  rw[uM,gC1]at h;obtain⟨c,a,f,b,e⟩:=vO xs ys i d h;exact⟨c,a,by simpa using f,by simpa using b,e⟩
theorem vN:∀(xs ys:List D) (i:Nat),(uM xs ys).length<=i->xs.length<=i\/ys.length<=i
 |[],_,i,_=>.inl (bh _)
 |_::_,[],i,_=>.inr (bh _)
 |x::xs,y::ys,0,h=>by simp[uM]at h
 |x::xs,y::ys,i+1,h=>by
  rcases vN xs ys i (by simpa[uM]using h)with q|q
  ·exact .inl (by simpa using q)
  ·exact .inr (by simpa using q)
theorem tF:∀(n:Nat) (lo:Int) (i:Nat) (d:D),(gY lo n)[i]?=Z d->i<n/\d = .int (lo+i)
 |0,lo,i,d,h=>by simp[gY]at h
 |n+1,lo,0,d,h=>by simp[gY]at h;exact⟨Nat.succ_pos _,by rw[<- h];simp⟩
 |n+1,lo,i+1,d,h=>by
  rw[gY,gC1]at h;obtain⟨h1,h2⟩:=tF n (lo+1) i d h;refine⟨Nat.succ_lt_succ h1,?_⟩;rw[h2,show lo+1+(i:Int)=lo+((i+1:Nat):Int) by push_cast;lia]
theorem ge:∀(n:Nat) (lo:Int),(gY lo n).length=n
 |0,_=>rfl
 |n+1,lo=>by rw[gY,lC1,ge n]
theorem wx{S:Sto}:∀{c a:List (Nat×List D)},oW S (c++a)=M->oW S c=M/\oW S a=M
 |[],_,h=>⟨O,h⟩
 |(n,xs)::c,a,h=>by
  rw[bi,oW,bA1]at h;obtain⟨h1,h2⟩:=wx h.2;exact⟨by rw[oW,bA1];exact⟨h.1,h1⟩,h2⟩
section
variable{tg:Expr}
theorem tU(K:Fg1)(lo:Int)(n:Nat)(mu:List dE)(H:Hp):ItR K (II lo n) ⟨gY lo n,[]⟩ mu H:=by
 intro i H1 mu1 e x s ok;refine⟨λd b=>?_,λh=>by rw[ge]at h;exact h⟩;obtain⟨h1,h2⟩:=tF n lo i d b;refine⟨h1,λy H2 ⟨a,c⟩=>?_⟩;subst a;subst c;subst h2;exact⟨.refl _ _,s,.int _⟩
theorem FC{e:Expr}{m:FE}(h:ME X e m):MI X tg e (hK m):=nP (Hn (Cj h) (EY h)) <| by
 rintro σ H R ⟨r,mu,S,am,I,C,D,l,hc⟩;obtain⟨⟨d,K⟩,E,l⟩:=oB1.mp l;obtain⟨⟨b,xs⟩,o,l⟩:=oB1.mp l;cases l;cases b with
 |true=>
  left;refine⟨r,mu,S,d,_,C,D,E,λv H1 mu1 s g f=>?_⟩;obtain⟨a,vs,rfl,q,t⟩:=ej g f o;refine⟨a,O,⟨vs,q⟩,hc _ H1 mu1 s (λi H2 z G x n ok=>?_) f⟩;obtain⟨ws,c,k⟩:=iE g f o x n ok;refine⟨λd u=>?_,λB=>⟨ws,c,by rw[<- k.length];exact B⟩⟩;obtain⟨v,j,p⟩:=k.get u;refine⟨⟨ws,v,c,j⟩,λy F ⟨w,A⟩=>?_⟩;subst w;have:=A ws c;rw[j]at this;cases this;exact⟨.refl _ _,n,p⟩
 |false=>
  right;refine⟨r,mu,S,d,_,C,D,E,λv H1 mu1 s g f=>?_⟩;obtain⟨a,vs,rfl,q,t⟩:=ej g f o;refine⟨a,O,⟨vs,q⟩,hc _ H1 mu1 s (λi H2 z G x n ok=>?_) f⟩;obtain⟨ws,c,k⟩:=iE g f o x n ok;refine⟨λd u=>?_,λB=>⟨ws,c,by rw[<- k.length];exact B⟩⟩;obtain⟨v,j,p⟩:=k.get u;refine⟨⟨ws,v,c,j⟩,λy F ⟨w,A⟩=>?_⟩;subst w;have:=A ws c;rw[j]at this;cases this;exact⟨.refl _ _,n,p⟩
theorem nM{K:Fg1}{H:Hp}{mu:List dE}{d:D}{vs:List V}(r:d5 K H mu [d] vs):∃v,vs=[v]/\eO K H mu d v:=by
 cases r with|cons r t=>cases t;exact⟨_,O,r⟩
theorem sY{K:Fg1}{H:Hp}{mu:List dE}{d e:D}{vs:List V}(r:d5 K H mu [d,e] vs):∃v u,vs=[v,u]/\eO K H mu d v/\eO K H mu e u:=by
 cases r with|cons r t=>cases t with|cons q t=>cases t;exact⟨_,_,O,r,q⟩
theorem xW {a:Expr}{m:FA}{p pos:Pos}(hg:Gl X "range")(hm:X.mg "range"=Y)(ha:MA X [a] m)(hs:autoParam (dJ [a] X.env=[(J,eval a X.env)]) au0):MI X tg (.Call (.Name "range" p) [a] [] pos) (t5 m):=
 nP (xP hg hm ha hs) <| by
  rintro σ H R ⟨r,mu,S,am,i,c,hs,hm,hc⟩;obtain⟨⟨ds,k⟩,h,hm⟩:=oB1.mp hm;dsimp only at hm;split at hm
  ·rename_i j;split at hm
   ·rename_i b;cases hm;refine⟨r,mu,S,_,_,c,hs,h,λvs H1 mu1 d e f=>?_⟩;obtain⟨v,rfl,g⟩:=nM e;cases g;exact⟨j,O,b.1,b.2,hc _ H1 mu1 d (tU _ _ _ _ _) f⟩
   ·cases hm
  ·cases hm
theorem xV {a b:Expr}{m:FA}{p pos:Pos}(hg:Gl X "range")(hm:X.mg "range"=Y)(ha:MA X [a,b] m)(hs:autoParam (dJ [a,b] X.env=[(J,eval a X.env),(J,eval b X.env)]) au0)(hs2:autoParam (dJ [b] X.env=[(J,eval b X.env)]) au0):MI X tg (.Call (.Name "range" p) [a,b] [] pos) (HX m):=
 nP (xO hg hm ha hs hs2) <| by
  rintro σ H R ⟨r,mu,S,am,n,c,hs,hm,hc⟩;obtain⟨⟨ds,o⟩,l,hm⟩:=oB1.mp hm;dsimp only at hm;split at hm
  ·rename_i i j;split at hm
   ·rename_i e;cases hm;refine⟨r,mu,S,_,_,c,hs,l,λvs H1 mu1 f g h=>?_⟩;obtain⟨v,u,rfl,k,d⟩:=sY g;cases k;cases d;exact⟨i,j,O,e,hc _ H1 mu1 f (tU _ _ _ _ _) h⟩
   ·cases hm
  ·cases hm
variable{elts:List Expr}{k:Nat}{tpos:Pos}
theorem CK {a:Expr}{m:FA}{p pos:Pos}(hg:Gl X "enumerate")(hm:X.mg "enumerate"=Y)(ha:MA X [a] m)(hs:autoParam (dJ [a] X.env=[(J,eval a X.env)]) au0):MI X (.Tuple elts k tpos) (.Call (.Name "enumerate" p) [a] [] pos) (GO m):=
 nP (Ck hg hm ha hs) <| by
  rintro σ H R ⟨r,mu,S,am,I,w,hs,hm,hc⟩;obtain⟨⟨ds,N⟩,E,hm⟩:=oB1.mp hm;dsimp only at hm;split at hm
  ·rename_i d;obtain⟨⟨b,xs⟩,s,hm⟩:=oB1.mp hm;cases hm;refine⟨r,mu,S,_,_,w,hs,E,λvs H1 mu1 z x g=>?_⟩;obtain⟨v,rfl,l⟩:=nM x;obtain⟨a,vs,rfl,q,t⟩:=ej l g s;refine⟨a,b,O,⟨vs,q⟩,hc _ H1 mu1 z (λi H2 D au C o ok=>?_) g⟩;obtain⟨ws,e,n⟩:=iE l g s C o ok;refine⟨λd c=>?_,λu=>⟨ws,e,by rw[w6]at u;rw[<- n.length];exact u⟩⟩;rw[w8]at c;obtain⟨L,G,c⟩:=oM1.mp c;obtain⟨v,j,f⟩:=n.get G;refine⟨⟨ws,v,e,j⟩,λy ao ⟨p,K,h,B,F,A⟩=>?_⟩;have:=A ws e;rw[j]at this;cases this;subst B;subst F;subst c;rw[bN];exact⟨Ext.fresh h,o.fresh h,.tup (kr.of d9) (.cons (.int _) (.cons (f.ext (Ext.fresh h)) .nil))⟩
  ·cases hm
theorem FB {a b:Expr}{m:FA}{p pos:Pos}(hg:Gl X "zip")(hm:X.mg "zip"=Y)(ha:MA X [a,b] m)(hs:autoParam (dJ [a,b] X.env=[(J,eval a X.env),(J,eval b X.env)]) au0)(hs2:autoParam (dJ [b] X.env=[(J,eval b X.env)]) au0):MI X (.Tuple elts k tpos) (.Call (.Name "zip" p) [a,b] [] pos) (BG m):=
 nP (EX hg hm ha hs hs2) <| by
  rintro σ H R ⟨r,mu,S,am,S',ao,hs,hm,hc⟩;obtain⟨⟨ds,S1⟩,e1,hm⟩:=oB1.mp hm;dsimp only at hm;split at hm
  ·rename_i d e;obtain⟨⟨b1,xs⟩,E,hm⟩:=oB1.mp hm;obtain⟨⟨b2,ys⟩,L,hm⟩:=oB1.mp hm;cases hm;refine⟨r,mu,S,_,_,ao,hs,e1,λvs H1 mu1 Q P f=>?_⟩;obtain⟨v,u,rfl,B,D⟩:=sY P;obtain⟨a1,l,rfl,V,t1⟩:=ej B f E;obtain⟨a2,j,rfl,N,t2⟩:=ej D f L;refine⟨a1,b1,a2,b2,O,⟨l,V⟩,⟨j,N⟩,hc _ H1 mu1 Q (λi H2 wq S2 G n ok=>?_) f⟩;obtain⟨s,q⟩:=wx ok;obtain⟨ws,w,K⟩:=iE B f E G n s;obtain⟨c,o,F⟩:=iE D f L G n q;refine⟨λd T=>?_,λhl=>⟨ws,c,w,o,?_⟩⟩
   ·obtain⟨x',y',ex,aq,rfl⟩:=vO xs ys i d T;obtain⟨v,A,h⟩:=K.get ex;obtain⟨u,x,t⟩:=F.get aq;refine⟨⟨ws,c,v,u,w,o,A,x⟩,λy H3 ⟨p,v',u',g,W,z2,U,au⟩=>?_⟩;have I:=U ws w;have C:=au c o;rw[A]at I;cases I;rw[x]at C;cases C;subst W;subst z2;exact⟨Ext.fresh g,n.fresh g,.tup (kr.of d9) (.cons (h.ext (Ext.fresh g)) (.cons (t.ext (Ext.fresh g)) .nil))⟩
   ·rcases vN xs ys i hl with z|z
    ·exact .inl (by rw[<- K.length];exact z)
    ·exact .inr (by rw[<- F.length];exact z)
  ·cases hm
end
abbrev G1:=D->Sto->Option (D×Sto)
abbrev G2:=D->D->Sto->Option (D×Sto)
abbrev G3:=D->D->D->Sto->Option (D×Sto)
noncomputable def b1 (f:G1):FN:=λds S=>match ds with
 |[a]=>f a S
 |_=>none
noncomputable def b2 (f:G2):FN:=λds S=>match ds with
 |[a,b]=>f a b S
 |_=>none
noncomputable def b3 (f:G3):FN:=λds S=>match ds with
 |[a,b,c]=>f a b c S
 |_=>none
section
variable{K:Fg1}{H:Hp}{Q:VK}
theorem oN{f:G2}{x y:V}(h:rN K (b2 f) [x,y] H Q):∃mu S d e r a,eO K H mu d x/\eO K H mu e y/\Sim K H mu S/\f d e S=Z (r,a)/\po K mu H r a Q:=by
 obtain⟨mu,S,ds,r,a,b,g,i,hc⟩:=h;cases b with
 |cons q t=>cases t with
  |cons c t=>cases t;exact⟨mu,S,_,_,r,a,q,c,g,i,hc⟩
theorem BC{f:G1}{xs:List V}(h:rN K (b1 f) xs H Q):∃x mu S d r a,xs=[x]/\eO K H mu d x/\Sim K H mu S/\f d S=Z (r,a)/\po K mu H r a Q:=by
 obtain⟨mu,S,ds,r,a,c,e,b,hc⟩:=h;cases c with
 |nil=>cases b
 |cons q t=>cases t with
  |nil=>exact⟨_,mu,S,_,r,a,O,q,e,b,hc⟩
  |cons g t=>cases b
theorem zC{f:G2}{xs:List V}(h:rN K (b2 f) xs H Q):∃x y mu S d e r a,xs=[x,y]/\eO K H mu d x/\eO K H mu e y/\Sim K H mu S/\f d e S=Z (r,a)/\po K mu H r a Q:=by
 obtain⟨mu,S,ds,r,a,c,i,b,hc⟩:=h;cases c with
 |nil=>cases b
 |cons q t=>cases t with
  |nil=>cases b
  |cons g t=>cases t with
   |nil=>exact⟨_,_,mu,S,_,_,r,a,O,q,g,i,b,hc⟩
   |cons j t=>cases b
theorem po.now{mu:List dE}{S:Sto}{d:D}{v:V}(c:po K mu H d S Q)(r:eO K H mu d v)(s:Sim K H mu S):Q v H:=c v H mu (.refl _ _) r s
end
noncomputable def eY(i j:Int):Bool:=(decide (-(2^64)<i)&&decide (i<2^64))||(decide (-(2^64)<j)&&decide (j<2^64))||(decide (i.natAbs<2^1000)&&decide (j.natAbs<2^1000))
noncomputable def fA:G2:=λd e S=>match d,e with
 | .int i,.int j=>Z (.int (i+j),S)
 | .tup xs,.tup ys=>if xs.length+ys.length<=dL then Z (.tup (xs++ys),S)else Y
 | .str x,.str y=>if x.length+y.length<=dL then Z (.str (x++y),S)else Y
 | .ref a,.ref b=>match S[a]?,S[b]? with
  |some (.lst xs),Z (.lst ys)=>if xs.length+ys.length<=dL then Z (.ref S.length,S++[.lst (xs++ys)])else Y
  |_,_=>Y
 |_,_=>Y
noncomputable def gSub:G2:=λd e S=>match d,e with
 | .int i,.int j=>Z (.int (i-j),S)
 |_,_=>Y
def jU:G2:=λd e S=>match d,e with
 | .int i,.int j=>if eY i j=M then Z (.int (i*j),S)else Y
 |_,_=>Y
noncomputable def lg:G2:=λd e S=>match d,e with
 | .int i,.int j=>if 0<j then Z (.int (i%j),S)else Y
 |_,_=>Y
noncomputable def pd:G2:=λd e S=>match d,e with
 | .int i,.int j=>if 0<j/\j<1073741824 then Z (.int (i/j),S)else Y
 |_,_=>Y
noncomputable def vr:G2:=λd e S=>match d,e with
 | .int i,.int j=>if 0<=j/\j<=1000000/\i.natAbs<2^64 then Z (.int (i^j.toNat),S)else Y
 |_,_=>Y
theorem vh{i j:Int}(h:eY i j=M):IntMulOk i j:=by
 unfold eY at h;simp only[bO,bA1,al]at h;rcases h with(⟨h1,h2⟩|⟨h1,h2⟩)|⟨h1,h2⟩
 ·exact .of_left (intBits_le_64 h1 h2)
 ·exact .of_right (intBits_le_64 h1 h2)
 ·exact .of_bits (aC (intBits_le h1) (by decide)) (aC (intBits_le h2) (by decide))
theorem m6{f:dB->dB->Sem dB}{g:G2}{c:Int->Int->Prop}{v:Int->Int->D}(hg:∀ d e S r a,g d e S=Z (r,a) -> ∃ i j,d = .int i/\e = .int j/\c i j/\r=v i j/\a=S){b:Int->Int->V}(hv:∀i j K H mu,eO K H mu (v i j) (b i j))(ho:gt X f (rI c b)):gt X f (r2 X.K (b2 g)):=by
 intro ag s σ H x y u w Q I o p h;obtain⟨mu,S,d,e,r,a,l,r2,k,m,hc⟩:=oN h;obtain⟨i,j,rfl,rfl,n,rfl,rfl⟩:=hg d e S r a m;cases l;cases r2;exact ho ag s σ H _ _ u w Q I o p ⟨i,j,O,O,n,hc.now (hv i j _ _ _) k⟩
theorem nT{f:dB->dB->Sem dB}{g:G2}{v:Int->Int->D}(hg:∀ d e S r a,g d e S=Z (r,a) -> ∃ i j,d = .int i/\e = .int j/\r=v i j/\a=S){b:Int->Int->V}(hv:∀i j K H mu,eO K H mu (v i j) (b i j))(ho:gt X f (DO b)):gt X f (r2 X.K (b2 g)):=by
 intro ag s σ H x y u w Q I m n h;obtain⟨mu,S,d,e,r,a,k,r2,c,l,hc⟩:=oN h;obtain⟨i,j,rfl,rfl,rfl,rfl⟩:=hg d e S r a l;cases k;cases r2;exact ho ag s σ H _ _ u w Q I m n ⟨i,j,O,O,hc.now (hv i j _ _ _) c⟩
theorem pL:gt X (binaryOp .Sub) (r2 X.K (b2 gSub)):=nT (v:=λi j=>.int (i-j)) (λd e S r a h=>by
 unfold gSub at h;split at h
 ·cases h;exact⟨_,_,O,O,O,O⟩
 ·cases h) (λ_ _ _ _ _=>.int _) Fb
theorem kY:gt X (binaryOp .Mult) (r2 X.K (b2 jU)):=m6 (c:=λi j=>IntMulOk i j) (v:=λi j=>.int (i*j)) (λd e S r a h=>by
 unfold jU at h;split at h
 ·split at h
  ·rename_i q;cases h;exact⟨_,_,O,O,vh q,O,O⟩
  ·cases h
 ·cases h) (λ_ _ _ _ _=>.int _) (IT λ_ _ _ _ _ _ _ hc q=>mul_int q hc)
theorem mq:gt X (binaryOp .Mod) (r2 X.K (b2 lg)):=m6 (c:=λ_ j=>0<j) (v:=λi j=>.int (i%j)) (λd e S r a h=>by
 unfold lg at h;split at h
 ·split at h
  ·rename_i q;cases h;exact⟨_,_,O,O,q,O,O⟩
  ·cases h
 ·cases h) (λ_ _ _ _ _=>.int _) Fd
theorem wy:gt X (binaryOp .FloorDiv) (r2 X.K (b2 pd)):=m6 (c:=IL) (v:=λi j=>.int (i/j)) (λd e S r a h=>by
 unfold pd at h;split at h
 ·split at h
  ·rename_i q;cases h;exact⟨_,_,O,O,q,O,O⟩
  ·cases h
 ·cases h) (λ_ _ _ _ _=>.int _) Cs
theorem Ac:gt X (binaryOp .Pow) (r2 X.K (b2 vr)):=m6 (c:=IK) (v:=λi j=>.int (i^j.toNat)) (λd e S r a h=>by
 unfold vr at h;split at h
 ·split at h
  ·rename_i q;cases h;exact⟨_,_,O,O,q,O,O⟩
  ·cases h
 ·cases h) (λ_ _ _ _ _=>.int _) Fc
theorem yD{s:dD}{prog:dF}{w:dH}{A:dG}{E:dB->dD->Prop}{t b:dE}{ws:List dB}{Q:dB->dD->Prop}(ht:IsTup s.heap t ([]:List dB).toArray)(hb:IsTup s.heap b ws.toArray)(h:Q (.ref b) s):
  dM (model prog w) A (binaryOp .Add (.ref t) (.ref b)) Q E s:=by
 obtain⟨⟨m,q,k,p⟩,l,hc,n,i⟩:=id ht;obtain⟨⟨j,g,f,e⟩,a,d,o,c⟩:=id hb;simp only at hc i d c;subst hc i d c;exact concat_meets ⟨_,l,O⟩ ⟨_,a,O⟩ noFill_tuple_add seq_tuple_add PySem.F.slot_tuple_add PySem.F.entry_tuple_add (PySem.F.args_tuple_add_2 _ _) (tuple_addW0 t b ([]:List dB).toArray ws.toArray n o q g p e (by simp)) ⟨l,a,h⟩
theorem fm:gt X (binaryOp .Add) (r2 X.K (b2 fA)):=by
 intro ag s σ H x y u w Q I q o h;obtain⟨mu,S,d,e,r,R,v,r2,f,c,hc⟩:=oN h;unfold fA at c;split at c
 ·cases c;cases v;cases r2;exact Fg ag s σ H _ _ u w Q I q o ⟨_,_,O,O,hc.now (.int _) f⟩
 ·rename_i xs ys;split at c
  ·rename_i t;cases c;cases v with
   |tup B m=>
    cases r2 with
    |tup A l=>
     rename_i g a1 k a2;by_cases D:g=[]
     ·subst D;have:xs=[]:=by cases m;rfl
      subst this;cases q;cases o;obtain⟨C,G,ao,_⟩:=I.tuple B;obtain⟨E,F,p2,_⟩:=I.tuple A;have:C=[]:=G.nil_iff.mpr O;subst this;exact yD ao p2 ⟨.ref a2,H,I,O,hc.now (.tup A l) f⟩
     ·refine Ct ag s σ H _ _ u w Q I q o ⟨a1,a2,g,k,O,O,B,A,D,by rw[<- m.length,<- l.length];exact t,λz=>?_,λz p n=>?_⟩
      ·subst z;have:ys=[]:=by cases l;rfl
       subst this;rw[aM]at hc;exact hc.now (.tup B m) f
      ·exact hc _ _ mu (Ext.fresh n) (.tup (kr.of d9) ((m.append l).ext (Ext.fresh n))) (f.fresh n)
  ·cases c
 ·rename_i i j;split at c
  ·rename_i t;cases c;cases v;cases r2;exact vc ag s σ H _ _ u w Q I q o ⟨i,j,O,O,t,hc.now (.str _) f⟩
  ·cases c
 ·rename_i a b;split at c
  ·rename_i xs ys L au;split at c
   ·rename_i t;cases c;cases v with
    |ref am=>
     cases r2 with
     |ref P=>
      obtain⟨g,N,m⟩:=f.lst L am;obtain⟨k,K,l⟩:=f.lst au P;refine Ff ag s σ H _ _ u w Q I q o ⟨_,_,g,k,O,O,N,K,by rw[<- m.length,<- l.length];exact t,λp n=>?_⟩;exact hc _ _ (mu++[p]) (Ext.new_ n) (.ref (gf f.len p)) (f.newL (m.append l) n)
   ·cases c
  ·cases c
 ·cases c
noncomputable def ic(p:Int->Int->Bool):G2:=λd e S=>match d,e with
 | .int i,.int j=>Z (.bl (p i j),S)
 |_,_=>Y
theorem wV{p:Int->Int->Bool}(d e:D)(S:Sto)(r:D)(a:Sto)(h:ic p d e S=Z (r,a)):∃i j,d = .int i/\e = .int j/\r = .bl (p i j)/\a=S:=by
 unfold ic at h;split at h
 ·cases h;exact⟨_,_,O,O,O,O⟩
 ·cases h
theorem Af:gt X (compareOp .Gt) (r2 X.K (b2 (ic λi j=>decide (j<i)))):=nT wV (λ_ _ _ _ _=>.bl _) Hu
theorem Cy:gt X (compareOp .GtE) (r2 X.K (b2 (ic λi j=>decide (j<=i)))):=nT wV (λ_ _ _ _ _=>.bl _) Hv
noncomputable def lh:D->Bool
 | .non=>M
 | .bl _=>M
 | .int _=>M
 | .str _=>M
 |_=>J
noncomputable def I1:D->D->Option Bool
 | .non,.non=>some true
 | .bl a,.bl b=>some (a == b)
 | .bl a,.int b=>some ((if a then 1 else 0) == b)
 | .int a,.bl b=>some (a == (if b then 1 else 0))
 | .int a,.int b=>some (a == b)
 | .str a,.str b=>some (a == b)
 |d,e=>if lh d&&lh e then some false else none
noncomputable def jS(f:D->D->Option Bool):List D->List D->Option Bool
 |x::xs,y::ys=>(f x y).bind λb=>(jS f xs ys).map λc=>b&&c
 |[],[]=>Z M
 |_,_=>Z J
def ga(S:Sto):Nat->D->D->Option Bool
 |0,_,_=>Y
 |n+1,d,e=>match d7 S d,d7 S e with
  |some p,Z q=>if p.1=q.1 then(if p.1=M/\p.2.length≠q.2.length then Z J else jS (ga S n) p.2 q.2)else Z J
  |some _,Y=>if lh e=M then Z J else Y
  |none,Z _=>if lh d=M then Z J else Y
  |none,Y=>I1 d e
section
variable{ag:List (dE×Obj)}{σ:L2.St}{H:Hp}{s:dD}{mu:List dE}{S:Sto}
theorem fN{K:Fg1}{d:D}{v:V}(r:eO K H mu d v)(h:lh d=M):j9 v=M /\ ∀e w,eO K H mu e w->lh e=M->I1 d e=Z (uJ v w):=by
 cases d with
 |non=>cases r;refine⟨O,λe w q f=>?_⟩;cases e with
  |non=>cases q;rfl
  |bl _=>cases q;rfl
  |int _=>cases q;rfl
  |str _=>cases q;rfl
  |_=>cases f
 |bl b=>cases r;refine⟨O,λe w q f=>?_⟩;cases e with
  |non=>cases q;rfl
  |bl _=>cases q;rfl
  |int _=>cases q;rfl
  |str _=>cases q;rfl
  |_=>cases f
 |int i=>cases r;refine⟨O,λe w q f=>?_⟩;cases e with
  |non=>cases q;rfl
  |bl _=>cases q;rfl
  |int _=>cases q;rfl
  |str _=>cases q;rfl
  |_=>cases f
 |str x=>cases r;refine⟨O,λe w q f=>?_⟩;cases e with
  |non=>cases q;rfl
  |bl _=>cases q;rfl
  |int _=>cases q;rfl
  |str _=>cases q;rfl
  |_=>cases f
 |_=>cases h
theorem ow{d e:D}{b:Bool}(h:I1 d e=Z b):lh d=M/\lh e=M:=by
 cases d<;>cases e<;>first|exact⟨rfl,rfl⟩|(cases h;done)|exact nomatch h|(simp[I1,lh]at h)
theorem A7{v:V}(h:j9 v=M):uJ v v=M:=by
 cases v<;>first|rfl|(cases h;done)|exact beq_self_eq_true _|(simp[uJ];done)
theorem uh(I:Inv X ag σ H s)(hs:Sim X.K H mu S):∀(n:Nat) {d e:D} {v:V} {b:Bool},eO X.K H mu d v->eO X.K H mu e v->ga S n d e=Z b->b=M
 |0,_,_,_,_,_,_,h=>by cases h
 |n + 1,d,e,v,b,A,l,h=>by
  rw[ga]at h;have g:∀{xs ys:List D} {vs:List V} {b:Bool},d5 X.K H mu xs vs->d5 X.K H mu ys vs->jS (ga S n) xs ys=Z b->b=M:=by
   intro xs
   induction xs with
   |nil=>intro ys vs b y z h;cases y;cases z;cases h;rfl
   |cons x xs ih=>
    intro ys vs b y z h;cases y with
    |cons r t=>
     cases z with
     |cons P R=>
      rw[jS]at h;obtain⟨b1,k,h⟩:=oB1.mp h;obtain⟨b2,c,h⟩:=oM1.mp h;subst h;rw[uh I hs n r P k,ih t R c];rfl
  cases hd:d7 S d with
  |some p=>
   obtain⟨C,xs⟩:=p;obtain⟨a,vs,rfl,q,t⟩:=ej A hs hd;cases he:d7 S e with
   |some p2=>
    obtain⟨qb,ys⟩:=p2;obtain⟨a2,u,c,m,w⟩:=ej l hs he;cases c;rw[hd,he]at h;dsimp only at h;obtain⟨Q,U,E,_⟩:=e0 I q;obtain⟨F,L,j,_⟩:=e0 I m;have N:C=qb:=by
     cases C<;>cases qb
     ·rfl
     ·obtain⟨o,k,B,_⟩:=E;obtain⟨ao,c,i,_⟩:=j;rw[k]at c;cases c;rw[B]at i;exact absurd i (by decide)
     ·obtain⟨o,k,B,_⟩:=E;obtain⟨ao,c,i,_⟩:=j;rw[k]at c;cases c;rw[B]at i;exact absurd i (by decide)
     ·rfl
    subst N;have T:=mZ I q m;subst T;rw[ak O,aj (by rw[t.length,w.length];simp)]at h;exact g t w h
   |none=>
    rw[hd,he]at h;dsimp only at h;split at h
    ·rename_i f;have:=(fN l f).1;cases this
    ·cases h
  |none=>
   cases he:d7 S e with
   |some p2=>
    obtain⟨qb,ys⟩:=p2;obtain⟨a2,u,c,m,w⟩:=ej l hs he;subst c;rw[hd,he]at h;dsimp only at h;split at h
    ·rename_i f;have:=(fN A f).1;cases this
    ·cases h
   |none=>
    rw[hd,he]at h;dsimp only at h;obtain⟨am,G⟩:=ow h;obtain⟨K,au⟩:=fN A am;rw[au e v l G]at h;cases h;exact A7 K
theorem fv{A:dG}{b:Bool}{a:dE}{its:Array dB}{v:V}{u:dB}(c:SCo b s.heap a its)(r:d8 v u)(f:j9 v=true)(d:A.units<cLine):
   SeqAt.EqAt A s (.ref a) u J/\SeqAt.EqAt A s u (.ref a) J/\SeqAt.RcAt A s (.ref a) u J/\SeqAt.RcAt A s u (.ref a) J:=by
 cases v with
 | non => cases r;cases b
          · exact⟨.tuple_none c d,.none_tuple c d,.tuple_none c d,.none_tuple c d⟩
          · exact⟨.list_none c d,.none_list c d,.list_none c d,.none_list c d⟩
 | bl k => cases r;cases b
           · exact⟨.tuple_bool k c d,.bool_tuple k c d,.tuple_bool k c d,.bool_tuple k c d⟩
           · exact⟨.list_bool k c d,.bool_list k c d,.list_bool k c d,.bool_list k c d⟩
 | int i => obtain ⟨t,rfl⟩:=r;cases b
            · exact⟨.tuple_int i t c d,.int_tuple i t c d,.tuple_int i t c d,.int_tuple i t c d⟩
            · exact⟨.list_int i t c d,.int_list i t c d,.list_int i t c d,.int_list i t c d⟩
 | str x => obtain ⟨t,rfl⟩:=r;cases b
            · exact⟨.tuple_str x t c d,.str_tuple x t c d,.tuple_str x t c d,.str_tuple x t c d⟩
            · exact⟨.list_str x t c d,.str_list x t c d,.list_str x t c d,.str_list x t c d⟩
 |_=>cases f
theorem B5{A:dG}{x y:V}{u w:dB}(g:d8 x u)(a:d8 y w)(h:j9 x=M)(e:j9 y=M):SeqAt.RcAt A s u w (uJ x y):=by
 cases x with
 |non=>cases g;cases y with
  |non=>cases a;exact .none_none
  |bl k=>cases a;exact .none_bool k
  |int i=>obtain⟨t,rfl⟩:=a;exact .none_int i t
  |str z=>obtain⟨t,rfl⟩:=a;exact .none_str z t
  |_=>cases e
 |bl f=>cases g;cases y with
  |non=>cases a;exact .bool_none f
  |bl k=>cases a;exact .bool_bool f k
  |int i=>obtain⟨t,rfl⟩:=a;exact .bool_int f i t
  |str z=>obtain⟨t,rfl⟩:=a;exact .bool_str f z t
  |_=>cases e
 |int d=>obtain⟨b,rfl⟩:=g;cases y with
  |non=>cases a;exact .int_none d b
  |bl k=>cases a;exact .int_bool d b k
  |int i=>obtain⟨t,rfl⟩:=a;exact .int_int d b i t
  |str z=>obtain⟨t,rfl⟩:=a;exact .int_str d b z t
  |_=>cases e
 |str c=>obtain⟨b,rfl⟩:=g;cases y with
  |non=>cases a;exact .str_none c b
  |bl k=>cases a;exact .str_bool c b k
  |int i=>obtain⟨t,rfl⟩:=a;exact .str_int c b i t
  |str z=>obtain⟨t,rfl⟩:=a;exact .str_str c b z t
  |_=>cases e
 |_=>cases h
theorem vx(f:D->D->Option Bool):∀{xs ys:List D} {b:Bool},jS f xs ys=Z b -> ∃e:Nat->Bool,(∀j x y,xs[j]?=Z x->ys[j]?=Z y->f x y=Z (e j))/\b=((af (min xs.length ys.length)).all e&&xs.length == ys.length)
 |[],[],b,h=>by cases h;exact⟨λ_=>M,λj x y h=>by simp at h,O⟩
 |[],y::ys,b,h=>by cases h;exact⟨λ_=>M,λj x y h=>by simp at h,by simp⟩
 |x::xs,[],b,h=>by cases h;exact⟨λ_=>M,λj x y h h'=>by simp at h',by simp⟩
 |x::xs,y::ys,b,h=>by
  rw[jS]at h;obtain⟨b1,m,h⟩:=oB1.mp h;obtain⟨b2,i,h⟩:=oM1.mp h;obtain⟨e,g,k⟩:=vx f i;refine⟨λj=>match j with|0=>b1|j+1=>e j,λj l d a c=>?_,?_⟩
  ·cases j with
   |zero=>simp at a c;subst a;subst c;exact m
   |succ j=>exact g j l d (by simpa using a) (by simpa using c)
  ·rw[<- h,k,lC1,lC1,Nat.succ_min_succ,List.range_succ_eq_map,bP,List.all_map];have:((xs.length+1 == ys.length+1):Bool)=(xs.length == ys.length):=by simp
   rw[this,Bool.and_assoc];rfl
theorem lY(I:Inv X ag σ H s)(hs:Sim X.K H mu S):∀(n:Nat) {A:dG} {d e:D} {v w:V} {u z:dB} {b:Bool},A.units+n<cLine->eO X.K H mu d v->eO X.K H mu e w->d8 v u->d8 w z->ga S n d e=Z b->SeqAt.EqAt A s u z b/\SeqAt.RcAt A s u z b
 |0,_,_,_,_,_,_,_,_,_,_,_,_,_,h=>by cases h
 |n + 1,A,d,e,v,w,u,z,b,hu,R,r,Q,ao,h=>by
  have i:A.units<cLine:=by lia
  have h0:=h;rw[ga]at h;cases hd:d7 S d with
  |some p=>
   obtain⟨U,xs⟩:=p;obtain⟨a,vs,rfl,q,t⟩:=ej R hs hd;obtain⟨k,N,o,_⟩:=e0 I q;cases Q;cases he:d7 S e with
   |some p2=>
    obtain⟨qb,ys⟩:=p2;obtain⟨a2,B,rfl,T,au⟩:=ej r hs he;obtain⟨c,m,g,_⟩:=e0 I T;cases ao;rw[hd,he]at h;dsimp only at h;have l:SeqAt.RcAt A s (.ref a) (.ref a2) b->SeqAt.EqAt A s (.ref a) (.ref a2) b/\SeqAt.RcAt A s (.ref a) (.ref a2) b:=λrc=>by
     refine⟨?_,rc⟩;by_cases ha:a=a2
     ·subst ha;rw[uh I hs (n+1) R r h0];exact .same _
     ·exact .of_refs ha rc
    split at h
    ·rename_i P;have aq:U=qb:=P;subst aq;split at h
     ·rename_i wq;cases h;obtain⟨h1,h2⟩:=wq;subst h1;refine l (.lists_lengths o g ?_ i);have l1:=t.length;have l2:=au.length;have l3:=N.length;have l4:=m.length
      simp only[sT1,bne_iff_ne,ne_eq];lia
     ·rename_i wq;obtain ⟨f,hf,K⟩:=vx _ h;have elts:∀ j (h1:j<k.toArray.size) (h2:j<c.toArray.size),SeqAt.EqAt A.in1 s k.toArray[j] c.toArray[j] (f j):=fun j h1 h2=>by
       have C:j<k.length:=by simpa using h1
       have E:j<c.length:=by simpa using h2
       have k1:j<vs.length:=by rw[N.length];exact C
       have k2:j<B.length:=by rw[m.length];exact E
       obtain⟨x,ex,rx⟩:=t.getV (gG1 k1);obtain⟨y,ey,ry⟩:=au.getV (gG1 k2);obtain⟨u1,F,ru1⟩:=N.get (gG1 k1);obtain⟨u2,G,ru2⟩:=m.get (gG1 k2);have L:k.toArray[j]=u1:=by
        rw[gG1 C]at F;simpa using F
       have W:c.toArray[j]=u2:=by
        rw[gG1 E]at G;simpa using G
       rw[L,W];exact(lY I hs n (A:=A.in1) (by show A.units+1+n<cLine;lia) rx ry ru1 ru2 (hf j x y ex ey)).1
      have l1:=t.length;have l2:=au.length;have l3:=N.length;have l4:=m.length
      cases U with
      |false=>
       refine l ?_;have:=SeqAt.RcAt.tuples o g i elts;rw[K];have L:k.toArray.size=xs.length:=by simp;lia
       have W:c.toArray.size=ys.length:=by simp;lia
       rw[L,W]at this;exact this
      |true=>
       refine l ?_;have am:xs.length=ys.length:=by
        by_cases z:xs.length=ys.length
        ·exact z
        ·exact absurd ⟨O,z⟩ wq
       have:=SeqAt.RcAt.lists o g (by simp;lia) i elts;rw[K];have L:k.toArray.size=xs.length:=by simp;lia
       rw[L]at this;rw[am,Nat.min_self,beq_self_eq_true,bM,<- am];exact this
    ·rename_i P;cases h;cases U with
     |true=>
      cases qb with
      |true=>exact absurd O P
      |false=>exact⟨.list_tuple o g i,.list_tuple o g i⟩
     |false=>
      cases qb with
      |false=>exact absurd O P
      |true=>exact⟨.tuple_list o g i,.tuple_list o g i⟩
   |none=>
    rw[hd,he]at h;dsimp only at h;split at h
    ·rename_i f;cases h;obtain⟨r1,r2,r3,r4⟩:=fv o ao (fN r f).1 i;exact⟨r1,r3⟩
    ·cases h
  |none=>
   cases he:d7 S e with
   |some p2=>
    obtain⟨qb,ys⟩:=p2;obtain⟨a2,B,rfl,T,au⟩:=ej r hs he;obtain⟨c,m,g,_⟩:=e0 I T;cases ao;rw[hd,he]at h;dsimp only at h;split at h
    ·rename_i f;cases h;obtain⟨r1,r2,r3,r4⟩:=fv g Q (fN R f).1 i;exact⟨r2,r4⟩
    ·cases h
   |none=>
    rw[hd,he]at h;dsimp only at h;obtain⟨f1,f2⟩:=ow h;obtain⟨g1,g2⟩:=fN R f1;have g3:=(fN r f2).1;rw[g2 e w r f2]at h;cases h;exact⟨km Q ao g1 g3,B5 Q ao g1 g3⟩
end
noncomputable def eM:Nat:=60
def m9:G2:=λd e S=>(ga S eM d e).map λb=>(.bl b,S)
theorem jo(l:X.A.units+64<cLine):gt X (compareOp .Eq) (r2 X.K (b2 m9)):=by
 intro ag s σ H x y u w Q I g i h;obtain⟨mu,S,d,e,r,k,f,r2,c,a,hc⟩:=oN h;obtain⟨b,j,a⟩:=oM1.mp a;cases a;exact(lY I c eM (by show _+60<cLine;lia) f r2 g i j).2 X.prog X.w X.xe _ ⟨.bl b,H,I,O,hc.now (.bl b) c⟩
section
variable{ag:List (dE×Obj)}{σ:L2.St}{H:Hp}{s:dD}{mu:List dE}{S:Sto}
theorem Cz{A:dG}{x y:V}{u w:dB}(g:d8 x u)(a:d8 y w)(h:j9 x=M)(e:j9 y=M):SeqAt.RcNeAt A s u w (!uJ x y):=by
 cases x with
 |non=>cases g;cases y with
  |non=>cases a;exact .none_none
  |bl k=>cases a;exact .none_bool k
  |int i=>obtain⟨t,rfl⟩:=a;exact .none_int i t
  |str z=>obtain⟨t,rfl⟩:=a;exact .none_str z t
  |_=>cases e
 |bl f=>cases g;cases y with
  |non=>cases a;exact .bool_none f
  |bl k=>cases a;exact .bool_bool f k
  |int i=>obtain⟨t,rfl⟩:=a;exact .bool_int f i t
  |str z=>obtain⟨t,rfl⟩:=a;exact .bool_str f z t
  |_=>cases e
 |int d=>obtain⟨b,rfl⟩:=g;cases y with
  |non=>cases a;exact .int_none d b
  |bl k=>cases a;exact .int_bool d b k
  |int i=>obtain⟨t,rfl⟩:=a;exact .int_int d b i t
  |str z=>obtain⟨t,rfl⟩:=a;exact .int_str d b z t
  |_=>cases e
 |str c=>obtain⟨b,rfl⟩:=g;cases y with
  |non=>cases a;exact .str_none c b
  |bl k=>cases a;exact .str_bool c b k
  |int i=>obtain⟨t,rfl⟩:=a;exact .str_int c b i t
  |str z=>obtain⟨t,rfl⟩:=a;exact .str_str c b z t
  |_=>cases e
 |_=>cases h
theorem my{A:dG}{b:Bool}{a:dE}{its:Array dB}{v:V}{u:dB}(c:SCo b s.heap a its)(r:d8 v u)(f:j9 v=M)(d:A.units<cLine):SeqAt.RcNeAt A s (.ref a) u M/\SeqAt.RcNeAt A s u (.ref a) M:=by
 cases v with
 | non => cases r;cases b
          · exact⟨.tuple_none c d,.none_tuple c d⟩
          · exact⟨.list_none c d,.none_list c d⟩
 | bl k => cases r;cases b
           · exact⟨.tuple_bool k c d,.bool_tuple k c d⟩
           · exact⟨.list_bool k c d,.bool_list k c d⟩
 | int i => obtain ⟨t,rfl⟩:=r;cases b
            · exact⟨.tuple_int i t c d,.int_tuple i t c d⟩
            · exact⟨.list_int i t c d,.int_list i t c d⟩
 | str x => obtain ⟨t,rfl⟩:=r;cases b
            · exact⟨.tuple_str x t c d,.str_tuple x t c d⟩
            · exact⟨.list_str x t c d,.str_list x t c d⟩
 |_=>cases f
theorem Fn(I:Inv X ag σ H s)(hs:Sim X.K H mu S)(n:Nat){A:dG}{d e:D}{v w:V}{u z:dB}{b:Bool}(hu:A.units+n<cLine)(W:eO X.K H mu d v)(o:eO X.K H mu e w)(R:d8 v u)(ao:d8 w z)(h:ga S n d e=Z b):SeqAt.RcNeAt A s u z (!b):=by
 cases n with
 |zero=>cases h
 |succ n=>
  have i:A.units<cLine:=by lia
  rw[ga]at h;cases hd:d7 S d with
  |some p=>
   obtain⟨P,xs⟩:=p;obtain⟨a,vs,rfl,q,t⟩:=ej W hs hd;obtain⟨k,au,m,_⟩:=e0 I q;cases R;cases he:d7 S e with
   |some p2=>
    obtain⟨qb,ys⟩:=p2;obtain⟨a2,r,rfl,N,Q⟩:=ej o hs he;obtain⟨c,l,g,_⟩:=e0 I N;cases ao;rw[hd,he]at h;dsimp only at h;have l1:=t.length;have l2:=Q.length;have l3:=au.length;have l4:=l.length
    split at h
    ·rename_i L;have U:P=qb:=L;subst U;split at h
     ·rename_i aq;cases h;obtain⟨h1,h2⟩:=aq;subst h1;refine .lists_lengths m g ?_ i;simp only[sT1,bne_iff_ne,ne_eq];lia
     ·rename_i aq;obtain ⟨f,hf,am⟩:=vx _ h;have elts:∀ j (h1:j<k.toArray.size) (h2:j<c.toArray.size),SeqAt.EqAt A.in1 s k.toArray[j] c.toArray[j] (f j):=fun j h1 h2=>by
       have B:j<k.length:=by simpa using h1
       have C:j<c.length:=by simpa using h2
       have k1:j<vs.length:=by rw[au.length];exact B
       have k2:j<r.length:=by rw[l.length];exact C
       obtain⟨x,ex,rx⟩:=t.getV (gG1 k1);obtain⟨y,ey,ry⟩:=Q.getV (gG1 k2);obtain⟨u1,E,wq⟩:=au.get (gG1 k1);obtain⟨u2,F,ru2⟩:=l.get (gG1 k2);have K:k.toArray[j]=u1:=by
        rw[gG1 B]at E;simpa using E
       have T:c.toArray[j]=u2:=by
        rw[gG1 C]at F;simpa using F
       rw[K,T];exact(lY I hs n (A:=A.in1) (by show A.units+1+n<cLine;lia) rx ry wq ru2 (hf j x y ex ey)).1
      cases P with
      |false=>
       have:=SeqAt.RcNeAt.tuples m g i elts;rw[am];have K:k.toArray.size=xs.length:=by simp;lia
       have T:c.toArray.size=ys.length:=by simp;lia
       rw[K,T]at this;exact this
      |true=>
       have G:xs.length=ys.length:=by
        by_cases z:xs.length=ys.length
        ·exact z
        ·exact absurd ⟨O,z⟩ aq
       have:=SeqAt.RcNeAt.lists m g (by simp;lia) i elts;rw[am];have K:k.toArray.size=xs.length:=by simp;lia
       rw[K]at this;rw[G,Nat.min_self,beq_self_eq_true,bM,<- G];exact this
    ·rename_i L;cases h;cases P with
     |true=>
      cases qb with
      |true=>exact absurd O L
      |false=>exact .list_tuple m g i
     |false=>
      cases qb with
      |false=>exact absurd O L
      |true=>exact .tuple_list m g i
   |none=>
    rw[hd,he]at h;dsimp only at h;split at h
    ·rename_i f;cases h;exact(my m ao (fN o f).1 i).1
    ·cases h
  |none=>
   cases he:d7 S e with
   |some p2=>
    obtain⟨qb,ys⟩:=p2;obtain⟨a2,r,rfl,N,Q⟩:=ej o hs he;obtain⟨c,l,g,_⟩:=e0 I N;cases ao;rw[hd,he]at h;dsimp only at h;split at h
    ·rename_i f;cases h;exact(my g R (fN W f).1 i).2
    ·cases h
   |none=>
    rw[hd,he]at h;dsimp only at h;obtain⟨f1,f2⟩:=ow h;obtain⟨g1,g2⟩:=fN W f1;have g3:=(fN o f2).1;rw[g2 e w o f2]at h;cases h;exact Cz R ao g1 g3
end
def I0:G2:=λd e S=>(ga S eM d e).map λb=>(.bl (!b),S)
noncomputable def yS(f:D->D->Option Bool)(x:D):List D->Option Bool
 |[]=>Z J
 |y::ys=>(f y x).bind λb=>(yS f x ys).map λc=>b||c
def Gd:G2:=λd e S=>(d7 S e).bind λp=>(yS (ga S eM) d p.2).map λb=>(.bl b,S)
def lV:G2:=λd e S=>(d7 S e).bind λp=>(yS (ga S eM) d p.2).map λb=>(.bl (!b),S)
noncomputable def pX:D->Bool
 | .non=>M
 |_=>J
def JX:G2:=λd e S=>match e with
 | .non=>Z (.bl (pX d),S)
 |_=>Y
def De:G2:=λd e S=>match e with
 | .non=>Z (.bl (!pX d),S)
 |_=>Y
section
theorem JJ(l:X.A.units+64<cLine):gt X (compareOp .NotEq) (r2 X.K (b2 I0)):=by
 intro ag s σ H x y u w Q I g i h;obtain⟨mu,S,d,e,r,k,f,r2,c,a,hc⟩:=oN h;obtain⟨b,j,a⟩:=oM1.mp a;cases a;exact Fn I c eM (by show _+60<cLine;lia) f r2 g i j X.prog X.w X.xe _ ⟨.bl (!b),H,I,O,hc.now (.bl _) c⟩
theorem AS(f:D->D->Option Bool)(x:D):∀{ys:List D} {b:Bool},yS f x ys=Z b -> ∃bs:List Bool,bs.length=ys.length/\(∀(j:Nat) (y:D) (k:Bool),ys[j]?=Z y->bs[j]?=Z k->f y x=Z k)/\b=bs.any id
 |[],b,h=>by cases h;exact⟨[],O,λj y k h=>by simp at h,O⟩
 |y::ys,b,h=>by
  rw[yS]at h;obtain⟨b1,m,h⟩:=oB1.mp h;obtain⟨b2,g,h⟩:=oM1.mp h;obtain⟨bs,l,i,a⟩:=AS f x g;refine⟨b1::bs,by simp[l],λj e k c d=>?_,?_⟩
  ·cases j with
   |zero=>simp at c d;subst c;subst d;exact m
   |succ j=>exact i j e k (by simpa using c) (by simpa using d)
  ·rw[<- h,a];simp
open Classical in
theorem DT{ag:List (dE×Obj)}{σ:L2.St}{H:Hp}{s:dD}{mu:List dE}{S:Sto}(I:Inv X ag σ H s)(hs:Sim X.K H mu S){A:dG}(G:A.units+61<cLine){x:D}{v:V}{u:dB}(C:eO X.K H mu x v)(E:d8 v u){ys:List D}{vs:List V}{a:List dB}{b:Bool}(o:d5 X.K H mu ys vs)(n:eE vs a)(h:yS (ga S eM) x ys=Z b):∃e:dB->Bool,(∀w∈a,SeqAt.EqAt A.in1 s w u (e w))/\a.any e=b:=by
 obtain⟨bs,ao,B,rfl⟩:=AS _ x h;have L:=o.length;have am:=n.length;have at_:∀(j:Nat) w k,a[j]?=Z w->bs[j]?=Z k->SeqAt.EqAt A.in1 s w u k:=λj w k g d=>by
  have m:j<a.length:=(gE1.mp g).1;obtain⟨y,F,t⟩:=o.getV (i:=j) (v:=vs[j]'(by lia)) (gG1 (by lia));obtain⟨K,p,r2⟩:=n.get (i:=j) (x:=vs[j]'(by lia)) (gG1 (by lia));rw[g]at p;cases p;exact(lY I hs eM (A:=A.in1) (by show A.units+1+60<cLine;lia) t C r2 E (B j y k F d)).1
 refine⟨λw=>decide (∃j:Nat,a[j]?=Z w/\bs[j]?=Z M),λw g=>?_,?_⟩
 ·by_cases z:∃j:Nat,a[j]?=Z w/\bs[j]?=Z M
  ·dsimp only;rw[ah z];obtain⟨j,q,c⟩:=z;exact at_ j w M q c
  ·dsimp only;rw[ai z];obtain⟨j,f⟩:=bo g;have m:j<a.length:=(gE1.mp f).1;have l:j<bs.length:=by lia
   have c:=gG1 l;cases d:bs[j]with
   |true=>rw[d]at c;exact absurd ⟨j,f,c⟩ z
   |false=>rw[d]at c;exact at_ j w J f c
 ·rw[bQ,bR,bR];constructor
  ·rintro⟨w,g,z⟩;obtain⟨j,q,c⟩:=of_decide_eq_true z;exact⟨M,gM1 c,O⟩
  ·rintro⟨k,d,z⟩;obtain⟨j,f⟩:=bo d;have m:j<bs.length:=(gE1.mp f).1;have l:j<a.length:=by lia
   have r:k=M:=z;subst r;exact⟨a[j],bS l,ah ⟨j,gG1 l,f⟩⟩
theorem JK(F:X.A.units+64<cLine):gt X (compareOp .In) (r2 X.K (b2 Gd)):=by
 intro ag s σ H x y u w Q I B v h;obtain⟨mu,S,d,e,r,E,p,r2,j,g,hc⟩:=oN h;obtain⟨⟨C,ys⟩,D,g⟩:=oB1.mp g;obtain⟨b,o,g⟩:=oM1.mp g;cases g;obtain⟨a,vs,rfl,q,t⟩:=ej r2 j D;cases v;obtain⟨c,z,l,_⟩:=e0 I q;obtain⟨f,m,n⟩:=DT I j (A:=X.A) (by lia) p B t z o;have i:EP X ag σ Q (.bool (c.toArray.any f)) s:=⟨.bl b,H,I,by rw[show c.toArray.any f=c.any f by simp,n];rfl,hc.now (.bl b) j⟩;cases C
 ·exact SeqAt.in_tupleAt f l (λy k=>m y (by simpa using k)) i
 ·exact SeqAt.in_listAt f l (λy k=>m y (by simpa using k)) i
theorem Cw(F:X.A.units+64<cLine):gt X (compareOp .NotIn) (r2 X.K (b2 lV)):=by
 intro ag s σ H x y u w Q I B v h;obtain⟨mu,S,d,e,r,E,p,r2,j,g,hc⟩:=oN h;obtain⟨⟨C,ys⟩,D,g⟩:=oB1.mp g;obtain⟨b,o,g⟩:=oM1.mp g;cases g;obtain⟨a,vs,rfl,q,t⟩:=ej r2 j D;cases v;obtain⟨c,z,l,_⟩:=e0 I q;obtain⟨f,m,n⟩:=DT I j (A:=X.A) (by lia) p B t z o;have i:EP X ag σ Q (.bool (!c.toArray.any f)) s:=⟨.bl (!b),H,I,by rw[show c.toArray.any f=c.any f by simp,n];rfl,hc.now (.bl _) j⟩;cases C
 ·exact SeqAt.notIn_tupleAt f l (λy k=>m y (by simpa using k)) i
 ·exact SeqAt.notIn_listAt f l (λy k=>m y (by simpa using k)) i
theorem wA{K:Fg1}{H:Hp}{mu:List dE}{d:D}{v:V}(r:eO K H mu d v):pX d=decide (v = .non):=by
 cases r<;>simp[pX]
theorem Hy:gt X (compareOp .Is) (r2 X.K (b2 JX)):=by
 intro ag s σ H x y u w Q I f g h;obtain⟨mu,S,d,e,r,i,c,r2,b,a,hc⟩:=oN h;cases e with
 |non=>
  cases a;cases r2;refine Fe ag s σ H _ _ u w Q I f g ⟨O,?_⟩;rw[<- wA c];exact hc.now (.bl _) b
 |_=>cases a
theorem Fk:gt X (compareOp .IsNot) (r2 X.K (b2 De)):=by
 intro ag s σ H x y u w Q I f g h;obtain⟨mu,S,d,e,r,i,c,r2,b,a,hc⟩:=oN h;cases e with
 |non=>
  cases a;cases r2;refine Cr ag s σ H _ _ u w Q I f g ⟨O,?_⟩;rw[<- wA c];exact hc.now (.bl _) b
 |_=>cases a
end
def eU:G1:=λd S=>match d with
 | .str x=>if x.length<=dL then Z (.int x.length,S)else Y
 |_=>(d7 S d).map λp=>(.int p.2.length,S)
def BH:G2:=λd e S=>match e with
 | .int i=>(d7 S d).bind λp=>(vF p.2 i).map λx=>(x,S)
 |_=>Y
def gTup:G1:=λd S=>(d7 S d).map λp=>(.tup p.2,S)
def kk:G3:=λo i v S=>match o,i with
 | .ref n,.int k=>match S[n]? with
  |some (.lst xs)=>(x4 xs.length k).map λj=>(.non,S.set n (.lst (xs.set j v)))
  |_=>Y
 |_,_=>Y
noncomputable def Bq:List D->Option Bool
 |[]=>Z M
 | .bl b::r=>(Bq r).map λc=>b&&c
 |_=>Y
def Ge:G1:=λd S=>(d7 S d).bind λp=>(Bq p.2).map λb=>(.bl b,S)
noncomputable def oj:G1:=λd S=>match d with
 | .int i=>Z (.int i,S)
 | .bl b=>Z (.int (if b then 1 else 0),S)
 |_=>Y
noncomputable def vt:G2:=λd e S=>match d,e with
 | .int i,.int j=>Z (.int (if j>i then j else i),S)
 |_,_=>Y
noncomputable def oh:G2:=λd e S=>match d,e with
 | .int i,.int j=>Z (.int (if j<i then j else i),S)
 |_,_=>Y
theorem fq:fj X (.builtin "len") (rN X.K (b1 eU)):=by
 intro ag s σ H xs g Q I r h;obtain⟨x,mu,S,d,l,k,rfl,f,e,c,hc⟩:=BC h;unfold eU at c;split at c
 ·split at c
  ·rename_i z i;cases c;cases f;exact sm ag s σ H _ g Q I r ⟨_,O,i,hc.now (.int _) e⟩
  ·cases c
 ·obtain⟨⟨b,ys⟩,j,c⟩:=oM1.mp c;cases c;obtain⟨a,vs,rfl,q,t⟩:=ej f e j;refine sn ag s σ H _ g Q I r ⟨a,vs,O,?_,?_⟩
  ·cases b
   ·exact .inr q
   ·exact .inl q
  ·rw[<- t.length];exact hc.now (.int _) e
theorem Dy{K:Fg1}{H:Hp}{mu:List dE}{ds:List D}{vs:List V}{i:Int}{d:D}(t:d5 K H mu ds vs)(h:vF ds i=Z d):∃v,vF vs i=Z v/\eO K H mu d v:=by
 unfold vF at h ⊢;rw[<- t.length];obtain⟨j,c,h⟩:=oB1.mp h;obtain⟨v,b,a⟩:=t.get h;exact⟨v,by rw[c];exact b,a⟩
theorem Jg:D7 X (r2 X.K (b2 BH)):=by
 intro value c ag s σ H x y v u Q I n o h g;obtain⟨mu,S,d,e,r,B,w,r2,j,f,hc⟩:=oN h;cases e with
 |int i=>
  obtain⟨⟨b,ys⟩,A,f⟩:=oB1.mp f;obtain⟨z,p,f⟩:=oM1.mp f;cases f;cases r2;obtain⟨a,vs,rfl,q,t⟩:=ej w j A;obtain⟨k,l,m⟩:=Dy t p;cases b
  ·exact Gb value c ag s σ H _ _ v u Q I n o ⟨a,vs,i,k,O,O,q,l,hc.now m j⟩ g
  ·exact C2 value c ag s σ H _ _ v u Q I n o ⟨a,vs,i,k,O,O,q,l,hc.now m j⟩ g
 |_=>cases f
theorem fC:fj X (.type "tuple") (rN X.K (b1 gTup)):=by
 intro ag s σ H xs i Q I r h;obtain⟨x,mu,S,d,m,k,rfl,g,c,e,hc⟩:=BC h;obtain⟨⟨b,ys⟩,j,e⟩:=oM1.mp e;cases e;obtain⟨a,vs,rfl,q,t⟩:=ej g c j;refine pg ag s σ H _ i Q I r ⟨a,vs,O,?_⟩;cases b
 ·exact .inr ⟨q,hc.now (.tup q t) c⟩
 ·exact .inl ⟨q,λl f=>hc _ _ mu (Ext.fresh f) (.tup (kr.of d9) (t.ext (Ext.fresh f))) (c.fresh f)⟩
theorem He:vL X (rU X.K (b3 kk)):=by
 intro ag s σ H o i v p B u Q I x w m h;obtain⟨mu,S,ds,d,E,r,f,a,hc⟩:=h;cases r with
 |cons y A=>cases A with
  |cons g q=>cases q with
   |cons C z=>
    cases z;rename_i F G D;dsimp only[b3]at a;unfold kk at a;split at a
    ·rename_i n k;split at a
     ·rename_i xs e;obtain⟨j,l,a⟩:=oM1.mp a;cases a;cases y with
      |ref b=>
       cases g;obtain⟨vs,c,t⟩:=f.lst e b;refine zu ag s σ H _ _ v p B u Q I x w m ⟨_,vs,k,j,O,O,c,by rw[<- t.length];exact l,?_⟩;exact hc _ mu (Ext.put c trivial (gM1 b)) (f.putL (t.set C j) b c)
     ·cases a
    ·cases a
theorem DB{K:Fg1}{H:Hp}{mu:List dE}:∀{ds:List D} {vs:List V} {a:List dB} {b:Bool},d5 K H mu ds vs->eE vs a->Bq ds=Z b -> ∃bs:List Bool,a=bs.map Value.bool/\b=bs.all id:=by
 intro ds
 induction ds with
 |nil=>intro vs a b r v h;cases r;cases v;cases h;exact⟨[],O,O⟩
 |cons d ds ih=>
  intro vs a b r v h;cases r with
  |cons g t=>
   cases v with
   |cons r i=>
    cases g
    case bl k=>
     obtain⟨c,e,h⟩:=oM1.mp h;obtain⟨bs,j,f⟩:=ih t i e;cases r;exact⟨k::bs,by rw[j];rfl,by rw[<- h,f];rfl⟩
    all_goals cases h
theorem pF(bs:List Bool):(af bs.length).all (λi=>bs.getD i M)=bs.all id:=by
 rw[bQ,bB,bB];constructor
 ·intro h b c;obtain⟨i,hi,rfl⟩:=List.mem_iff_getElem.mp c;have:=h i (aB.mpr hi);simpa[bJ,hi]using this
 ·intro h i hi;have a:=aB.mp hi;have:=h _ (bS a);simpa[bJ,a]using this
theorem uS{s:dD}{b:Bool}{a:dE}{bs:List Bool}(hc:X.A.handled=Y)(g:SCo b s.heap a (bs.map Value.bool).toArray){Q:dB->dD->Prop}(all:∀h' tk,(∀c o,s.heap.get? c=Z o->h'.get? c=Z o)->Q (.bool (bs.all id)) {s with heap:=h',toks:=tk}):dM (model X.prog X.w) X.A (call (.builtin "all") [.ref a]) Q X.xe s:=by
 refine call_all_walk (ji g ?_);have h:a<s.heap.objs.size:=by cases b<;>(obtain⟨o,e,_⟩:=g;exact hL1 e)
 have ne:a≠s.heap.objs.size:=nN1 h;have l:TruthOf X.prog X.w X.A.in1 (λi v=>(bs.map Value.bool).toArray[i]?=Z v) (λi=>bs.getD i M):=λi v s' q p n j=>by
  have f:(bs.map Value.bool)[i]?=Z v:=by simpa using n
  rw[gP1]at f;obtain⟨k,m,rfl⟩:=oM1.mp f;dsimp only at j;rw[bJ,m]at j;exact wpAny_truthy_bool j
 have keep:∀(h':dP),(∀c o,c∉[s.heap.objs.size]->(s.heap.push (f0 b a)).get? c=Z o->h'.get? c=Z o) -> ∀c o,s.heap.get? c=Z o->h'.get? c=Z o:=λh' d c o e=>
  d c o (by simpa using nN1 (hL1 e)) (hP1 _ e)
 have hi:(s.heap.push (f0 b a)).get? s.heap.objs.size=Z (f0 b a):=hS1 _ (by cases b<;>rfl);cases b with
 |true=>
  refine⟨s.heap.objs.size,_,_,_,_,_,_,O,Walks.list (A:=X.A.in1) hc s.heap.objs.size a ne (bs.map Value.bool).toArray,⟨⟨_,hi,O,O⟩,SCo.to (b:=M) g λo e=>hP1 _ e⟩,l,λh' tk d=>?_⟩;have e:(bs.map Value.bool).toArray.size=bs.length:=by simp
  rw[e,pF];exact all h' tk (keep h' d)
 |false=>
  refine⟨s.heap.objs.size,_,_,_,_,_,_,O,Walks.tuple (A:=X.A.in1) hc s.heap.objs.size a ne (bs.map Value.bool).toArray,⟨⟨_,hi,O,O⟩,SCo.to (b:=J) g λo e=>hP1 _ e⟩,l,λh' tk d=>?_⟩;have e:(bs.map Value.bool).toArray.size=bs.length:=by simp
  rw[e,pF];exact all h' tk (keep h' d)
theorem Iu(hc:X.calm=M):fj X (.builtin "all") (rN X.K (b1 Ge)):=by
 intro ag s σ H xs y Q I r h;obtain⟨x,mu,S,d,w,v,rfl,j,f,c,e⟩:=BC h;obtain⟨⟨b,ys⟩,p,c⟩:=oB1.mp c;obtain⟨k,i,c⟩:=oM1.mp c;cases c;obtain⟨a,vs,rfl,q,t⟩:=ej j f p;obtain⟨u,rfl,g⟩:=je r;cases g;obtain⟨n,o,l,_⟩:=e0 I q;obtain⟨bs,rfl,rfl⟩:=DB t o i;exact uS (I.ok.hd hc) l λh' tk m=>⟨.bl _,H,I.kept m,O,e.now (.bl _) f⟩
theorem uz:fj X (.type "int") (rN X.K (b1 oj)):=by
 intro ag s σ H xs f Q I r h;obtain⟨x,mu,S,d,j,g,rfl,e,c,a,hc⟩:=BC h;cases d with
 |int i=>cases a;cases e;exact qj ag s σ H _ f Q I r (.inl ⟨i,O,hc.now (.int _) c⟩)
 |bl b=>cases a;cases e;exact qj ag s σ H _ f Q I r (.inr ⟨b,O,hc.now (.int _) c⟩)
 |_=>cases a
theorem D1(hc:X.calm=M):fj X (.builtin "max") (rN X.K (b2 vt)):=by
 intro ag s σ H xs g Q I r h;obtain⟨x,y,mu,S,d,e,j,i,rfl,f,r2,c,a,b⟩:=zC h;unfold vt at a;split at a
 ·cases a;cases f;cases r2;exact yJ hc ag s σ H _ g Q I r ⟨_,_,O,b.now (.int _) c⟩
 ·cases a
theorem xi(hc:X.calm=M):fj X (.builtin "min") (rN X.K (b2 oh)):=by
 intro ag s σ H xs g Q I r h;obtain⟨x,y,mu,S,d,e,j,i,rfl,f,r2,c,a,b⟩:=zC h;unfold oh at a;split at a
 ·cases a;cases f;cases r2;exact yI hc ag s σ H _ g Q I r ⟨_,_,O,b.now (.int _) c⟩
 ·cases a
open PySem.SeqAt
open PySem.AutoSeq1 (wpAny_loadPart')
open PySem.MeetsSeq PySem.MeetsSeq2 PySem.MeetsSeq3
def Bw(A:dG)(s:dD)(y x:dB)(b:Bool):Prop:=∀(prog:dF) (w:dH) (E:dB->dD->Prop) (Q:dB->dD->Prop),Q (.bool b) s->dM (model prog w) A (richCompare .Lt y x) Q E s
inductive uH (A:dG)(s:dD):List dB->List dB->Bool->Prop
 |nn:uH A s [] [] false
 |nc (y:dB) (ys:List dB):uH A s [] (y::ys) true
 |cn (x:dB) (xs:List dB):uH A s (x::xs) [] false
 |eq {x y:dB} {xs ys:List dB} {k:Bool} (e:EqAt A.in1 s x y true) (t:uH A s xs ys k):uH A s (x::xs) (y::ys) k
 |lt {x y:dB} {xs ys:List dB} {k:Bool} (e:EqAt A.in1 s x y false) (t:Bw A.in1 s x y k):uH A s (x::xs) (y::ys) k
theorem Eg(l b:dE)(items items2:Array dB)(n z:Nat)(dd r:Option dE)(sl m:Array (Option dB))(c:Bool):
  Meets (Builtin.«tuple.__lt__» ⟨[.ref l,.ref b],[]⟩) (fun A R s=>s.heap.get? l=some {cls:=.type "tuple",dict:=dd,data:=.seq items n,slots:=sl}/\s.heap.get? b=some {cls:=.type "tuple",dict:=r,data:=.seq items2 z,slots:=m} /\
    uH A s items.toList items2.toList c/\R (.ok (.ret (.bool c))) s):=
 .of_wp λprog w A R s h=>by
  obtain⟨v,g,d,tk,u⟩:=s;obtain⟨F,C,B,h⟩:=h;have G:=AutoSeq1.sub_tuple_tuple
  wp_walk using wpAny_loadPart' F,wpAny_loadPart' C,wpAny_forIn_list _ (λrest b s'=>b.1=Y/\s'=⟨v,g,d,tk,u⟩ /\ ∃vs ws:List dB,rest=vs.zip ws/\uH A ⟨v,g,d,tk,u⟩ vs ws c/\vs.length+items2.size=ws.length+items.size) _
  case turn=>
   rintro⟨y,x⟩ rest b s' ⟨k,rfl,vs,ws,f,q,a⟩;cases q with
   |nn=>cases f
   |nc _ _=>cases f
   |cn _ _=>cases f
   |eq e t=>
    rw[bT]at f;injection f with j i;injection j with p o;subst p o
    simp only[lC1]at a;refine wB1 (e prog w _ _ ?_)
    wp_walk
    exact⟨O,O,_,_,i,t,by lia⟩
   |lt e t=>
    rw[bT]at f;injection f with j i;injection j with p o;subst p o
    refine wB1 (e prog w _ _ ?_);have E:=t prog w
    wp_walk using E
    exact⟨_,O,by simpa using h⟩
  case fin=>
   rintro⟨b1,b2⟩ s' ⟨k,rfl,vs,ws,f,q,a⟩;simp only at k;subst k;have D:c=decide (items.size<items2.size):=by
    cases q with
    |nn=>simp only[bd]at a;exact(ai (by lia)).symm
    |nc _ _=>simp only[bd,lC1]at a;exact(ah (by lia)).symm
    |cn _ _=>simp only[bd,lC1]at a;exact(ai (by lia)).symm
    |eq _ _=>rw[bT]at f;cases f
    |lt _ _=>rw[bT]at f;cases f
   rw[D]at h
   wp_walk
   exact⟨_,O,by simpa[Builtin.Tuple.tupleCompareSizes]using h⟩
  case h=>exact⟨O,O,items.toList,items2.toList,O,B,by simp;lia⟩
theorem AC(l b:dE)(items items2:Array dB)(n C:Nat)(dd B:Option dE)(sl r:Array (Option dB))(c:Bool)(k:Nat):
  ∀i:Nat,items.size-i=k->i<=items.size->i<=items2.size->Meets (Builtin.«list.__eq__.loop» ⟨[.ref l,.ref b,rawInt i,rawInt 0],[]⟩)
   (λA R s=>s.heap.get? l=Z {cls:=.type "list",dict:=dd,data:=.seq items n,slots:=sl}/\s.heap.get? b=Z {cls:=.type "list",dict:=B,data:=.seq items2 C,slots:=r} /\
    uH A s (items.toList.drop i) (items2.toList.drop i) c/\R (.ok (.ret (.bool c))) s):=by
 induction k with
 |zero=>
  intro i D z x prog w A R s h;obtain⟨H,g,d,tk,F⟩:=s;obtain⟨m,j,a,h⟩:=h
  wp_walk using wpAny_loadPart' m,wpAny_loadPart' j
  have o:items[((i:Nat):Int).toNat]?=Y:=by simp;lia
  have u:items.toList.drop i=[]:=by simp;lia
  rw[u]at a;rw[o]
  wp_walk using wpAny_loadPart' m,wpAny_loadPart' j
  have I:c=decide (items.size<items2.size):=by
   cases h2:items2.toList.drop i with
   |nil=>
    rw[h2]at a;cases a;have:=congrArg List.length h2;simp at this;exact(ai (by lia)).symm
   |cons y ys=>
    rw[h2]at a;cases a;have:=congrArg List.length h2;simp at this;exact(ah (by lia)).symm
  show R (.ok (.ret (.bool (decide (items.size<items2.size))))) _;rw[<- I];exact h
 |succ k ih=>
  intro i D z x prog w A R s h;obtain⟨H,g,d,tk,F⟩:=s;obtain⟨m,j,a,h⟩:=h;have p:i<items.size:=by lia
  have u:items.toList.drop i=items[i]::items.toList.drop (i+1):=by simp[bU,p]
  have o:items[((i:Nat):Int).toNat]?=Z items[i]:=by simp[p]
  have hc:((i:Int)+1)=((i+1:Nat):Int):=by push_cast;rfl
  rw[u]at a;rcases bV i items2.size with f|E
  ·have v:items2.toList.drop i=items2[i]::items2.toList.drop (i+1):=by simp[bU,f]
   have q:items2[((i:Nat):Int).toNat]?=Z items2[i]:=by simp[f]
   rw[v]at a
   wp_walk using wpAny_loadPart' m,wpAny_loadPart' j
   rw[o,q];cases a with
   |eq e t=>
    refine wB1 (e prog w _ _ ?_)
    wp_walk
    rw[hc];exact⟨plainId_quiet plain_eq_loop _,wD1 entry_eq_loop (by rw[Around.under_plainId plain_eq_loop _];exact ih (i+1) (by lia) (by lia) (by lia) prog w A R _ ⟨m,j,t,h⟩)⟩
   |lt e t=>
    refine wB1 (e prog w _ _ ?_);have G:=t prog w
    wp_walk using wpAny_loadPart' m,wpAny_loadPart' j
    rw[o,q]
    wp_walk using G
    simpa using h
  ·have q:items2[((i:Nat):Int).toNat]?=Y:=by simp;lia
   have v:items2.toList.drop i=[]:=by simp;lia
   rw[v]at a;cases a
   wp_walk using wpAny_loadPart' m,wpAny_loadPart' j
   rw[o,q]
   wp_walk using wpAny_loadPart' m,wpAny_loadPart' j
   show R (.ok (.ret (.bool (decide (items.size<items2.size))))) _;rw[ai (by lia)];exact h
theorem FW(l b:dE)(items items2:Array dB)(n i:Nat)(dd e:Option dE)(sl a:Array (Option dB))(c:Bool):
  Meets (Builtin.«list.__lt__» ⟨[.ref l,.ref b],[]⟩) (fun A R s=>s.heap.get? l=some {cls:=.type "list",dict:=dd,data:=.seq items n,slots:=sl}/\s.heap.get? b=some {cls:=.type "list",dict:=e,data:=.seq items2 i,slots:=a} /\
    uH A s items.toList items2.toList c/\R (.ok (.ret (.bool c))) s):=by
 intro prog w A R s h;obtain⟨m,g,d,tk,p⟩:=s;obtain⟨j,f,k,h⟩:=h;have o:=AutoSeq1.sub_list_list
 wp_walk using wpAny_loadPart' j,wpAny_loadPart' f
 exact⟨plainId_quiet plain_eq_loop _,wD1 entry_eq_loop (by rw[Around.under_plainId plain_eq_loop _];exact AC l b items items2 n i dd e sl a c _ 0 O (bh _) (bh _) prog w A R _ ⟨j,f,by simpa using k,h⟩)⟩
theorem ED{A:dG}{s:dD}{k:Bool}{l b:dE}{xs ys:Array dB}{c:Bool}(z:SCo k s.heap l xs)(B:SCo k s.heap b ys)(y:A.units<cLine)(h:uH A s xs.toList ys.toList c):Bw A s (.ref l) (.ref b) c:=λprog w E Q q=>by
 cases k
 ·obtain⟨⟨r,v,p,u⟩,j,hc,n,m⟩:=id z;obtain⟨⟨o,i,g,f⟩,d,e,t,a⟩:=id B;simp only at hc m e a;subst hc m e a;exact richCompare_meets_room (op:=.Lt) ⟨_,j,O⟩ ⟨_,d,O⟩ PySem.F.slot_tuple_lt PySem.F.entry_tuple_lt (PySem.F.args_tuple_lt_2 _ _) (Eg l b xs ys n t v i u f c) ⟨j,d,h,show Value.bool c≠Value.notImplemented/\Q (.bool c) s from⟨(λx=>nomatch x),q⟩⟩ y
 ·obtain⟨⟨r,v,p,u⟩,j,hc,n,m⟩:=id z;obtain⟨⟨o,i,g,f⟩,d,e,t,a⟩:=id B;simp only at hc m e a;subst hc m e a;exact richCompare_meets_room (op:=.Lt) ⟨_,j,O⟩ ⟨_,d,O⟩ PySem.F.slot_list_lt PySem.F.entry_list_lt (PySem.F.args_list_lt_2 _ _) (FW l b xs ys n t v i u f c) ⟨j,d,h,show Value.bool c≠Value.notImplemented/\Q (.bool c) s from⟨(λx=>nomatch x),q⟩⟩ y
noncomputable def oY(f g:D->D->Option Bool):List D->List D->Option Bool
 |[],[]=>Z J
 |[],_::_=>Z M
 |_::_,[]=>Z J
 |x::xs,y::ys=>(f x y).bind λb=>if b=M then oY f g xs ys else g x y
noncomputable def IW:D->D->Option Bool
 | .int i,.int j=>Z (decide (i<j))
 | .str x,.str y=>Z (decide (x.cps.toList<y.cps.toList))
 |_,_=>Y
def ku(S:Sto):Nat->D->D->Option Bool
 |0,_,_=>Y
 |n+1,d,e=>match IW d e with
  |some b=>Z b
  |none=>match d7 S d,d7 S e with
   |some p,Z q=>if p.1=q.1 then oY (ga S n) (ku S n) p.2 q.2 else Y
   |_,_=>Y
def yT:G2:=λd e S=>(ku S eM d e).map λb=>(.bl b,S)
section
variable{ag:List (dE×Obj)}{σ:L2.St}{H:Hp}{s:dD}{mu:List dE}{S:Sto}
theorem AB(I:Inv X ag σ H s)(hs:Sim X.K H mu S){n:Nat}{A:dG}(o:A.units+1+n<cLine)(ih:∀ {d e:D} {v w:V} {u z:dB} {b:Bool},eO X.K H mu d v->eO X.K H mu e w->d8 v u->d8 w z->ku S n d e=some b->Bw A.in1 s u z b):
  ∀{xs ys:List D} {vs ws:List V} {f zs:List dB} {b:Bool},d5 X.K H mu xs vs->d5 X.K H mu ys ws->eE vs f->eE ws zs->oY (ga S n) (ku S n) xs ys=Z b->uH A s f zs b
 :=by
 intro xs
 induction xs with
 |nil=>
  intro ys vs ws f zs b a r2 g c h;cases a;cases g;cases r2 with
  |nil=>cases c;cases h;exact .nn
  |cons _ _=>cases c;cases h;exact .nc _ _
 |cons x xs p=>
  intro ys vs ws f zs b a r2 g c h;cases a with
  |cons a m=>
   cases g with
   |cons i q=>
    cases r2 with
    |nil=>cases c;cases h;exact .cn _ _
    |cons r2 l=>
     cases c with
     |cons j p2=>
      rw[oY]at h;obtain⟨k,r,h⟩:=oB1.mp h;have eq:=(lY I hs n (A:=A.in1) o a r2 i j r).1;cases k with
      |true=>exact .eq eq (p m l q p2 h)
      |false=>exact .lt eq (ih a r2 i j h)
theorem vk(I:Inv X ag σ H s)(hs:Sim X.K H mu S):∀(n:Nat) {A:dG} {d e:D} {v w:V} {u z:dB} {b:Bool},A.units+n<cLine->eO X.K H mu d v->eO X.K H mu e w->d8 v u->d8 w z->ku S n d e=Z b->Bw A s u z b
 |0,_,_,_,_,_,_,_,_,_,_,_,_,_,h=>by cases h
 |n + 1,A,d,e,v,w,u,z,b,W,m,f,j,o,h=>by
  rw[ku]at h;split at h
  ·rename_i k c;cases h;unfold IW at c;split at c
   ·cases c;cases m;cases f;obtain⟨t,rfl⟩:=j;obtain⟨r,rfl⟩:=o;exact λprog w E Q q=>(PyProof.Rows.lt_int q:dM (model prog w) A (compareOp .Lt (.int _ t) (.int _ r)) Q E s)
   ·cases c;cases m;cases f;obtain⟨t,rfl⟩:=j;obtain⟨r,rfl⟩:=o;exact λprog w E Q q=>(PyProof.Rows.lt_str q:dM (model prog w) A (compareOp .Lt (.str _ t) (.str _ r)) Q E s)
   ·cases c
  ·split at h
   ·rename_i p q ao y;split at h
    ·rename_i L;obtain⟨am,xs⟩:=p;obtain⟨qb,ys⟩:=q;have l:am=qb:=L;subst l;obtain⟨a,vs,rfl,au,T⟩:=ej m hs ao;obtain⟨a2,F,rfl,B,K⟩:=ej f hs y;cases j;cases o;obtain⟨R,G,P,_⟩:=e0 I au;obtain⟨x,g,i,_⟩:=e0 I B;refine ED P i (by lia) ?_;have:=AB I hs (A:=A) (n:=n) (by lia) (λC r2 N U h=>vk I hs n (A:=A.in1) (by show A.units+1+n<cLine;lia) C r2 N U h) T K G g h;simpa using this
    ·cases h
   ·cases h
theorem ms(l:X.A.units+64<cLine):gt X (compareOp .Lt) (r2 X.K (b2 yT)):=by
 intro ag s σ H x y u w Q I g i h;obtain⟨mu,S,d,e,r,k,f,r2,c,a,hc⟩:=oN h;obtain⟨b,j,a⟩:=oM1.mp a;cases a;exact vk I c eM (by show _+60<cLine;lia) f r2 g i j X.prog X.w X.xe _ ⟨.bl b,H,I,O,hc.now (.bl b) c⟩
end
inductive Ty where
 |int|bool|str|tuple|list|dict
 deriving DecidableEq
noncomputable def Ty.nm:Ty->String
 | .int=>"int" | .bool=>"bool" | .str=>"str" | .tuple=>"tuple" | .list=>"list" | .dict=>"dict"
noncomputable def Lf (S:Sto)(T:Ty):D->Option Bool
 | .non=>some false
 | .bl _=>some (decide (T = .bool)||decide (T = .int))
 | .int _=>some (decide (T = .int))
 | .str _=>some (decide (T = .str))
 | .tup _=>some (decide (T = .tuple))
 | .rol _=>some (decide (T = .list))
 | .ref n=>match S[n]? with
  |some (.lst _)=>some (decide (T = .list))
  |some (.dct _)=>some (decide (T = .dict))
  |some (.dcT _)=>some (decide (T = .dict))
  |_=>none
 | .fn _=>none
section
variable{ag:List (dE×Obj)}{σ:L2.St}{H:Hp}{s:dD}{mu:List dE}{S:Sto}{K:Fg1}
end
abbrev FO:=Ev->Sto->Option (Option Int×Sto)
noncomputable def KJ(K:Fg1)(m:FO):TO:=fun σ H Q=>∃r mu S o S',fH K H mu r σ/\Sim K H mu S/\m r S=Z (o,S') /\ ∀H' mu',Ext mu mu' H H'->Sim K H' mu' S'->Q o H'
abbrev MO(X:Cx)(e:Option Expr)(m:FO):Prop:=PO X e (KJ X.K m)
noncomputable def j5:FO:=λ_ S=>Z (Y,S)
noncomputable def mx(m:FE):FO:=λr S=>(m r S).bind λp=>match p.1 with
 | .int i=>Z (Z i,p.2)
 |_=>Y
def uv(xs:List D)(lo hi:Option Int):List D:=(xs.drop (HT.sIx xs.length 0 lo)).take (HT.sIx xs.length xs.length hi-HT.sIx xs.length 0 lo)
theorem CH:MO X Y j5:=by
 rintro ag s σ H Q I ⟨r,mu,S,o,d,c,b,a,hc⟩;cases a;exact Ch ag s σ H Q I (hc H mu (.refl _ _) b)
theorem CG{e:Expr}{m:FE}(h:ME X e m):MO X (Z e) (mx m):=by
 rintro ag s σ H Q I ⟨r,mu,S,o,l,b,c,a,hc⟩;obtain⟨⟨d,n⟩,k,a⟩:=oB1.mp a;cases d with
 |int i=>
  cases a;refine Cg h ag s σ H Q I ⟨r,mu,S,_,_,b,c,k,λv H1 mu1 f g j=>?_⟩;cases g;exact⟨i,O,hc H1 mu1 f j⟩
 |_=>cases a
theorem xb{K:Fg1}{H:Hp}{mu:List dE}{ds:List D}{vs:List V}(t:d5 K H mu ds vs)(lo hi:Option Int):d5 K H mu (uv ds lo hi) (uu vs lo hi):=by
 unfold uv uu;rw[<- t.length];exact(t.drop _).take _
def GZ(ta:TA):TE:=fun σ H Q=>ta σ H λvs H1=>∃j:Int,vs=[.int j] /\ ∀p,H1 p=Y->Q (.ref p) (upd H1 p (.rng 0 j))
theorem xQ {a:Expr}{ta:TA}{p pos:Pos}(hg:Gl X "range")(hm:X.mg "range"=Y)(ha:PA X [a] ta)(hs:autoParam (dJ [a] X.env=[(J,eval a X.env)]) au0):PE X (.Call (.Name "range" p) [a] [] pos) (GZ ta):=by
 intro ag s σ H Q I h;refine Call_ (kh I hg hm boot_range (PyProof.Rows.callWith_type1 (fD (ha pos ag s σ H _ I h) λk i ⟨vs,H1,c,g,d⟩=>?_) hs O));obtain⟨j,e,q⟩:=d;subst e;cases g with
 |cons r f=>
  cases f;obtain⟨t,rfl⟩:=r;refine call_range_1 ⟨.ref i.heap.objs.size,_,c.laid (λb o e=>hP1 _ e) (nR1 _) (o:=.rng 0 j) ?_,O,q _ (c.hok.fresh (nR1 _))⟩;exact⟨_,_,_,hS1 _ O⟩
noncomputable def mM(i:Int):Nat->List V
 |0=>[]
 |n+1=>.int i::mM (i+1) n
theorem nL:∀(n:Nat) (i:Int),(mM i n).length=n
 |0,_=>rfl
 |n+1,i=>by rw[mM,lC1,nL n]
theorem sV:∀(n:Nat) (i:Int) (k:Nat) (v:V),(mM i n)[k]?=Z v->v = .int (i+k)
 |0,i,k,v,h=>by simp[mM]at h
 |n+1,i,0,v,h=>by simp[mM]at h;rw[<- h];simp
 |n+1,i,k+1,v,h=>by
  rw[mM,gC1]at h;rw[sV n (i+1) k v h,show i+1+(k:Int)=i+((k+1:Nat):Int) by push_cast;lia]
theorem sU{K:Fg1}{H:Hp}{mu:List dE}:∀(n:Nat) (i:Int),d5 K H mu (gY i n) (mM i n)
 |0,_=>.nil
 |n+1,i=>.cons (.int i) (sU n (i+1))
theorem vU:∀{xs:List V} {a:List dB},xs.length=a.length->(∀(i:Nat) x u,xs[i]?=Z x->a[i]?=Z u->d8 x u)->eE xs a
 |[],[],_,_=>.nil
 |x::xs,u::a,h,f=>.cons (f 0 x u O O) (vU (by simpa using h) λi y w h1 h2=>f (i+1) y w (by simpa using h1) (by simpa using h2))
 |[],_::_,h,_=>by simp at h
 |_::_,[],h,_=>by simp at h
theorem Dt(hc:X.calm=M):fj X (.type "list") (λxs H Q=>∃p i j,xs=[.ref p]/\H p=Z (.rng i j)/\(-(2^62)<=i/\i<2^62 /\ -(2^62)<=j/\j<2^62)/\(j-i).toNat<=2^20 /\ ∀l,H l=Y->Q (.ref l) (upd H l (.lst (mM i (j-i).toNat)))):=by
 intro ag s σ H xs F Q I r h;obtain⟨p,i,j,rfl,A,⟨h1,h2,C,E⟩,f,q⟩:=h;obtain⟨u,rfl,g⟩:=je r;cases g;obtain⟨t,u,v,e⟩:=I.hok p _ A;have D:(((j-i).toNat:Nat):Int)=Builtin.Range.rangeSize i j 1:=by rw[rangeSize_one];split<;>lia
 refine call_list_range (n:=(j-i).toNat) (I.ok.hd hc) e (small_one h1 h2 C E) D.symm (aC f (by decide)) λh' tk c z B m hi=>?_;obtain⟨d,a⟩:=hi;have b:eE (mM i (j-i).toNat) c.toList:=vU (by rw[nL];simpa using d.symm) λk x u y o=>by
  rw[sV _ _ _ _ y];obtain⟨w,rfl⟩:=a k u (by simpa using o);exact⟨w,by rw[Int.mul_one]⟩
 refine⟨.ref s.heap.objs.size,_,I.laid (t':=tk) B (nR1 _) (show eX X.prog X.w _ h' _ (.lst (mM i (j-i).toNat))from⟨?_,c.toList,z,b,by simpa using m⟩),O,q _ (I.hok.fresh (nR1 _))⟩;rw[nL];exact aC f (by decide)
noncomputable def wc(i j:Int):Bool:=decide (-(2^62)<=i)&&decide (i<2^62)&&decide (-(2^62)<=j)&&decide (j<2^62)&&decide ((j-i).toNat<=2^20)
def Az(m:FA):FE:=λr S=>(m r S).bind λp=>match p.1 with
 |[.int j]=>if wc 0 j=M then Z (.ref p.2.length,p.2++[.lst (gY 0 j.toNat)])else Y
 |_=>Y
theorem sX{i j:Int}(h:wc i j=M):(-(2^62)<=i/\i<2^62 /\ -(2^62)<=j/\j<2^62)/\(j-i).toNat<=2^20:=by
 unfold wc at h;simp only[bA1,al]at h;obtain⟨⟨⟨⟨h1,h2⟩,c⟩,b⟩,a⟩:=h;exact⟨⟨h1,h2,c,b⟩,a⟩
theorem FX{K:Fg1}{mu:List dE}{H H1:Hp}{S1:Sto}{i j:Int}{Q:VK}{mu1:List dE}(c:Ext mu mu1 H H1)(a:Sim K H1 mu1 S1)(hc:po K mu H (.ref S1.length) (S1++[.lst (gY i (j-i).toNat)]) Q){p l:dE}(hp:H1 p=none)(b:upd H1 p (.rng i j) l=none):
  Q (.ref l) (upd (upd H1 p (.rng i j)) l (.lst (mM i (j-i).toNat))):=
 hc _ _ (mu1++[l]) ((c.trans (Ext.fresh hp)).trans (Ext.new_ b)) (.ref (gf a.len l)) ((a.fresh hp).newL (sU _ _) b)
theorem xX {a:Expr}{m:FA}{f p2 b c:Pos}(hc:X.calm=true)(hg:Gl X "range")(hm:X.mg "range"=none)(hg2:Gl X "list")(hm2:X.mg "list"=none)(ha:MA X [a] m)(hs:autoParam (dJ [a] X.env=[(false,eval a X.env)]) au0)
  (hs2:autoParam (dJ [.Call (.Name "range" f) [a] [] b] X.env=[(J,eval (.Call (.Name "range" f) [a] [] b) X.env)]) au0):ME X (.Call (.Name "list" p2) [.Call (.Name "range" f) [a] [] b] [] c) (Az m):=
 fy (lN (Dt hc) hg2 hm2 (by decide+kernel) (m5 (xQ hg hm ha hs) rh hs2) (by decide) (by decide) hs2) <| by
  rintro σ H Q ⟨r,mu,S,d,u,h,hs,hm,e⟩;obtain⟨⟨ds,w⟩,t,hm⟩:=oB1.mp hm;dsimp only at hm;split at hm
  ·rename_i j;split at hm
   ·rename_i g;cases hm;refine⟨r,mu,S,_,_,h,hs,t,λvs H1 mu1 i k q=>?_⟩;obtain⟨v,rfl,s⟩:=nM k;cases s;refine⟨j,O,λp n=>⟨p,0,j,O,d9,(sX g).1,(sX g).2,λl o=>FX i q (by rw[Int.sub_zero];exact e) n o⟩⟩
   ·cases hm
  ·cases hm
noncomputable def kl:G2:=λo v S=>match o with
 | .ref n=>match S[n]? with
  |some (.lst xs)=>if xs.length<dL then Z (.non,S.set n (.lst (xs++[v])))else Y
  |_=>Y
 |_=>Y
def AY:G2:=λo i S=>match o,i with
 | .ref n,.int k=>match S[n]? with
  |some (.lst xs)=>if-(2^63)<=k/\k<2^63 then(x4 xs.length k).bind λj=>(xs[j]?).map λy=>(y,S.set n (.lst (xs.eraseIdx j)))else Y
  |_=>Y
 |_,_=>Y
noncomputable def pP (f:FN)(o:FE)(a:FA):FE:=λr S=>(o r S).bind λp=>match p.1 with
 | .ref n=>match p.2[n]? with
  |some (.lst _)=>(a r p.2).bind λq=>f (p.1::q.1) q.2
  |_=>none
 |_=>none
theorem GW:D6 X "list.append" (λx xs H Q=>rN X.K (b2 kl) (x::xs) H Q):=by
 intro ag s σ H x xs v j Q I m l h;obtain⟨r,y,mu,S,d,e,q,p,o,i,r2,f,a,hc⟩:=zC h;cases o;cases d with
 |ref n=>
  rw[kl]at a;split at a
  ·rename_i ys g;split at a
   ·rename_i k;cases a;cases i with
    |ref b=>
     obtain⟨vs,c,t⟩:=f.lst g b;refine pN ag s σ H _ [y] v j Q I m l ⟨_,vs,y,O,O,c,by rw[<- t.length];exact k,?_⟩;exact hc _ _ mu (Ext.put c trivial (gM1 b)) .non (f.putL (t.append (.cons r2 .nil)) b c)
   ·cases a
  ·cases a
 |_=>cases a
theorem GV:D6 X "list.pop" (λx xs H Q=>rN X.K (b2 AY) (x::xs) H Q):=by
 intro ag s σ H x xs v p Q I A r h;obtain⟨F,y,mu,S,d,e,E,D,B,o,r2,g,a,hc⟩:=zC h;cases B;unfold AY at a;split at a
 ·rename_i n k;split at a
  ·rename_i ys m;split at a
   ·rename_i i;obtain⟨j,l,a⟩:=oB1.mp a;obtain⟨z,q,a⟩:=oM1.mp a;cases a;cases o with
    |ref b=>
     cases r2;obtain⟨vs,f,t⟩:=g.lst m b;obtain⟨w,C,c⟩:=t.get q;refine Al ag s σ H _ [.int k] v p Q I A r ⟨_,vs,k,j,w,O,O,f,i.1,i.2,?_,C,?_⟩
     ·rw[<- t.length];exact(rL l).1
     ·have x:=Ext.put (u:=.lst (vs.eraseIdx j)) f trivial (gM1 b);exact hc _ _ mu x (c.ext x) (g.putL (t.eraseIdx j) b f)
   ·cases a
  ·cases a
 ·cases a
theorem At {o e:Expr}{es:List Expr}{m:FE}{a:FA}{f:FN}{name:Str}{apos cpos:Pos}{id:String}(slot:Slot "list" name id)(hty:typeOf (.builtin id)=pure (.type "method_descriptor"))(hm:D6 X id (fun x xs H Q=>rN X.K f (x::xs) H Q))(ho:ME X o m)(ha:MA X (e::es) a)
  (hbase:autoParam (attributeBase o name X.env (eval o X.env)=eval o X.env) au0)
  (hfew:autoParam (((backTo cpos (dJ (e::es) X.env)).all (λx=> !x.1)&&(backToKw cpos (keywordEach [] X.env)).all (λx=>x.1.isSome)&&decide ((e::es).length+([]:List Keyword).length+(if([]:List Keyword).isEmpty then 0 else 1)<30))=M) au0)
  (hline:autoParam ((apos.endLine == cpos.line)=M) au0) (hs:autoParam (dJ (e::es) X.env=(J,eval e X.env)::dJ es X.env) au0) (hplain:autoParam ((backTo cpos (dJ es X.env)).any (·.1)=J) au0):
  ME X (.Call (.Attribute o name apos) (e::es) [] cpos) (pP f m a):=
 fy (Hr PySem.F.plainAttrs_list slot hty hm ho ha hbase hfew hline hs hplain) <| by
  rintro σ H Q ⟨r,mu,S,d,y,g,hs,hm,hc⟩;obtain⟨⟨i,p⟩,E,hm⟩:=oB1.mp hm;refine⟨r,mu,S,i,p,g,hs,E,λv H1 mu1 j h k=>?_⟩;cases i with
  |ref n=>
   dsimp only at hm;split at hm
   ·rename_i xs C;obtain⟨⟨ds,q⟩,B,hm⟩:=oB1.mp hm;refine⟨?_,r,mu1,p,ds,q,g.ext j,k,B,λvs H2 c l r2 z=>?_⟩
    ·cases h with
     |ref s=>
      obtain⟨vs,w,t⟩:=k.lst C s;exact .inl ⟨O,vs,mU.of w⟩
    ·exact⟨c,q,.ref n::ds,d,y,.cons (h.ext l) r2,z,hm,λu D b A=>hc u D b ((j.trans l).trans A)⟩
   ·cases hm
  |_=>cases hm
theorem Cd{X:Cx}(hc:X.calm=true){elt tg iter:Expr}{ifs:List Expr}{rest:List Comprehension}{scope:dS}{pos l au:Pos}{y:Str}{i:Nat}{T:List Str}{keep:List Nat}{u:List (Str×dE)}{wi:TI}{g:TG}{ti:TT}{tb:dE->TS}{emit:dB->Env->Sem Unit}(W:swapsWith (.ListComp elt (⟨tg,iter,ifs,0⟩::rest) scope pos) (some (.Name y au)) l.line X.env=pure true)(eq:∀it t k,compTurn (.ListComp elt (⟨tg,iter,ifs,0⟩::rest) scope pos) 0 it t k=sJ iter.pos tg ifs it k (emit t k) (.compLoop (.ListComp elt (⟨tg,iter,ifs,0⟩::rest) scope pos) 0 it t k))(C:GR X scope T keep)(K:jx X.env.cells scope.names []=some u)(hi:PI X tg iter wi)(hb:∀s H d p,PG (cxC X scope u T keep s H d) tg g/\ph (cxC X scope u T keep s H d) ifs ti/\PU (cxC X scope u T keep s H d) (emit (.ref p) (cxC X scope u T keep s H d).env) (tb p))(hN:X.N.Nodup)(hy:X.N[i]?=some y)(hx:vM X.env.scope y)(hf:X.fn y=true\/X.env.scope.names.lookup y=some .local)(hs:autoParam (∀x,foldedSetIterable iter X.env x=pure x) du0):
  PS X (.Assign [.Name y au] (.ListComp elt (⟨tg,iter,ifs,0⟩::rest) scope pos) l) (zm (v6 T.length keep wi g ti tb) (wU i)):=by
 intro ag s σ H D I h;rw[exec_Assign_Name_used _ _ _ _ W];refine wB1 (wpAny_standAt (wB1 ?_));show dM _ X.A (do let _<-comprehension (.ListComp elt (⟨tg,iter,ifs,0⟩::rest) scope pos) scope X.env _ (newList []) J (eval iter X.env) (Z (assign (.Name y au) X.env))) _ _ s;refine wB1 (wpAny_mono (wpAny_comprehension_free (use:=Z (assign (.Name y au) X.env)) (Q:=λ_ s'=>SP X ag D .next s') O hs (Bh K) C.kind C.names ?_) (λ_ s' hq=>wP1 (wP1 hq)) λ_ _ e=>e);refine fD (hi ag s σ H _ I h) λv s1 h1=>fD h1 λitv a h2=>?_;obtain⟨it,d,tn,am,H2,rfl,I2,TT,E,f2,q2⟩:=h2;refine wO1 ?_;have A:Inv X ag σ (upd H2 a.heap.objs.size (.lst [])) {a with heap:=a.heap.push {cls:=.type "list",data:=.seq ([]:List dB).toArray}}:=I2.lnew (t':=a.toks) .nil (bh _);have old:∀b∈d,∃o,a.heap.get? b=Z o:=λb hb=>by
  obtain⟨o,e,_⟩:=TT.obj 0 a.heap E b hb;exact⟨o,e⟩
 have aq:∀b∈d,b≠a.heap.objs.size:=λb hb z=>by
  obtain⟨o,e⟩:=old b hb;have:=hL1 e;rw[z]at this;exact az _ this
 have R:∀b∈d,jW X ag (upd H2 a.heap.objs.size (.lst [])) b:=λb hb=>⟨by rw[d0 (aq b hb)];exact(f2 b hb).1,(f2 b hb).2⟩;have o3:∀b∈d,∃o,({a with heap:=a.heap.push {cls:=.type "list",data:=.seq ([]:List dB).toArray}}:dD).heap.get? b=Z o:=λb hb=>by
  obtain⟨o,e⟩:=old b hb;exact⟨o,hP1 _ e⟩
 have P:=tX A C K R o3;obtain⟨hg,S,he⟩:=hb {a with heap:=a.heap.push {cls:=.type "list",data:=.seq ([]:List dB).toArray}} (upd H2 a.heap.objs.size (.lst [])) d a.heap.objs.size;refine j7 ?_;have f4:∀b∈d,jW (cxC X scope u T keep {a with heap:=a.heap.push {cls:=.type "list",data:=.seq ([]:List dB).toArray}} (upd H2 a.heap.objs.size (.lst [])) d) [] (upd H2 a.heap.objs.size (.lst [])) b:=λb hb=>
  ⟨(R b hb).1,(P.ok.exf b hb).1,P.ok.exfs b hb,.inl hb,(P.ok.exf b hb).2,λp L=>absurd (show p∈([]:List (dE×Obj))from L) (by simp)⟩
 have G:tn 0 (pushCells ((a.heap.push {cls:=.type "list",data:=.seq ([]:List dB).toArray}).push {cls:=.type "dict",data:=.dict #[]}) scope.names):=
  TT.keep 0 a.heap _ E λb hb o e=>pushCells_keeps scope.names _ b o (hP1 _ (hP1 _ e))
 have n:=qg (X:=cxC X scope u T keep {a with heap:=a.heap.push {cls:=.type "list",data:=.seq ([]:List dB).toArray}} (upd H2 a.heap.objs.size (.lst [])) d) O hc (eq (.ref it) (.ref a.heap.objs.size) _) TT hg S he P G f4
  (q2 a.heap.objs.size (I2.hok.fresh (nR1 _)))
 refine codeAny_mono (codeAny_compStart_list n (TT.self X.A 0 _ _ _ G n)) λr s' hr=>?_;cases r with
 |error e=>exact hr.elim
 |ok f=>
  obtain⟨σ',H',B,q'⟩:=hr;have J1:Inv X ag σ H' s':=A.call' (s':=s') (ch:=d) B.os B.base B.hok B.bare λb hb=>(R b hb).2.2.2 |> λz=>⟨z.1,(R b hb).2.1,z.2.1,z.2.2⟩
  -- the block's own dict is kept aside
  obtain⟨m,hn,_⟩:=id B.loc;obtain⟨N,es,ep,eC,dC,rC⟩:=id hn;have hCz:(a.heap.push {cls:=.type "list",data:=.seq ([]:List dB).toArray}).get? (a.heap.push {cls:=.type "list",data:=.seq ([]:List dB).toArray}).objs.size=Y:=Heap.get?_none_of_le (nR1 _);have F:(a.heap.push {cls:=.type "list",data:=.seq ([]:List dB).toArray}).objs.size≠X.env.locals:=λz=>by
   have:=A.lt;rw[<- z]at this;exact az _ this
  have V:H' (a.heap.push {cls:=.type "list",data:=.seq ([]:List dB).toArray}).objs.size=Y:=B.free;have J2:Inv X (ag++[((a.heap.push {cls:=.type "list",data:=.seq ([]:List dB).toArray}).objs.size,N)]) σ H' s':=J1.pins_of λp L=>by
   rcases aG.mp L with z|z
   ·exact J1.pin p (mA1 _ z)
   ·have z':p=((a.heap.push {cls:=.type "list",data:=.seq ([]:List dB).toArray}).objs.size,N):=by simpa using z
    subst z';exact⟨eC,V,F,A.nofs (nR1 _),λv q=>by rw[dC]at q;cases q⟩
  refine fD (wl hN hy hx hf _ s' σ H' (.ref a.heap.objs.size) (.ref a.heap.objs.size) D.nx J2 O q') λ_ s5 ⟨ao,H5,J5,q5⟩=>?_;obtain⟨e5,n5,_⟩:=J5.pin ((a.heap.push {cls:=.type "list",data:=.seq ([]:List dB).toArray}).objs.size,N) (mA1 _ (mA1 _ mS1));refine⟨m,⟨N,es,ep,e5,dC,rC⟩,λh' wq=>?_⟩;have J6:Inv X ag ao H5 s5:=J5.unpinned;refine⟨ao,H5,J6.turned (t':=s5.toks) (λb o hb e=>(wq.2 b hb).trans e) n5 F (.inr ?_) (λx c w z=>?_) (λp L z=>?_),q5⟩
  ·exact A.sz
  ·obtain⟨w',zc⟩:=A.cell x c w;have j:=zc.lt;rw[z]at j;exact az _ j
  ·obtain⟨U,_⟩:=A.pin p L;have j:=hL1 U;rw[z]at j;exact az _ j
theorem GA{K:Fg1}{te:TE}{m:FE}{i:Nat}(hm:∀ σ H Q,tM K m σ H Q->te σ H Q){E:jH}{σ:L2.St}{H:Hp}(h:v4 K (ea m (gN i)) E σ H):zm te (wU i) E σ H:=by
 obtain⟨r,mu,S,d,e,h1,h2,o,n⟩:=rG h;refine hm _ _ _ ⟨r,mu,S,d,e,h1,h2,o,λv H' mu' g j l=>?_⟩;obtain⟨r2,a,s,q,t,u,b,c,p,k,f⟩:=n v H' mu' g j l;cases k;exact f _ H' a (.refl _ _) (b.set p) c
theorem mv (i:Nat){x:Str}{pos:Pos}(hN:autoParam (X.N[i]? = some x) au0)(hv:autoParam (Vis X.env.scope x) au0)(hd:autoParam ((x == ("__debug__":Str))=false) bu0)(hcd:autoParam ((x == ("__classdict__":Str))=false) bu0):
  ME X (.Name x pos) (mV i):=FH i hN hv hd hcd
def fI(P:dF)(w:dH)(K:Fg1)(mg:Str->Option dB)(base:dP)(k:Nat)(x:Str)(n:Nat)(m:FN):Prop:=
 ∃(f:dE) (fd:dQ) (ps:List Str),l8 P w K mg base uI k f fd ps (BA K n m)/\lG K fd ps []/\wK1 K (.ref f)=M/\mg x=Z (.ref f)
theorem FL {X:Cx}{k k' n:Nat}{x:Str}{m:FN}{p pos:Pos}{e:Expr}{es:List Expr}{a:FA}(h:fI X.prog X.w X.K X.mg X.base k x n m)(hr:fR k' X.A)(hk:k<=k')(hg:Gl X x)(ha:MA X (e::es) a)(hdb:autoParam ((x == ("__debug__":Str))=false) bu0)
  (he:autoParam (dJ (e::es) X.env=(J,eval e X.env)::dJ es X.env) au0) (hpl:autoParam ((backTo pos (dJ es X.env)).any (·.1)=J) au0):ME X (.Call (.Name x p) (e::es) [] pos) (mN (dZ n m) a):=by
 obtain⟨f,fd,ps,F,b,c,d⟩:=h;exact CO F (hr.mono hk) hg d c b ha hdb he hpl
theorem Fa{P:dF}{w:dH}{K:Fg1}{mg:Str->Option dB}{base:dP}{x a:Str}{st:dR}{f:dE}{fd:dQ}{N ps:List Str}{k n:Nat}{b:FS}(F:yX K x a st f fd)(hb:lG K fd ps [])(hm:mg x=some (.ref f))(S:gu N ps (ev st))(hn:ps.length=n)(c:∀(e:dB) (A:dG) (d:List Env) (s:dD) (H:Hp) (E:XK),fR k (A.deeper (envOfC a (ev st) s.heap.objs.size f e)) ->
   yN (mS uI P w K mg base N a (ev st) f e A d s H E).nox (fB st) b):fI P w K mg base (k+1) x n (iy N.length b):=by
 subst hn;exact⟨f,fd,ps,Ie F S c,hb,F.kp,hm⟩
def CGl(K:Fg1)(mg:Str->Option dB)(x:Str)(d:D):Prop:=∃(v:V) (u:dB),mg x=Z u/\d8 v u /\ ∀H mu,eO K H mu d v
theorem CN {X:Cx}{x:Str}{d:D}{pos:Pos}(h:CGl X.K X.mg x d)(hg:Gl X x)(hd:autoParam ((x == ("__debug__":Str))=J) bu0):ME X (.Name x pos) (mC d):=by
 obtain⟨v,u,a,r,q⟩:=h;exact Av d (Cn hg a r hd) q
noncomputable def fV:List Bool->Ev->Ev
 |true::bs,o::r=>o::fV bs r
 |false::bs,_::r=>Y::fV bs r
 |[],_::r=>Y::fV [] r
 |_,[]=>[]
def kG:Ev->Bool
 |[]=>M
 |none::r=>kG r
 |some d::r=>d.und 0&&kG r
noncomputable def pO (ki ko:List Bool)(b:FS):FS:=fun r S=>if kG (fV ki r)=true then
  (b (fV ki r) []).bind λp=>match p.1 with
   | .rt d=>if d.und 0=true then some (.rt d,[],S)else none
   |f=>if kG (fV ko p.2.1)=true then some (f,fV ko p.2.1,S)else none
 else none
theorem jN:∀(bs:List Bool) (r:Ev),(fV bs r).length=r.length
 |true::bs,o::r=>congrArg (· + 1) (jN bs r)
 |false::bs,o::r=>congrArg (· + 1) (jN bs r)
 |[],o::r=>congrArg (· + 1) (jN [] r)
 |[],[]=>rfl
 |true::_,[]=>rfl
 |false::_,[]=>rfl
theorem jO:∀(bs:List Bool) (r:Ev) (i:Nat) (d:D),(fV bs r)[i]?=Z (Z d)->r[i]?=Z (Z d)
 |true::bs,o::r,0,d,h=>h
 |true::bs,o::r,i+1,d,h=>by
  rw[gC1];exact jO bs r i d (by rw[fV,gC1]at h;exact h)
 |false::bs,o::r,0,d,h=>by simp[fV]at h
 |false::bs,o::r,i+1,d,h=>by
  rw[gC1];exact jO bs r i d (by rw[fV,gC1]at h;exact h)
 |[],o::r,0,d,h=>by simp[fV]at h
 |[],o::r,i+1,d,h=>by
  rw[gC1];exact jO [] r i d (by rw[fV,gC1]at h;exact h)
 |[],[],i,d,h=>by simp[fV]at h
 |true::_,[],i,d,h=>by simp[fV]at h
 |false::_,[],i,d,h=>by simp[fV]at h
theorem lK:∀(r:Ev) (i:Nat) (d:D),kG r=M->r[i]?=Z (Z d)->d.und 0=M
 |none::r,0,d,_,h=>by simp at h
 |none::r,i+1,d,hs,h=>lK r i d hs (by simpa using h)
 |some e::r,0,d,hs,h=>by
  rw[kG,bA1]at hs;simp at h;subst h;exact hs.1
 |some e::r,i+1,d,hs,h=>by
  rw[kG,bA1]at hs;exact lK r i d hs.2 (by simpa using h)
theorem fH.mask{K:Fg1}{H:Hp}{mu mu':List dE}{r:Ev}{σ:L2.St}{bs:List Bool}(h:fH K H mu r σ)(hs:kG (fV bs r)=M):fH K H mu' (fV bs r) σ:=
 ⟨by rw[jN];exact h.len,λi d e=>by
  obtain⟨v,c,a⟩:=h.val i d (jO bs r i d e);exact⟨v,c,a.cut (n:=0) (λk b=>absurd b (bv _)) (lK _ i d hs e)⟩⟩
theorem Aw{K:Fg1}{m y:List Bool}{b:FS}{E:jH}{σ:L2.St}{H:Hp}(h:v4 K (pO m y b) E σ H):v4 K b E σ H:=by
 obtain⟨r,mu,S,f,C,B,p,j,c,hc⟩:=h;unfold pO at c;split at c
 ·rename_i q;obtain⟨⟨l,t,w⟩,A,c⟩:=oB1.mp c;refine⟨fV m r,[],[],l,t,w,p.mask q,.nil,A,?_⟩;have back:∀{H':Hp} {mu':List dE},Ext [] mu' H H'->Ext mu mu H H':=λ{H' mu'} x=>⟨bm,λa o e _=>x.old a o e (by simp),x.tup,x.frz,λ_ z=>.inl z⟩;have keep:∀{H':Hp} {mu':List dE},Ext [] mu' H H'->Sim K H' mu S:=λ{H' mu'} x=>⟨j.len,j.nd,λn o a h1 h2=>(j.ob n o a h1 h2).keep (back x) λo e=>x.old a o e (by simp)⟩;cases l with
  |rt d=>
   dsimp only at c;split at c
   ·rename_i i;cases c;exact λv H' mu' x r s=>hc v H' mu (back x) (r.cut (n:=0) (λk u=>absurd u (bv _)) i) (keep x)
   ·cases c
  |nx=>
   dsimp only at c;split at c
   ·rename_i i;cases c;exact λg H' mu' x r s=>hc g H' mu (back x) (r.mask i) (keep x)
   ·cases c
  |bk=>
   dsimp only at c;split at c
   ·rename_i i;cases c;exact λg H' mu' x r s=>hc g H' mu (back x) (r.mask i) (keep x)
   ·cases c
  |ct=>
   dsimp only at c;split at c
   ·rename_i i;cases c;exact λg H' mu' x r s=>hc g H' mu (back x) (r.mask i) (keep x)
   ·cases c
 ·cases c
theorem Am{X:Cx}{sts:List dR}{b:FS}(c a:List Bool)(h:yN X sts b):yN X sts (pO c a b):=rg h λ_ _ _=>Aw
def CV(K:Fg1)(d:D)(u:dB):Prop:=∃v:V,d8 v u /\ ∀H mu,eO K H mu d v
def Jf(K:Fg1)(ds:List D)(us:List dB):Prop:=∃vs:List V,eE vs us /\ ∀H mu,d5 K H mu ds vs
section
variable{K:Fg1}
theorem si{i:Int}{t}:CV K (.int i) (.int i t):=⟨.int i,⟨t,O⟩,λ_ _=>.int i⟩
theorem se{x:Str}{t}:CV K (.str x) (.str x t):=⟨.str x,⟨t,O⟩,λ_ _=>.str x⟩
theorem lp:Jf K [] []:=⟨[],.nil,λ_ _=>.nil⟩
theorem fG{d:D}{u:dB}{ds:List D}{a:List dB}(h:CV K d u)(t:Jf K ds a):Jf K (d::ds) (u::a):=by
 obtain⟨v,r,q⟩:=h;obtain⟨vs,rs,b⟩:=t;exact⟨v::vs,.cons r rs,λH mu=>.cons (q H mu) (b H mu)⟩
theorem oA {a:dE}{c:Option dE}{b:List dB}{n:Nat}{sl:Array (Option dB)}{ds:List D}(h:K.lookup a=Z ⟨.type "tuple",c,.seq b.toArray n,sl⟩)(hs:b.length<=dL)(t:Jf K ds b):CV K (.tup ds) (.ref a):=by
 obtain⟨vs,rs,d⟩:=t;exact⟨.ref a,O,λH mu=>.tup (.inr ⟨_,b.toArray,n,h,O,O,by simpa using hs,by simpa using rs⟩) (d H mu)⟩
theorem Gr{mg:Str->Option dB}{x:Str}{d:D}{u:dB}(hm:mg x=Z u)(h:CV K d u):CGl K mg x d:=by
 obtain⟨v,r,q⟩:=h;exact⟨v,u,hm,r,q⟩
end
theorem lM{K:Fg1}{H:Hp}{mu:List dE}:∀ns:List Int,d5 K H mu (ns.map D.int) (ns.map V.int)
 |[]=>.nil
 |n::ns=>.cons (.int n) (lM ns)
theorem FZ{K:Fg1}{m:FN}(hm:∀ ns:List Int,ns.length<=63 -> ∃ S,m [.rol (ns.map D.int)] []=some (.bl true,S))(H:Hp)(a:dE)(ns:List Int)(f:ns.length<=63)(c:DD H)(d:mU K H a (ns.map V.int)):
  BA K 1 m [.ref a] H (λv _=>v = .bl M) λ_ _ _=>False:=by
 refine⟨O,?_⟩;obtain⟨S,e⟩:=hm ns f;have b:RoL K H a (ns.map V.int):=by
  rcases d with h|h
  ·rcases h with h|h
   ·rcases c a with z|⟨o,xs,z⟩
    ·rw[h]at z;cases z
    ·rw[h]at z;cases z
   ·exact .inl h
  ·exact .inr h
 refine⟨[],[],[.rol (ns.map D.int)],.bl M,S,.cons (.rol b (lM ns)) .nil,.nil,e,λv H' mu' x r s=>?_⟩;cases r;rfl
theorem walk_m{l:PySem.W.OpenLaw}{q:dF}{b:List Str}{XP:(Str->Option dB)->dP->Prop}{g:dH->dP->Prop}{d:DefRec}{K:Params->Fg1}{m:FN}{k:Nat}{x:Str}(hn:l.most=some 63)(c:d.params.defaults=[])(hr:fR k callerA)(i:∀(w:dH) (h:dP),g w h->(K w.params).In h)(hm:∀ns:List Int,ns.length<=63 -> ∃S,m [.rol (ns.map D.int)] []=some (.bl true,S))(F:∀(w:dH) (mg:Str->Option dB) (e:dE) (h:dP),(K w.params).In h->h.Ns dI mg->mg d.name=some (.ref e) ->
   ∃fd:dQ,(∀(s:dD) (u:dB),BindsTo s fd ⟨[u],[]⟩ [(x,u)]) /\ ∀base:dP,(K w.params).In base->base.Ns dI mg->l8 l.prog w (K w.params) mg base uI k e fd [x] (BA (K w.params) 1 m)):
  PySem.W.WalkO q b XP g l.row.toRowW d [] (λf vs=>PySem.call f vs):=
 L2.BW (n:=63) (k:=k) (x:=x) (CX:=λ_=>uI) (sp:=λw=>BA (K w.params) 1 m) hn (by decide) c hr i F (λ_ H a ns p j o=>FZ hm H a ns p j o) λ_ _ _ _ _ z=>z
structure XE (X:Cx)(e:Expr)(m:FE):Prop where
 h:ME X e m
structure XT (X:Cx)(e:Expr)(m:FT):Prop where
 h:MT X e m
structure XW (X:Cx)(e:Expr)(m:FT):Prop where
 h:MW X e m
structure XA (X:Cx)(e:List Expr)(m:FA):Prop where
 h:MA X e m
structure XS (X:Cx)(e:dR)(m:FS):Prop where
 h:MS X e m
structure vH (X:Cx)(e:List dR)(m:FS):Prop where
 h:yN X e m
structure XI (X:Cx)(tg e:Expr)(m:FI):Prop where
 h:MI X tg e m
structure XG (X:Cx)(e:Expr)(m:FG):Prop where
 h:MG X e m
structure Jc (X:Cx)(e:List Expr)(m:By):Prop where
 h:IH X e m
structure XO (X:Cx)(e:Option Expr)(m:FO):Prop where
 h:MO X e m
structure XF (X:Cx)(K:Fg1)(ifs:List Expr)(t:FT):Prop where
 h:ph X ifs (zl K t)
theorem fr{X:Cx}:XF X X.K [] fW:=⟨CJ⟩
theorem fJ{X:Cx}{c:Expr}{t:FT}(h:XT X c t):XF X X.K [c] t:=⟨CI h.h⟩
theorem xz{X:Cx}{sts:List dR}{b:FS}(c a:List Bool)(h:vH X sts b):vH X sts (pO c a b):=⟨Am c a h.h⟩
section
variable{pos:Pos}
theorem qK{i:Int}{j}:XE X (.Constant (.int i) j pos) (mC (.int i)):=⟨FQ⟩
theorem nq{b:Bool}{j}:XE X (.Constant (.bool b) j pos) (mC (.bl b)):=⟨HI⟩
theorem eR{j}:XE X (.Constant .none j pos) (mC .non):=⟨FM⟩
theorem ec{x:Str}{j}:XE X (.Constant (.str x) j pos) (mC (.str x)):=⟨FK⟩
end
section
variable{pos:Pos}{e:Expr}{es:List Expr}{m:FE}{n:FA}
theorem qN:XA X [] dV:=⟨FU⟩
theorem qA(h:XE X e m)(ht:XA X es n)(hs:autoParam (dJ (e::es) X.env=(J,eval e X.env)::dJ es X.env) au0):XA X (e::es) (dU m n):=⟨CP (h:=h.h) (ht:=ht.h) (hs:=hs)⟩
end
section
variable{K:Fg1}{f:FN}{a b:FE}{σ:L2.St}{H:Hp}{Q:VK}
theorem qI{op:Operator}{x y:Expr}{pos:Pos}(ho:gt X (binaryOp op) (r2 X.K f))(hx:XE X x a)(hy:XE X y b):XE X (.BinOp x op y pos) (m2 f a b):=⟨HF (ho:=ho) (hx:=hx.h) (hy:=hy.h)⟩
theorem BO{op:CmpOp}{x y:Expr}{pos:Pos}(ho:gt X (compareOp op) (r2 X.K f))(hx:XE X x a)(hy:XE X y b)(hm:behindInMarks op y=J):XE X (.Compare x [op] [y] pos) (m2 f a b):=⟨FR (ho:=ho) (hx:=hx.h) (hy:=hy.h) (hm:=hm)⟩
theorem qJ{x y:Expr}{pos:Pos}(ho:D7 X (r2 X.K f))(hx:XE X x a)(hy:XE X y b)(hs:nk y):XE X (.Subscript x y pos) (m2 f a b):=⟨HG (ho:=ho) (hx:=hx.h) (hy:=hy.h) (hs:=hs)⟩
theorem qD {x:Str}{p pos:Pos}{e:Expr}{es:List Expr}{id:String}{a:FA}(hc:fj X (.builtin id) (rN X.K f))(hg:Gl X x)(hm:X.mg x=Y)(hv:bootBuiltins x=Z (.builtin id))(ha:XA X (e::es) a)(hn:autoParam (x≠"__name__") bu0)(hdb:autoParam ((x == ("__debug__":Str))=J) bu0)(he:autoParam (dJ (e::es) X.env=(J,eval e X.env)::dJ es X.env) au0)(hpl:autoParam ((backTo pos (dJ es X.env)).any (·.1)=J) au0):XE X (.Call (.Name x p) (e::es) [] pos) (mN f a):=⟨Au (hc:=hc) (hg:=hg) (hm:=hm) (hv:=hv) (ha:=ha.h) (hn:=hn) (hdb:=hdb) (he:=he) (hpl:=hpl)⟩
theorem qE {x:Str}{p pos:Pos}{e:Expr}{es:List Expr}{T:String}{a:FA}(hc:fj X (.type T) (rN X.K f))(hg:Gl X x)(hm:X.mg x=Y)(hv:bootBuiltins x=Z (.type T))(ha:XA X (e::es) a)(hn:autoParam (x≠"__name__") bu0)(hdb:autoParam ((x == ("__debug__":Str))=J) bu0)(he:autoParam (dJ (e::es) X.env=(J,eval e X.env)::dJ es X.env) au0)(hpl:autoParam ((backTo pos (dJ es X.env)).any (·.1)=J) au0):XE X (.Call (.Name x p) (e::es) [] pos) (mN f a):=⟨xY (hc:=hc) (hg:=hg) (hm:=hm) (hv:=hv) (ha:=ha.h) (hn:=hn) (hdb:=hdb) (he:=he) (hpl:=hpl)⟩
end
section
variable{x y c:Expr}{rest:List Expr}{pos:Pos}{a b:FT}{f g:FE}
theorem qX{op:CmpOp}{f:FN}{a b:FE}(ho:gt X (compareOp op) (r2 X.K f))(hx:XE X x a)(hy:XE X y b)(hm:behindInMarks op y=J):XT X (.Compare x [op] [y] pos) (mB (m2 f a b)):=⟨Fs (ho:=ho) (hx:=hx.h) (hy:=hy.h) (hm:=hm)⟩
theorem iB(ha:XT X x a):XW X (.BoolOp .And [x] pos) a:=⟨CA (ha:=ha.h)⟩
theorem vP(ha:XT X x a):XW X (.BoolOp .Or [x] pos) a:=⟨Fo (ha:=ha.h)⟩
theorem iN(ha:XT X x a)(hb:XW X (.BoolOp .And (y::rest) pos) b):XW X (.BoolOp .And (x::y::rest) pos) (oX a b):=⟨Fp (ha:=ha.h) (hb:=hb.h)⟩
theorem y2(ha:XT X x a)(hb:XW X (.BoolOp .Or (y::rest) pos) b):XW X (.BoolOp .Or (x::y::rest) pos) (HJ a b):=⟨HC (ha:=ha.h) (hb:=hb.h)⟩
theorem l9(h:XW X x a):XT X x a:=⟨JL (h:=h.h)⟩
theorem vQ(ha:XT X x a):XT X (.UnaryOp .Not x pos) (Ax a):=⟨Fq (ha:=ha.h)⟩
theorem jd(hc:XT X c a)(hx:XE X x f)(hy:XE X y g):XE X (.IfExp c x y pos) (mIf a f g):=⟨HH (hc:=hc.h) (hx:=hx.h) (hy:=hy.h)⟩
end
section
variable{x y z:Expr}{pos:Pos}{f g:FN}{a b c:FE}{op op':CmpOp}
end
section
variable{pos:Pos}{e c:Expr}{st:dR}{rest as bs:List dR}{a b:FS}{m:FE}{t:FT}
theorem qQ:vH X [] nY:=⟨CC⟩
theorem qF(h1:XS X st a)(h2:vH X rest b):vH X (st::rest) (d6 a b):=⟨An (h1:=h1.h) (h2:=h2.h)⟩
theorem qG(h1:XS X st a):vH X [st] a:=⟨CB (h1:=h1.h)⟩
theorem kw(h:XE X e m)(hs:autoParam (swapsWith e Y pos.line X.env=pure J) au0):XS X (.Expr e pos) (fM m):=⟨CD (h:=h.h) (hs:=hs)⟩
theorem qU(h:XE X e m):XS X (.Return (Z e) pos) (eS m):=⟨Fu (h:=h.h)⟩
theorem qV(hc:XT X c t)(ha:vH X as a)(hb:vH X bs b):XS X (.If c as bs pos) (gj t a b):=⟨HD (hc:=hc.h) (ha:=ha.h) (hb:=hb.h)⟩
end
section
variable{pos:Pos}
theorem qO(i:Nat){x:Str}(hN:X.N.Nodup)(hi:X.N[i]?=Z x)(hx:vM X.env.scope x)(hf:autoParam (X.fn x=M\/X.env.scope.names.lookup x=Z .local) au0):XG X (.Name x pos) (gN i):=⟨CM (i:=i) (hN:=hN) (hi:=hi) (hx:=hx) (hf:=hf)⟩
theorem gb:Jc X [] gNl:=⟨CL⟩
theorem eh{e:Expr}{es:List Expr}{g:FG}{a:By}(h1:XG X e g)(h2:Jc X es a)(hs:autoParam ((assignEach (e::es) X.env).map (·.2)=assign e X.env::(assignEach es X.env).map (·.2)) au0):Jc X (e::es) (gCs g a):=⟨Aq (h1:=h1.h) (h2:=h2.h) (hs:=hs)⟩
theorem gJ{es:List Expr}{k:Nat}{a:By}{n:Nat}(hc:X.calm=M)(h:Jc X es a)(hn:autoParam ((assignEach es X.env).length=n) au0)(hst:autoParam ((assignEach es X.env).findIdx? (·.1)=Y) au0):XG X (.Tuple es k pos) (gT n a):=⟨FD (hc:=hc) (h:=h.h) (hn:=hn) (hst:=hst)⟩
theorem kA{o i:Expr}{a b:FE}{f:FN}(ho:XE X o a)(hi:XE X i b)(hs:vL X (rU X.K f))(ha:autoParam (∀ v,assign (.Subscript o i pos) X.env v=(do
   let ov<-holding [v] (eval o X.env)
   let iv<-holding [v,ov] (eval i X.env)
   standAt pos
   holding [v,ov,iv] (setItem ov iv v)
   release [v,ov,iv] [])) du0):XG X (.Subscript o i pos) (gS f a b):=⟨FF (ho:=ho.h) (hi:=hi.h) (hs:=hs) (ha:=ha)⟩
theorem qR{tg e:Expr}{m:FE}{g:FG}(he:XE X e m)(hg:XG X tg g)(hs:autoParam (swapsWithSole [tg] e pos.line X.env=pure J) au0)(hw:autoParam (swappedStores [tg] e X.env=pure Y) au0)(h1:autoParam ((assignEach [tg] X.env).map (·.2)=[assign tg X.env]) au0):XS X (.Assign [tg] e pos) (ea m g):=⟨Fx (he:=he.h) (hg:=hg.h) (hs:=hs) (hw:=hw) (h1:=h1)⟩
theorem qY(i:Nat){x:Str}{e:Expr}{m:FE}{pos':Pos}(hN:X.N.Nodup)(hi:X.N[i]?=Z x)(hx:vM X.env.scope x)(he:XE X e m)(hs:autoParam (swapsWith e (Z (.Name x pos')) pos.line X.env=pure J) au0)(hf:autoParam (X.fn x=M\/X.env.scope.names.lookup x=Z .local) au0):XS X (.Assign [.Name x pos'] e pos) (ea m (gN i)):=⟨Ft (i:=i) (hN:=hN) (hi:=hi) (hx:=hx) (he:=he.h) (hs:=hs) (hf:=hf)⟩
theorem BN(i:Nat){x:Str}{e:Expr}{m:FE}{op:Operator}{f:FN}{pos':Pos}(hN:X.N.Nodup)(hi:X.N[i]?=Z x)(hx:vM X.env.scope x)(he:XE X e m)(ho:Je X op (r2 X.K f))(hf:autoParam (X.fn x=M\/X.env.scope.names.lookup x=Z .local) au0):XS X (.AugAssign (.Name x pos') op e pos) (CT i f m):=⟨Fw (i:=i) (hN:=hN) (hi:=hi) (hx:=hx) (he:=he.h) (ho:=ho) (hf:=hf)⟩
end
section
theorem lH{X:Cx}{pos:Pos}(n:Nat){c:Expr}{a:List dR}{t:FT}{b:FS}(hp:PassesOwn (model X.prog X.w) X.A X.env X.xe)(hc:XT X c t)(hb:vH X a b):XS X (.While c a [] pos) (sx t b n):=⟨Ao (n:=n) (hp:=hp) (hc:=hc.h) (hb:=hb.h)⟩
theorem qW{X:Cx}{pos:Pos}{tg iter:Expr}{a:List dR}{m:FI}{g:FG}{b:FS}(hp:PassesOwn (model X.prog X.w) X.A X.env X.xe)(hc:X.calm=M)(hi:XI X tg iter m)(hg:XG X tg g)(hb:vH X a b)(hs:autoParam (∀x,foldedSetIterable iter X.env x=pure x) du0):XS X (.For tg iter a [] pos) (hH m g b):=⟨Fv (hp:=hp) (hc:=hc) (hi:=hi.h) (hg:=hg.h) (hb:=hb.h) (hs:=hs)⟩
end
section
variable{es:List Expr}{pos:Pos}{a:FA}
theorem dY{x1}(h:XA X es a):XE X (.Tuple es x1 pos) (eD a):=⟨FJ (h:=h.h)⟩
theorem gK(h:XA X es a):XE X (.List es pos) (kg a):=⟨FP (h:=h.h)⟩
end
section
variable{tg:Expr}
theorem qd{e:Expr}{m:FE}(h:XE X e m):XI X tg e (hK m):=⟨FC (h:=h.h)⟩
theorem uP {a:Expr}{m:FA}{p pos:Pos}(hg:Gl X "range")(hm:X.mg "range"=Y)(ha:XA X [a] m)(hs:autoParam (dJ [a] X.env=[(J,eval a X.env)]) au0):XI X tg (.Call (.Name "range" p) [a] [] pos) (t5 m):=⟨xW (hg:=hg) (hm:=hm) (ha:=ha.h) (hs:=hs)⟩
theorem uO {a b:Expr}{m:FA}{p pos:Pos}(hg:Gl X "range")(hm:X.mg "range"=Y)(ha:XA X [a,b] m)(hs:autoParam (dJ [a,b] X.env=[(J,eval a X.env),(J,eval b X.env)]) au0)(hs2:autoParam (dJ [b] X.env=[(J,eval b X.env)]) au0):XI X tg (.Call (.Name "range" p) [a,b] [] pos) (HX m):=⟨xV (hg:=hg) (hm:=hm) (ha:=ha.h) (hs:=hs) (hs2:=hs2)⟩
end
section
variable{tg:Expr}
variable{elts:List Expr}{k:Nat}{tpos:Pos}
theorem y3 {a:Expr}{m:FA}{p pos:Pos}(hg:Gl X "enumerate")(hm:X.mg "enumerate"=Y)(ha:XA X [a] m)(hs:autoParam (dJ [a] X.env=[(J,eval a X.env)]) au0):XI X (.Tuple elts k tpos) (.Call (.Name "enumerate" p) [a] [] pos) (GO m):=⟨CK (hg:=hg) (hm:=hm) (ha:=ha.h) (hs:=hs)⟩
theorem kx {a b:Expr}{m:FA}{p pos:Pos}(hg:Gl X "zip")(hm:X.mg "zip"=Y)(ha:XA X [a,b] m)(hs:autoParam (dJ [a,b] X.env=[(J,eval a X.env),(J,eval b X.env)]) au0)(hs2:autoParam (dJ [b] X.env=[(J,eval b X.env)]) au0):XI X (.Tuple elts k tpos) (.Call (.Name "zip" p) [a,b] [] pos) (BG m):=⟨FB (hg:=hg) (hm:=hm) (ha:=ha.h) (hs:=hs) (hs2:=hs2)⟩
end
section
variable{ag:List (dE×Obj)}{σ:L2.St}{H:Hp}{s:dD}{mu:List dE}{S:Sto}{K:Fg1}
end
theorem sD:XO X Y j5:=⟨CH⟩
theorem sC{e:Expr}{m:FE}(h:XE X e m):XO X (Z e) (mx m):=⟨CG (h:=h.h)⟩
theorem uQ {a:Expr}{m:FA}{d p2 b c:Pos}(hc:X.calm=M)(hg:Gl X "range")(hm:X.mg "range"=Y)(hg2:Gl X "list")(hm2:X.mg "list"=Y)(ha:XA X [a] m)(hs:autoParam (dJ [a] X.env=[(J,eval a X.env)]) au0)(hs2:autoParam (dJ [.Call (.Name "range" d) [a] [] b] X.env=[(J,eval (.Call (.Name "range" d) [a] [] b) X.env)]) au0):XE X (.Call (.Name "list" p2) [.Call (.Name "range" d) [a] [] b] [] c) (Az m):=⟨xX (hc:=hc) (hg:=hg) (hm:=hm) (hg2:=hg2) (hm2:=hm2) (ha:=ha.h) (hs:=hs) (hs2:=hs2)⟩
theorem qe {o e:Expr}{es:List Expr}{m:FE}{a:FA}{f:FN}{name:Str}{apos cpos:Pos}{id:String}(slot:Slot "list" name id)(hty:typeOf (.builtin id)=pure (.type "method_descriptor"))(hm:D6 X id (λx xs H Q=>rN X.K f (x::xs) H Q))(ho:XE X o m)(ha:XA X (e::es) a)(hbase:autoParam (attributeBase o name X.env (eval o X.env)=eval o X.env) au0)(hfew:autoParam (((backTo cpos (dJ (e::es) X.env)).all (λx=> !x.1)&&(backToKw cpos (keywordEach [] X.env)).all (λx=>x.1.isSome)&&decide ((e::es).length+([]:List Keyword).length+(if([]:List Keyword).isEmpty then 0 else 1)<30))=M) au0)(hline:autoParam ((apos.endLine == cpos.line)=M) au0)(hs:autoParam (dJ (e::es) X.env=(J,eval e X.env)::dJ es X.env) au0)(hplain:autoParam ((backTo cpos (dJ es X.env)).any (·.1)=J) au0):XE X (.Call (.Attribute o name apos) (e::es) [] cpos) (pP f m a):=⟨At (slot:=slot) (hty:=hty) (hm:=hm) (ho:=ho.h) (ha:=ha.h) (hbase:=hbase) (hfew:=hfew) (hline:=hline) (hs:=hs) (hplain:=hplain)⟩
theorem KG (i:Nat){x:Str}{pos:Pos}(hN:autoParam (X.N[i]?=Z x) au0)(hv:autoParam (Vis X.env.scope x) au0)(hd:autoParam ((x == ("__debug__":Str))=J) bu0)(hcd:autoParam ((x == ("__classdict__":Str))=J) bu0):XE X (.Name x pos) (mV i):=⟨mv (i:=i) (hN:=hN) (hv:=hv) (hd:=hd) (hcd:=hcd)⟩
section
theorem qH {X:Cx}{k k' n:Nat}{x:Str}{m:FN}{p pos:Pos}{e:Expr}{es:List Expr}{a:FA}(h:fI X.prog X.w X.K X.mg X.base k x n m)(hr:fR k' X.A)(hk:k<=k')(hg:Gl X x)(ha:XA X (e::es) a)(hdb:autoParam ((x == ("__debug__":Str))=J) bu0)(he:autoParam (dJ (e::es) X.env=(J,eval e X.env)::dJ es X.env) au0)(hpl:autoParam ((backTo pos (dJ es X.env)).any (·.1)=J) au0):XE X (.Call (.Name x p) (e::es) [] pos) (mN (dZ n m) a):=⟨FL (h:=h) (hr:=hr) (hk:=hk) (hg:=hg) (ha:=ha.h) (hdb:=hdb) (he:=he) (hpl:=hpl)⟩
theorem y4 {X:Cx}{x:Str}{d:D}{pos:Pos}(h:CGl X.K X.mg x d)(hg:Gl X x)(hd:autoParam ((x == ("__debug__":Str))=J) bu0):XE X (.Name x pos) (mC d):=⟨CN (h:=h) (hg:=hg) (hd:=hd)⟩
end
structure Jd (X:Cx)(K:Fg1)(tg:Expr)(ifs:List Expr)(elt:Expr)(g:FG)(t:FT)(e:FE):Prop where
 g:XG X tg g
 t:XF X K ifs t
 e:XE X elt e
theorem BM{P:dF}{w:dH}{K:Fg1}{mg:Str->Option dB}{base:dP}{x c:Str}{st:dR}{f:dE}{fd:dQ}{N ps:List Str}{k n:Nat}{b:FS}(F:yX K x c st f fd)(hb:lG K fd ps [])(hm:mg x=some (.ref f))(S:gu N ps (ev st))(hn:ps.length=n)(e:∀(d:dB) (A:dG) (a:List Env) (s:dD) (H:Hp) (E:XK),fR k (A.deeper (envOfC c (ev st) s.heap.objs.size f d)) ->
   vH (mS uI P w K mg base N c (ev st) f d A a s H E).nox (fB st) b):fI P w K mg base (k+1) x n (iy N.length b):=
 Fa F hb hm S hn λd A a s H E g=>(e d A a s H E g).h
theorem D8{P:dF}{w:dH}{K:Fg1}{mg:Str->Option dB}{base:dP}{x c:Str}{st:dR}{f:dE}{fd:dQ}{N ps:List Str}{k n:Nat}{b:FS}(F:yX K x c st f fd)(S:gu N ps (ev st))(hn:ps.length=n)(e:∀(d:dB) (A:dG) (a:List Env) (s:dD) (H:Hp) (E:XK),fR k (A.deeper (envOfC c (ev st) s.heap.objs.size f d)) ->
   vH (mS uI P w K mg base N c (ev st) f d A a s H E).nox (fB st) b):l8 P w K mg base uI (k+1) f fd ps (BA K n (iy N.length b)):=by
 subst hn;exact Ie F S λd A a s H E g=>(e d A a s H E g).h
abbrev FV:=Ev->Sto->Option (List D×Ev×Sto)
noncomputable def fX (c:List (Nat×List D))(g:FG)(t:FT)(b:FV):List D->FV
 |[]=>λr S=>if oW S c=true then some ([],r,S)else none
 |d::ds=>λr S=>if oW S c=true then(g d r S).bind λp=>(t p.1 p.2).bind λk=>if k.1=true then(b p.1 k.2).bind λq=>(fX c g t b ds q.2.1 q.2.2).map λz=>(q.1++z.1,z.2)else fX c g t b ds p.1 k.2 else none
noncomputable def eJ (m:FE):FV:=λr S=>(m r S).map λq=>([q.1],r,q.2)
noncomputable def eQ (k:Nat)(keep:List Nat)(m:FI)(g:FG)(t:FT)(b:FV):FE:=λr S=>(m r S).bind λp=>
 (fX p.1.chk g t b p.1.items (oZ k keep r) p.2).bind λq=>if q.1.length<=dL then some (.ref q.2.2.length,q.2.2++[.lst q.1])else none
section
variable{K:Fg1}{H H' H1:Hp}{mu mu' mu1:List dE}{S:Sto}{a:dE}
theorem Ext.aside(x:Ext mu mu' H H'):Ext (a::mu) (a::mu') H H' where
 pre:=bW.mpr ⟨O,x.pre⟩
 old:=λb o h n=>x.old b o h λz=>n (mC1 _ z)
 tup:=x.tup
 frz:=x.frz
 new:=λb h=>by
  rcases aF.mp h with h|h
  ·exact .inl (by rw[h];exact mS1)
  ·rcases x.new b h with q|q
   ·exact .inl (mC1 _ q)
   ·exact .inr q
theorem Ext.inner(x:Ext (a::mu) (a::mu') H H'):sA mu mu' H H':=⟨(bW.mp x.pre).2,x.tup,x.frz⟩
theorem Ext.held{o:HO}(x:Ext mu mu' H H')(ha:H a=Z o)(hn:a∉mu):H' a=Z o/\a∉mu':=by
 refine⟨x.old a o ha hn,λz=>?_⟩;rcases x.new a z with q|q
 ·exact hn q
 ·rw[ha]at q;cases q
theorem fH.exw{r:Ev}{σ:L2.St}(e:sA mu mu' H H')(h:fH K H mu r σ):fH K H' mu' r σ:=⟨h.len,λi d q=>by
 obtain⟨v,b,a⟩:=h.val i d q;exact⟨v,b,a.exw e⟩⟩
theorem l7.exw{b:dE}(e:sA mu mu' H H')(h:∀o,H b=Z o->H' b=Z o):∀{o:Ob},l7 K H mu b o->l7 K H' mu' b o
 | .lst _,⟨vs,q,r⟩=>⟨vs,h _ q,r.exw e⟩
 | .dct _,⟨ws,q,r⟩=>⟨ws,h _ q,Paired.mapP r λ_ _ z=>⟨z.1,z.2.exw e⟩⟩
 | .dcT _,⟨ws,q,r,l⟩=>⟨ws,h _ q,Paired.mapP r λ_ _ ⟨z,d,k,v,a,r⟩=>⟨z,d,k.exw e,v,a,r.exw e⟩,l⟩
 | .iset _,q=>⟨h _ q.1,q.2⟩
 | .dcF _,⟨ws,⟨o,u,c,f⟩,r,l⟩=>⟨ws,⟨o,u,h _ c,f⟩,Paired.mapP r λ_ _ ⟨z,d,k,v,a,r⟩=>⟨z,d,k.exw e,v,a,r.exw e⟩,l⟩
 | .tst _,⟨ws,q,r⟩=>⟨ws,h _ q,Paired.mapP r λ_ _ ⟨z,d,k,v,a,r⟩=>⟨z,d,k.exw e,v,a,r.exw e⟩⟩
theorem Sim.aside{u:HO}(s:Sim K H mu S)(e:sA mu mu H (upd H a u))(hn:a∉mu):Sim K (upd H a u) mu S:=
 ⟨s.len,s.nd,λk o b h1 h2=>(s.ob k o b h1 h2).exw e λo' q=>by rw[d0 (λz=>hn (by rw[<- z];exact gM1 h2))];exact q⟩
end
inductive G6 (K:Fg1)(a:dE)(m:FV)(E:jH)(σ:L2.St)(H:Hp):Prop
 |mk (r:Ev) (mu:List dE) (S:Sto) (acc:List D) (vs:List V) (xs:List D) (r':Ev) (S':Sto):H a=some (.lst vs)->a∉mu->d5 K H mu acc vs->fH K H mu r σ->Sim K H mu S->m r S=some (xs,r',S')->vs.length+xs.length<=dL ->
 (∀ σ' H' mu' vs',Ext (a::mu) (a::mu') H H'->H' a=some (.lst vs')->a∉mu'->d5 K H' mu' (acc++xs) vs'->fH K H' mu' r' σ'->Sim K H' mu' S'->E.nx σ' H')->G6 K a m E σ H
theorem ox{K:Fg1}{a:dE}{m:FE}{E:jH}{σ:L2.St}{H:Hp}(h:G6 K a (eJ m) E σ H):sL a (tM K m) E σ H:=by
 obtain⟨r,mu,S,t,vs,xs,w,u,k,g,j,i,l,f,p,hc⟩:=h;obtain⟨⟨d,q⟩,o,f⟩:=oM1.mp f;cases f;refine⟨r,mu,S,d,q,i,l,o,λv H1 mu1 e n s=>?_⟩;obtain⟨b,c⟩:=e.held k g;have put:Ext (a::mu1) (a::mu1) H1 (upd H1 a (.lst (vs++[v]))):=Ext.put b trivial mS1;refine⟨vs,b,p,?_⟩;exact hc σ _ mu1 (vs++[v]) (e.aside.trans put) d9 c (((j.ext e).append (.cons n .nil)).exw put.inner) ((i.ext e).exw put.inner) (s.aside put.inner c)
inductive Kg (K:Fg1)(a:dE)(mu2:List dE)(H:Hp)(c:List (Nat×List D))(g:FG)(t:FT)(b:FV)(r':Ev)(S':Sto)(tot:List D)(L:List D)(σ':L2.St)(H':Hp):Prop
 |mk (r3:Ev) (mu3:List dE) (S3:Sto) (acc3:List D) (vs3:List V) (xs3:List D):Ext (a::mu2) (a::mu3) H H'->H' a=some (.lst vs3)->a∉mu3->d5 K H' mu3 acc3 vs3->fH K H' mu3 r3 σ'->Sim K H' mu3 S3->fX c g t b L r3 S3=some (xs3,r',S')->acc3++xs3=tot->vs3.length+xs3.length<=dL->Kg K a mu2 H c g t b r' S' tot L σ' H'
theorem tQ{K:Fg1}{a:dE}{j:It}{am:Bx}{g:FG}{t:FT}{b:FV}{tb:TS}{D:jH}(hb:∀ E σ H,G6 K a b E σ H->tb E σ H){mu1 e:List dE}{H1 H:Hp}{r ao:Ev}{S G:Sto}{σ:L2.St}{acc xs:List Mi.D}{vs:List V}(hJ:ItR K j am mu1 H1)(x:sA mu1 e H1 H)(ha:H a=Z (.lst vs))(hna:a∉e)(hr:d5 K H e acc vs)(he:fH K H e r σ)(hs:Sim K H e S)(hm:fX am.chk g t b am.items r S=Z (xs,ao,G))(hl:vs.length+xs.length<=dL)(hc:∀l H' mu' B,Ext (a::e) (a::mu') H H'->H' a=Z (.lst B)->a∉mu'->d5 K H' mu' (acc++xs) B->fH K H' mu' ao l->Sim K H' mu' G->D.nx l H'):DK j (Eo K g) (zl K t) tb D σ H:=by
 refine⟨λi k l H'=>k=(am.items.drop i).length/\Kg K a e H am.chk g t b ao G (acc++xs) (am.items.drop i) l H',
  ⟨_,O,r,e,S,acc,vs,xs,.refl _ _,ha,hna,hr,he,hs,hm,O,hl⟩,?_⟩
 rintro i k σ3 H3 ⟨rfl,r3,m,S3,f,vs3,xs3,I,u,A,v,s,W,c,q,h⟩;cases hd0:am.items.drop i with
 |nil=>
  left;rw[hd0,fX]at c;dsimp only at c;split at c
  ·rename_i ok;cases c;refine⟨(hJ i H3 m _ (x.trans I.inner) W ok).2 (List.drop_eq_nil_iff.mp hd0),hc σ3 H3 m vs3 I u A ?_ s W⟩;rw[<- q,aM];exact v
  ·cases c
 |cons d ds=>
  right;rw[hd0]at c;obtain⟨hi,hd⟩:=mG hd0;rw[fX]at c;dsimp only at c;split at c
  ·rename_i ok;obtain⟨⟨N,S4⟩,e4,c⟩:=oB1.mp c;obtain⟨⟨k5,U⟩,e5,c⟩:=oB1.mp c;obtain⟨go,yl⟩:=(hJ i H3 m _ (x.trans I.inner) W ok).1 d hi;refine⟨go,Kg K a e H am.chk g t b ao G (acc++xs) ds,?_,λy H4 yy=>?_⟩
   ·intro l H' h6;exact⟨ds.length,bC _,(congrArg List.length hd).symm,hd.symm ▸ h6⟩
   ·obtain⟨L,s4,q4⟩:=yl y H4 yy;obtain⟨R,hn4⟩:=L.held u A;refine⟨r3,m,S3,d,N,S4,s.ext L,s4,q4,e4,fun σ5 H5 wq X o s5=>?_⟩;obtain⟨T,aq⟩:=X.held R hn4;refine⟨N,wq,S4,k5,U,o,s5,e5,λH6 n C s6=>?_⟩;obtain⟨z,F⟩:=C.held T aq;have xx:=((I.trans L.aside).trans X.aside).trans C.aside;have p:d5 K H6 n f vs3:=((v.ext L).ext X).ext C;cases k5 with
    |true=>
     obtain⟨⟨q1,r7,S7⟩,e7,c⟩:=oB1.mp c;obtain⟨⟨z1,r8,S8⟩,e8,c⟩:=oM1.mp c;cases c;refine hb _ _ _ ⟨N,n,U,f,vs3,q1,r7,S7,z,F,p,o.ext C,s6,e7,?_,fun σ8 H8 mu8 vs8 x8 au Q w P s8=>⟨r7,mu8,S7,f++q1,vs8,z1,xx.trans x8,au,Q,w,P,s8,e8,?_,?_⟩⟩
     ·rw[lA1]at h;dsimp only at h;lia
     ·rw[<- q,bG]
     ·have:=w.length;have h3:=p.length;rw[lA1]at this h;dsimp only at h;lia
    |false=>exact⟨N,n,U,f,vs3,xs3,xx,z,F,p,o.ext C,s6,c,q,h⟩
  ·cases c
theorem uw{K:Fg1}{k:Nat}{keep:List Nat}{m:FI}{g:FG}{t:FT}{b:FV}{tb:dE->TS}(hb:∀ a E σ H,G6 K a b E σ H->tb a E σ H){σ:L2.St}{H:Hp}{Q:VK}(h:tM K (eQ k keep m g t b) σ H Q):
  v6 k keep (Jo K m) (Eo K g) (zl K t) tb σ H Q:=by
 obtain⟨r,mu,S,d,aq,F,R,f,hc⟩:=h;obtain⟨⟨am,X⟩,U,f⟩:=oB1.mp f;obtain⟨⟨xs,r2,N⟩,T,f⟩:=oB1.mp f;dsimp only at f;split at f
 ·rename_i W;cases f;refine ⟨r,mu,S,am,X,F,R,U,fun j H1 mu1 L V ao p i=>?_⟩;have w:Ext mu1 mu1 H1 (upd H1 p (.lst [])):=Ext.fresh i;refine tQ (hb p) V w.w d9 (ao.notin i) .nil ((DU k keep (F.ext L)).ext w) (ao.fresh i) T (by simpa using W) fun P H' mu' s l D A x au s'=>?_;have y:Ext mu1 (mu'++[p]) H1 H':=by
   refine⟨((bW.mp l.pre).2).trans (bu _ _),λb o e n=>?_,λb ys e=>l.tup b ys (w.tup b ys e),λb o u e=>l.frz b o u (w.frz b o u e),λb C=>?_⟩
   ·have G:b≠p:=eI e i;exact l.old b o (by rw [d0 G];exact e) fun z=>by
     rcases aF.mp z with z|z
     ·exact G z
     ·exact n z
   ·rcases aG.mp C with z|z
    ·rcases l.new b (mC1 _ z)with q|q
     ·rcases aF.mp q with q|q
      ·exact .inr (by rw[q];exact i)
      ·exact .inl q
     ·by_cases v:b=p
      ·exact .inr (by rw[v];exact i)
      ·rw[d0 v]at q;exact .inr q
    ·have:b=p:=by simpa using z
     exact .inr (by rw[this];exact i)
  refine hc _ H' (mu'++[p]) (L.trans y) (.ref (gf s'.len p)) ⟨by rw[lA1,lA1,s'.len];rfl,?_,λn o b h1 h2=>?_⟩
  ·rw[bw];refine⟨s'.nd,by simp,λb hb c hc e=>?_⟩;have:c=p:=by simpa using hc
   subst this;subst e;exact A hb
  ·by_cases I:n<N.length
   ·rw[gL1 I]at h1;rw[gL1 (by rw[s'.len];exact I)]at h2;exact(s'.ob n o b h1 h2).mor [p]
   ·have B:n=N.length:=by
     have:=(gE1.mp h1).1;rw[lA1]at this;simp at this;lia
    subst B;rw[gR1 (nR1 _)]at h1;rw[<- s'.len,gR1 (nR1 _)]at h2;simp at h1 h2;subst h1;subst h2;exact⟨s,D,(by simpa using x:d5 K H' mu' xs s).mor [p]⟩
 ·cases f
theorem qZ{elt tg iter:Expr}{ifs:List Expr}{scope:dS}{pos:Pos}{T:List Str}{keep:List Nat}{i:List (Str×dE)}{m:FI}{g:FG}{t:FT}{e:FE}(hc:X.calm=M)(C:GR X scope T keep)(c:jx X.env.cells scope.names []=Z i)(hi:XI X tg iter m)(hb:∀s H b,Jd (cxC X scope i T keep s H b) X.K tg ifs elt g t e)(hs:autoParam (∀x,foldedSetIterable iter X.env x=pure x) du0):XE X (.ListComp elt [⟨tg,iter,ifs,0⟩] scope pos) (eQ T.length keep m g t (eJ e)):=
 ⟨fy (wo (emit:=qf elt) (tb:=λp=>sL p (tM X.K e)) hc (λit f d=>uW elt tg iter ifs scope pos it f d) C c hi.h (λs H b p=>⟨(hb s H b).g.h,(hb s H b).t.h,rf (hb s H b).e.h p⟩) hs)
  fun σ H Q h=>uw (λa E σ H q=>ox q) h⟩
theorem gm{elt tg iter:Expr}{ifs:List Expr}{scope:dS}{pos b n:Pos}{y:Str}(i:Nat){T:List Str}{keep:List Nat}{l:List (Str×dE)}{m:FI}{g:FG}{t:FT}{e:FE}(hc:X.calm=M)(C:GR X scope T keep)(d:jx X.env.cells scope.names []=Z l)(hi:XI X tg iter m)(hb:∀s H c,Jd (cxC X scope l T keep s H c) X.K tg ifs elt g t e)(hN:X.N.Nodup)(hy:X.N[i]?=Z y)(hx:vM X.env.scope y)(j:autoParam (swapsWith (.ListComp elt [⟨tg,iter,ifs,0⟩] scope pos) (Z (.Name y n)) b.line X.env=pure M) au0)(hf:autoParam (X.fn y=M\/X.env.scope.names.lookup y=Z .local) au0)(hs:autoParam (∀x,foldedSetIterable iter X.env x=pure x) du0):XS X (.Assign [.Name y n] (.ListComp elt [⟨tg,iter,ifs,0⟩] scope pos) b) (ea (eQ T.length keep m g t (eJ e)) (gN i)):=
 ⟨iw (Cd (emit:=qf elt) (tb:=λp=>sL p (tM X.K e)) hc j (λit k f=>uW elt tg iter ifs scope pos it k f) C d hi.h (λs H c p=>⟨(hb s H c).g.h,(hb s H c).t.h,rf (hb s H c).e.h p⟩) hN hy hx hf hs)
  λE σ H h=>GA (fun σ H Q q=>uw (λa E σ H q=>ox q) q) h⟩
noncomputable def tT:D->Option Key
 | .int i=>Z (.inl i)
 | .str x=>Z (.inr x)
 |_=>Y
noncomputable def d3{κ:Type}[DecidableEq κ](kvs:List (κ×D))(k:κ):Option D:=(kvs.find? λp=>decide (p.1=k)).map (·.2)
noncomputable def e6{κ:Type}[DecidableEq κ](kvs:List (κ×D))(k:κ)(d:D):List (κ×D):=
 if(kvs.any λp=>decide (p.1=k))=M then kvs.map (λp=>if p.1=k then(p.1,d)else p)else kvs++[(k,d)]
section
variable{K:Fg1}{H:Hp}{mu:List dE}
theorem k8{d:D}{v:V}{k:Key}(r:eO K H mu d v)(h:tT d=Z k):v=kV k:=by
 cases r with
 |int i=>cases h;rfl
 |str x=>cases h;rfl
 |_=>cases h
end
section
variable{κ:Type} [DecidableEq κ] {K:Fg1}{H:Hp}{mu:List dE}
theorem KR.length:∀{ks:List (κ×D)} {ws:List (κ×V)},KR K H mu ks ws->ks.length=ws.length:=λh=>Paired.length h
theorem KR.look{k:κ}:∀ {ks:List (κ×D)} {ws:List (κ×V)},KR K H mu ks ws ->
  (∀d,d3 ks k=Z d -> ∃v,iO ws k=Z v/\eO K H mu d v)/\(d3 ks k=Y->iO ws k=Y):=by
 intro ks ws h
 induction h with
 |nil=>exact⟨λd h=>by simp[d3]at h,λ_=>rfl⟩
 | @cons p q ks ws r t ih=>
  obtain⟨b,c⟩:=p;obtain⟨j,f⟩:=q;obtain⟨e,r⟩:=r;dsimp only at e r;subst e;obtain⟨h1,h2⟩:=ih;by_cases a:b=k
  ·subst a;refine⟨λd h=>?_,λh=>?_⟩
   ·have:c=d:=by simpa[d3]using h
    subst this;exact⟨f,by simp[iO],r⟩
   ·simp[d3]at h
  ·have i:d3 ((b,c)::ks) k=d3 ks k:=by simp[d3,aZ,a]
   have g:iO ((b,f)::ws) k=iO ws k:=by simp[iO,aZ,a]
   rw[i,g];exact⟨h1,h2⟩
theorem KR.any{k:κ}:∀{ks:List (κ×D)} {ws:List (κ×V)},KR K H mu ks ws->(ks.any λp=>decide (p.1=k))=ws.any λp=>decide (p.1=k):=by
 intro ks ws h
 induction h with
 |nil=>rfl
 |cons r t ih=>rw[a0,a0,ih,r.1]
theorem KR.repl{k:κ}{d:D}{v:V}(q:eO K H mu d v):∀ {ks:List (κ×D)} {ws:List (κ×V)},KR K H mu ks ws ->
  KR K H mu (ks.map λp=>if p.1=k then(p.1,d)else p) (ws.map λp=>if p.1=k then(p.1,v)else p):=by
 intro ks ws h
 induction h with
 |nil=>exact .nil
 | @cons a b ks ws r t ih=>
  refine .cons ?_ ih;obtain⟨e,r⟩:=r;dsimp only;by_cases h:a.1=k
  ·rw[ak h,ak (e ▸ h)];exact⟨e,q⟩
  ·rw[aj h,aj (e ▸ h)];exact⟨e,r⟩
theorem KR.snoc{k:κ}{d:D}{v:V}(q:eO K H mu d v):∀{ks:List (κ×D)} {ws:List (κ×V)},KR K H mu ks ws->KR K H mu (ks++[(k,d)]) (ws++[(k,v)]):=by
 intro ks ws h
 induction h with
 |nil=>exact .cons ⟨O,q⟩ .nil
 |cons r t ih=>exact .cons r ih
theorem KR.put{k:κ}{d:D}{v:V}(q:eO K H mu d v){ks:List (κ×D)}{ws:List (κ×V)}(h:KR K H mu ks ws):KR K H mu (e6 ks k d) (iG ws k v):=by
 unfold e6 iG;rw[h.any];split
 ·exact h.repl q
 ·exact h.snoc q
end
def ua:G2:=λd e S=>match e with
 | .ref n=>match S[n]? with
  |some (.dct kvs)=>(tT d).map λk=>(.bl (d3 kvs k).isSome,S)
  |_=>Gd d e S
 |_=>Gd d e S
def i3:G2:=λd e S=>match e with
 | .ref n=>match S[n]? with
  |some (.dct kvs)=>(tT d).map λk=>(.bl (!(d3 kvs k).isSome),S)
  |_=>lV d e S
 |_=>lV d e S
def mR:G2:=λd e S=>match d with
 | .ref n=>match S[n]? with
  |some (.dct kvs)=>(tT e).bind λk=>(d3 kvs k).map λx=>(x,S)
  |_=>BH d e S
 |_=>BH d e S
def mE:G3:=λo i v S=>match o with
 | .ref n=>match S[n]? with
  |some (.dct kvs)=>(tT i).bind λk=>if kvs.length<dL then Z (.non,S.set n (.dct (e6 kvs k v)))else Y
  |_=>kk o i v S
 |_=>kk o i v S
theorem nZ{K:Fg1}{H:Hp}{mu:List dE}{S:Sto}(hs:Sim K H mu S){n:Nat}{a:dE}{kvs:List (Key×D)}{k:Key}{y:V}(hn:mu[n]? = some a)(he:S[n]? = some (.dct kvs))(hy:y=kV k):
  ∃o:Option V,pk H a y o/\(∀d,d3 kvs k=Z d -> ∃v,o=Z v/\eO K H mu d v)/\(d3 kvs k=Y->o=Y)/\o.isSome=(d3 kvs k).isSome:=by
 obtain⟨ws,b,c⟩:=hs.dct he hn;subst hy;obtain⟨h1,h2⟩:=c.look (k:=k);refine⟨iO ws k,pk.k b,h1,h2,?_⟩;cases e:d3 kvs k with
 |none=>rw[h2 e];rfl
 |some d=>obtain⟨v,f,_⟩:=h1 d e;rw[f];rfl
theorem HA(p:X.A.units+64<cLine):gt X (compareOp .In) (r2 X.K (b2 ua)):=by
 intro ag s σ H x y u w Q I j l h;obtain⟨mu,S,d,e,r,f,i,b,c,a,hc⟩:=oN h;have back:Gd d e S=Z (r,f)->dM (model X.prog X.w) X.A (compareOp .In u w) (EP X ag σ Q) X.xe s:=λa=>JK p ag s σ H x y u w Q I j l ⟨mu,S,[d,e],r,f,.cons i (.cons b .nil),c,a,hc⟩;unfold ua at a;split at a
 ·rename_i n;split at a
  ·rename_i kvs q;obtain⟨k,t,a⟩:=oM1.mp a;cases a;cases b with
   |ref m=>
    cases l;obtain⟨o,g,_,_,hi⟩:=nZ c m q (k8 i t);exact JZ (by lia) I g j λs' v=>⟨.bl o.isSome,H,v,O,by rw[hi];exact hc.now (.bl _) c⟩
  ·exact back a
 ·exact back a
theorem Ae(p:X.A.units+64<cLine):gt X (compareOp .NotIn) (r2 X.K (b2 i3)):=by
 intro ag s σ H x y u w Q I j l h;obtain⟨mu,S,d,e,r,f,i,b,c,a,hc⟩:=oN h;have back:lV d e S=Z (r,f)->dM (model X.prog X.w) X.A (compareOp .NotIn u w) (EP X ag σ Q) X.xe s:=λa=>Cw p ag s σ H x y u w Q I j l ⟨mu,S,[d,e],r,f,.cons i (.cons b .nil),c,a,hc⟩;unfold i3 at a;split at a
 ·rename_i n;split at a
  ·rename_i kvs q;obtain⟨k,t,a⟩:=oM1.mp a;cases a;cases b with
   |ref m=>
    cases l;obtain⟨o,g,_,_,hi⟩:=nZ c m q (k8 i t);exact Do (by lia) I g j λs' v=>⟨.bl (!o.isSome),H,v,O,by rw[hi];exact hc.now (.bl _) c⟩
  ·exact back a
 ·exact back a
theorem GS(P:X.A.units+64<cLine):D7 X (r2 X.K (b2 mR)):=by
 intro value b ag s σ H x y v u Q I B w h j;obtain⟨mu,S,d,e,r,A,t,l,p,c,hc⟩:=oN h;have back:BH d e S=Z (r,A)->dM (model X.prog X.w) X.A (subscriptTail value b v u) (EP X ag σ Q) X.xe s:=λc=>Jg value b ag s σ H x y v u Q I B w ⟨mu,S,[d,e],r,A,.cons t (.cons l .nil),p,c,hc⟩ j;unfold mR at c;split at c
 ·rename_i n;split at c
  ·rename_i kvs ao;obtain⟨k,G,c⟩:=oB1.mp c;obtain⟨z,au,c⟩:=oM1.mp c;cases c;cases t with
   | @ref _ a F=>
    cases B;obtain⟨o,g,h1,_,_⟩:=nZ p F ao (k8 l G);obtain⟨L,D,E⟩:=h1 _ au;subst D;have C:=uo I g;unfold subscriptTail;refine wB1 ?_;rw[getitemInPython_of_ne C.not_modules];refine wB1 (wpAny_specialOf C PySem.F.slot_dict_getitem.lookup ?_);have i:dM (model X.prog X.w) X.A (subscripted b J (.ref a) u) (λr f=>dM (model X.prog X.w) X.A (letTemporaryGo value (.ref a) r >>= λ_=>pure r) (EP X ag σ Q) X.xe f) X.xe s:=by
     rw[j];exact wpAny_operating (wpAny_mono (yz (by lia) I g w λam K N q=>(⟨L,H,N,q,hc.now E p⟩:EP X ag σ Q am K)) (λr f m=>wB1 (wpAny_letTemporaryGo (wP1 m))) λ_ _ x=>x)
    first
     |exact wP1 (wB1 i)
     |exact wB1 i
     |exact i
  ·exact back c
 ·exact back c
theorem EF(L:X.A.units+64<cLine):vL X (rU X.K (b3 mE)):=by
 intro ag s σ H o i v m y u Q I w t l h;obtain⟨mu,S,ds,d,p,B,c,a,hc⟩:=id h;cases B with
 |cons x am=>cases am with
  |cons f A=>cases A with
   |cons z G=>
    cases G;rename_i q r g;dsimp only[b3]at a;have back:kk q r g S=Z (d,p)->dM (model X.prog X.w) X.A (setItem m y u) (λ_ s'=>∃H',Inv X ag σ H' s'/\Q H') X.xe s:=λa=>He ag s σ H o i v m y u Q I w t l ⟨mu,S,[q,r,g],d,p,.cons x (.cons f (.cons z .nil)),c,a,hc⟩;unfold mE at a;split at a
    ·rename_i n;split at a
     ·rename_i kvs E;obtain⟨k,C,a⟩:=oB1.mp a;split at a
      ·rename_i K;cases a;cases x with
       |ref b=>
        cases w;obtain⟨ws,e,j⟩:=c.dct E b;have F:=k8 f C;subst F;refine yx (by lia) I (yR.k e (by rw[<- j.length];exact K)) t l λs' D=>⟨_,D,?_⟩;have put:Ext mu mu H (upd H _ (.dK (iG ws k v))):=Ext.put e trivial (gM1 b);exact hc _ mu put (c.put b e trivial ⟨_,d9,(j.put z).ext put⟩)
      ·cases a
     ·exact back a
    ·exact back a
def Dd:G2:=λd e S=>match e with
 | .non=>Z (.bl (pX d),S)
 | .bl b=>match d with
  | .bl c=>Z (.bl (c == b),S)
  |_=>Y
 |_=>Y
def fz:G2:=λd e S=>match e with
 | .non=>Z (.bl (!pX d),S)
 | .bl b=>match d with
  | .bl c=>Z (.bl (!(c == b)),S)
  |_=>Y
 |_=>Y
theorem Hx:gt X (compareOp .Is) (r2 X.K (b2 Dd)):=by
 intro ag s σ H x y u w Q I j k h;obtain⟨mu,S,d,e,r,l,i,a,g,f,hc⟩:=oN h;cases e with
 |non=>exact Hy ag s σ H x y u w Q I j k ⟨mu,S,[d,.non],r,l,.cons i (.cons a .nil),g,f,hc⟩
 |bl b=>
  cases d with
  |bl c=>
   cases f;cases i;cases a;cases j;cases k;exact is_bool ⟨.bl (c == b),H,I,O,hc.now (.bl _) g⟩
  |_=>cases f
 |_=>cases f
theorem jn:gt X (compareOp .IsNot) (r2 X.K (b2 fz)):=by
 intro ag s σ H x y u w Q I j k h;obtain⟨mu,S,d,e,r,l,i,a,g,f,hc⟩:=oN h;cases e with
 |non=>exact Fk ag s σ H x y u w Q I j k ⟨mu,S,[d,.non],r,l,.cons i (.cons a .nil),g,f,hc⟩
 |bl b=>
  cases d with
  |bl c=>
   cases f;cases i;cases a;cases j;cases k;exact isnot_bool ⟨.bl (!(c == b)),H,I,O,hc.now (.bl _) g⟩
  |_=>cases f
 |_=>cases f
noncomputable def tL:FE:=λ_ S=>Z (.ref S.length,S++[.dct []])
theorem sE{pos:Pos}:XE X (.Dict [] [] pos) tL:=⟨fy z0 <| by
 rintro σ H Q ⟨r,mu,S,d,f,e,a,c,hc⟩ p b;cases c;exact hc _ _ (mu++[p]) (Ext.new_ b) (.ref (gf a.len p)) (a.new b ⟨[],d9,.nil⟩)⟩
noncomputable def CQ:List (FE×FE)->Ev->Sto->Option (List (D×D)×Sto)
 |[],_,S=>Z ([],S)
 |(a,b)::l,r,S=>(a r S).bind λp=>(b r p.2).bind λq=>(CQ l r q.2).map λt=>((p.1,q.1)::t.1,t.2)
def wJ:List (D×D)->Option (List (Key×D))
 |[]=>Z []
 |(k,d)::l=>(tT k).bind λk=>(wJ l).map λt=>(k,d)::t
def tN(l:List (FE×FE)):FE:=λr S=>(CQ l r S).bind λp=>(wJ p.1).bind λkvs=>if kvs.length<=15 then Z (.ref p.2.length,p.2++[.dct (kvs.foldl (λacc kv=>e6 acc kv.1 kv.2) [])])else Y
structure XP (X:Cx)(pos:Pos)(ks:List (Option Expr))(vs:List Expr)(l:List (FE×FE)):Prop where
 h:IF X pos ks vs (l.map λp=>(tM X.K p.1,tM X.K p.2))
theorem vR{pos:Pos}:XP X pos [] [] []:=⟨Cf⟩
theorem gx{pos:Pos}{k v:Expr}{ks:List (Option Expr)}{vs:List Expr}{a b:FE}{l:List (FE×FE)}(hk:XE X k a)(hv:XE X v b)(t:XP X pos ks vs l):XP X pos (Z k::ks) (v::vs) ((a,b)::l):=⟨zQ hk.h hv.h t.h⟩
theorem zP{K:Fg1}{σ:L2.St}:∀ {l:List (FE×FE)} {r:Ev} {mu:List dE} {H:Hp} {S e:Sto} {ps:List (D×D)} {Q:List (V×V)->Hp->Prop},fH K H mu r σ->Sim K H mu S->CQ l r S=some (ps,e) ->
  (∀vs H' mu',Ext mu mu' H H'->Paired (λ(p:D×D) (q:V×V)=>eO K H' mu' p.1 q.1/\eO K H' mu' p.2 q.2) ps vs->Sim K H' mu' e->Q vs H')->qy (l.map λp=>(tM K p.1,tM K p.2)) σ H Q
 |[],r,mu,H,S,e,ps,Q,he,hs,c,hc=>by cases c;exact hc [] H mu (.refl _ _) .nil hs
 |(a,b)::l,r,mu,H,S,e,ps,Q,he,hs,c,hc=>by
  obtain⟨⟨d,j⟩,y,c⟩:=oB1.mp c;obtain⟨⟨m,A⟩,u,c⟩:=oB1.mp c;obtain⟨⟨t,E⟩,z,c⟩:=oM1.mp c;cases c;refine⟨r,mu,S,d,j,he,hs,y,λv H1 mu1 g k o=>⟨r,mu1,j,m,A,he.ext g,o,u,λC H2 x i r2 n=>?_⟩⟩;refine zP ((he.ext g).ext i) n z λvs w f h B s=>hc _ w f ((g.trans i).trans h) (.cons ⟨(k.ext i).ext h,r2.ext h⟩ B) s
theorem AJ{K:Fg1}{H:Hp}{mu:List dE}:∀ {ps:List (D×D)} {vs:List (V×V)} {kvs:List (Key×D)},Paired (fun (p:D×D) (q:V×V)=>eO K H mu p.1 q.1/\eO K H mu p.2 q.2) ps vs->wJ ps=some kvs ->
  ∃ws:List (Key×V),vs=ws.map (λc=>(kV c.1,c.2))/\KR K H mu kvs ws:=by
 intro ps vs kvs j h
 induction j generalizing kvs with
 |nil=>cases h;exact⟨[],O,.nil⟩
 | @cons a b ps vs q t ih=>
  obtain⟨k,d⟩:=a;obtain⟨m,l⟩:=b;obtain⟨g,f,h⟩:=oB1.mp h;obtain⟨rest,i,h⟩:=oM1.mp h;cases h;obtain⟨ws,e,r⟩:=ih i;have:=k8 q.1 f;dsimp only at this;subst this;exact⟨(g,l)::ws,by rw[mP1,<- e],.cons ⟨O,q.2⟩ r⟩
theorem Ar{K:Fg1}{H:Hp}{mu:List dE}:∀{kvs:List (Key×D)} {ws:List (Key×V)} {acc:List (Key×D)} {acw:List (Key×V)},KR K H mu kvs ws->KR K H mu acc acw->KR K H mu (kvs.foldl (λacc c=>e6 acc c.1 c.2) acc) (iW acw ws):=by
 intro kvs ws acc acw f h
 induction f generalizing acc acw with
 |nil=>exact h
 | @cons a b kvs ws r t ih=>
  obtain⟨k,d⟩:=a;obtain⟨g,v⟩:=b;obtain⟨e,r⟩:=r;dsimp only at e r;subst e;show KR K H mu (kvs.foldl _ (e6 acc k d)) (iW (iG acw k v) ws);exact ih (h.put r)
theorem sF{pos:Pos}{ks:List (Option Expr)}{vs:List Expr}{l:List (FE×FE)}(h:XP X pos ks vs l)(v:autoParam (ks.all (·.isSome)=M) au0)(P:autoParam (ks.length=vs.length) au0)(h0:ks≠[]:=by nofun)(w:autoParam (ks.length<=15) bu0):XE X (.Dict ks vs pos) (tN l):=
 ⟨fy (Co h.h v P h0 w) <| by
  rintro σ H Q ⟨r,mu,S,d,R,I,F,f,hc⟩ p j;obtain⟨⟨ps,G⟩,au,f⟩:=oB1.mp f;obtain⟨kvs,N,f⟩:=oB1.mp f;dsimp only at f;split at f
  ·rename_i m;cases f;have x:Ext mu mu H (upd H p (.dK [])):=Ext.fresh j;refine zP (I.ext x) (F.fresh j) au fun vs H1 mu1 g ao i=>?_;obtain ⟨k,s⟩:=g.held (a:=p) (o:=.dK []) d9 (F.notin j);obtain ⟨ws,am,rk⟩:=AJ ao N;refine ⟨k,ws,am,by rw [<- rk.length];exact m,?_⟩;have put:Ext (p::mu1) (p::mu1) H1 (upd H1 p (.dK (iW [] ws))):=Ext.put k trivial mS1;have L:=i.aside put.inner s;have y:Ext mu (mu1++[p]) H (upd H1 p (.dK (iW [] ws))):=by
    refine⟨g.pre.trans (bu _ _),λb o e n=>?_,λb ys e=>put.tup b ys (g.tup b ys (x.tup b ys e)),λb o u e=>put.frz b o u (g.frz b o u (x.frz b o u e)),λb B=>?_⟩
    ·have D:b≠p:=eI e j;rw[d0 D];exact g.old b o (by rw[d0 D];exact e) n
    ·rcases aG.mp B with z|z
     ·rcases g.new b z with q|q
      ·exact .inl q
      ·by_cases t:b=p
       ·exact .inr (by rw[t];exact j)
       ·rw[d0 t]at q;exact .inr q
     ·have:b=p:=by simpa using z
      exact .inr (by rw[this];exact j)
   have C:=Ar rk (acc:=[]) (acw:=[]) .nil;refine hc _ _ (mu1++[p]) y (.ref (gf i.len p)) ⟨by rw[lA1,lA1,i.len];rfl,?_,λn o b h1 h2=>?_⟩
   ·rw[bw];refine⟨i.nd,by simp,λb K c hc e=>?_⟩;have:c=p:=by simpa using hc
    subst this;subst e;exact s K
   ·by_cases E:n<G.length
    ·rw[gL1 E]at h1;rw[gL1 (by rw[i.len];exact E)]at h2;exact(L.ob n o b h1 h2).mor [p]
    ·have A:n=G.length:=by
      have:=(gE1.mp h1).1;rw[lA1]at this;simp at this;lia
     subst A;rw[gR1 (nR1 _)]at h1;rw[<- i.len,gR1 (nR1 _)]at h2;simp at h1 h2;subst h1;subst h2;exact⟨_,d9,KR.mor [p] (Paired.mapP C λ_ _ z=>⟨z.1,z.2.exw put.inner⟩)⟩
  ·cases f⟩
section
variable{K:Fg1}{H H':Hp}{mu mu':List dE}{S:Sto}
end
theorem mX{X:Cx}(i j:Nat){x y:Str}{a b:Expr}{m:FA}{k l pt pos:Pos}{kt k2 pt2}(hc:X.calm=true)(hN:X.N.Nodup)(hi:X.N[i]? = some x)(s:X.N[j]? = some y)(n:i≠j)(hx:X.env.scope.names.lookup x=some .local)(hy:X.env.scope.names.lookup y=some .local)(ha:XA X [a,b] m)(hw:autoParam (swappedStores [.Tuple [.Name x k,.Name y l] kt pt] (.Tuple [a,b] k2 pt2) X.env=pure (some [x,y])) au0)(hs:autoParam (swapsWithSole [.Tuple [.Name x k,.Name y l] kt pt] (.Tuple [a,b] k2 pt2) pos.line X.env=pure false) au0):
  XS X (.Assign [.Tuple [.Name x k,.Name y l] kt pt] (.Tuple [a,b] k2 pt2) pos) (ea (eD m) (gT 2 (gCs (gN i) (gCs (gN j) gNl)))):=
 ⟨iw (ES hc hN hi s n hx hy ha.h hw hs) <| by
  rintro E σ H ⟨r,mu,S,f,z,w,o,hs,h,hc⟩;obtain⟨⟨d,A⟩,e,h⟩:=oB1.mp h;obtain⟨⟨r2,B⟩,c,h⟩:=oB1.mp h;cases h;obtain⟨⟨ds,C⟩,v,e⟩:=oB1.mp e;dsimp only at e;split at e
  ·cases e;refine⟨r,mu,S,ds,_,o,hs,v,λvs H1 mu1 p g t=>?_⟩;dsimp only at c;rw[gT]at c;split at c
   ·cases g with
    |nil=>cases c
    |cons u g=>cases g with
     |nil=>cases c
     |cons q g=>cases g with
      |nil=>
       cases c;exact⟨_,_,O,hc _ H1 mu1 p (((o.ext p).set u).set q) t⟩
      |cons _ _=>cases c
   ·cases c
  ·cases e⟩
noncomputable def AZ:G2:=λd e S=>match d,e with
 | .int i,.int j=>Z (.int (i+j),S)
 |_,_=>Y
theorem C5{X:Cx}:Je X .Add (r2 X.K (b2 AZ)):=by
 intro ag s σ H x y v u Q I g k h;obtain⟨mu,S,d,e,r,l,f,b,c,a,hc⟩:=oN h;unfold AZ at a;split at a
 ·rename_i i j;cases a;cases f;cases b;exact C6 ag s σ H _ _ v u Q I g k ⟨i,j,O,O,hc.now (.int _) c⟩
 ·cases a
end Mi
namespace HT
open PySem PySem.Spec PyProof.Rows
variable{prog:dF}{w:dH}{A:dG}{E:dB->dD->Prop}{s:dD}
theorem jT{t sl:dE}{items:Array dB}{e vu:dB}{lo hi:Option Int}{Q:dB->dD->Prop}(ht:IsTup s.heap t items)(hs:s.heap.IsSliceOf sl e vu .none)(pl:IsPart e lo)(g:IsPart vu hi)(hw:sIx items.size 0 lo=0/\sIx items.size items.size hi=items.size)(h:Q (.ref t) s):dM (model prog w) A (getItem (.ref t) (.ref sl)) Q E s:=by
 obtain⟨i,b,d,f⟩:=id hs;have c:s.TypeIs (.ref sl) "slice":=⟨i,b,d⟩;unfold getItem
 try with_reducible refine wpAny_holding ?_
 first|refine wB1 (wP1 ?_)|skip
 refine wB1 (wpAny_sequenceKey ht.typeIs (by decide) ?_);refine wB1 (wpAny_callSpecial?_slot (name:=Str.ofString "__getitem__") ht.typeIs PyProof.Rows.slot_tuple_getitem
  (wE1 PyProof.Rows.slot_tuple_getitem ht.typeIs entry_tuple_getitem ?_ (args_tuple_getitem _ _)))
 show dM _ _ (Builtin.Tuple.tupleItemsOf (.ref t) >>= _) _ _ s;refine wB1 (tupleItemsOf_ ht ?_);refine wB1 (wpAny_typeOf c ?_);rw[ak (by decide)];refine wB1 (iD hs pl g ?_);have a:((((sIx items.size 0 lo:Nat):Int) == 0&&(1:Int) == 1&&(sIx items.size items.size hi-sIx items.size 0 lo) == items.size)=M):=by
  rw[hw.1,hw.2];simp
 show dM _ _ (if(((sIx items.size 0 lo:Nat):Int) == 0&&(1:Int) == 1&&(sIx items.size items.size hi-sIx items.size 0 lo) == items.size)=M then _ else _) _ _ s;rw[ak a];refine wB1 ?_;unfold Builtin.Tuple.tupleIsExact;refine wB1 (wpAny_typeOf ht.typeIs (wP1 ?_));rw[ak (by decide)]
 first
  |exact wB1 (wpAny_rule (wP1 ⟨_,rfl,wP1 h⟩))
  |exact wB1 (wpAny_rule (wB1 (wP1 ⟨_,rfl,wP1 h⟩)))
end HT
namespace Mi
open PySem PySem.Spec PyProof.Rows L2
def JD(K:Fg1):V->Option Int->Option Int->Hp->VK->Prop:=λx lo hi H Q=>∃a xs,x = .ref a/\kr K H a xs/\(HT.sIx xs.length 0 lo=0/\HT.sIx xs.length xs.length hi=xs.length)/\Q (.ref a) H
variable{X:Cx}
theorem B0:BI X (JD X.K):=by
 intro ag s σ H x v k vu lo hi m Q I j e pl i h;obtain⟨a,xs,rfl,f,g,q⟩:=h;cases j;obtain⟨c,r,d,l⟩:=I.tuple f;have b:c.toArray.size=xs.length:=by rw[sT1];exact r.length.symm
 refine⟨"tuple",_,PyProof.Rows.slot_tuple_getitem.lookup,d.typeIs,?_⟩;exact HT.jT d e pl i (by rw[b];exact g) ⟨.ref a,H,I,O,q⟩
def zr(S:Sto)(d:D)(lo hi:Option Int):Option (D×Sto):=(d7 S d).map λp=>if p.1=M then(.ref S.length,S++[.lst (Mi.uv p.2 lo hi)])else(.tup (Mi.uv p.2 lo hi),S)
def rE(m:FE)(lo hi:FO):FE:=λr S=>(m r S).bind λp=>(lo r p.2).bind λa=>(hi r a.2).bind λb=>zr b.2 p.1 a.1 b.1
theorem yA{xs:List D}{lo hi:Option Int}(h:HT.sIx xs.length 0 lo=0/\HT.sIx xs.length xs.length hi=xs.length):Mi.uv xs lo hi=xs:=by
 unfold Mi.uv;rw[h.1,h.2,bX,Nat.sub_zero,bY]
theorem no{e:Expr}{lo hi:Option Expr}{m:FE}{a b:FO}{pos p2:Pos}(h:XE X e m)(L:XO X lo a)(C:XO X hi b):XE X (.Subscript e (.Slice lo hi Y p2) pos) (rE m a b):=
 ⟨fy (zY (BI.or B0 (BI.or EA B1)) h.h L.h C.h) <| by
  rintro σ H Q ⟨r,mu,S,d,P,o,F,f,hc⟩;obtain⟨⟨E,A⟩,K,f⟩:=oB1.mp f;obtain⟨⟨n,B⟩,am,f⟩:=oB1.mp f;obtain⟨⟨l,au⟩,ao,f⟩:=oB1.mp f;refine⟨r,mu,S,E,A,o,F,K,λv H1 mu1 s D I=>?_⟩;refine⟨r,mu1,A,n,B,o.ext s,I,am,λH2 y x G=>?_⟩;refine⟨r,y,B,l,au,(o.ext s).ext x,G,ao,λR g z j=>?_⟩;obtain⟨⟨k,xs⟩,N,f⟩:=oM1.mp f;have u:=(s.trans x).trans z;obtain⟨c,vs,rfl,q,t⟩:=ej ((D.ext x).ext z) j N;cases k with
  |true=>
   cases f;right;right;exact⟨c,vs,O,q,λp i=>hc _ _ (g++[p]) (u.trans (Ext.new_ i)) (.ref (gf j.len p)) (j.newL (xb t n l) i)⟩
  |false=>
   simp only[bF1,if_false]at f;cases f;by_cases w:HT.sIx xs.length 0 n=0/\HT.sIx xs.length xs.length l=xs.length
   ·left;rw[yA w]at hc;exact⟨c,vs,O,q,by rw[<- t.length];exact w,hc _ _ g u (.tup q t) j⟩
   ·right;left;exact⟨c,vs,O,q,by rw[<- t.length];exact w,λp i=>hc _ _ g (u.trans (Ext.fresh i)) (.tup (kr.of d9) ((xb t n l).ext (Ext.fresh i))) (j.fresh i)⟩⟩
mutual
inductive gQ (h:dP):TK->dB->Prop
 |non:gQ h .non .none
 |int (i t):gQ h (.int i) (.int i t)
 |tup {a o items n xs}:h.get? a=some o->o.cls = .type "tuple"->o.data = .seq items n->hY h xs items.toList->gQ h (.tup xs) (.ref a)
inductive hY (h:dP):List TK->List dB->Prop
 |nil:hY h [] []
 |cons {k v ks vs}:gQ h k v->hY h ks vs->hY h (k::ks) (v::vs)
end
section
variable{prog:dF}{w:dH}{A:dG}{E:dB->dD->Prop}{s:dD}
theorem s7{Q:Int->dD->Prop}(h:Q 0xFCA86420 {s with toks:=s.toks+1}):dM (model prog w) A (pyHash .none) Q E s:=by
 have a:s.TypeIs .none "NoneType":=rfl;unfold pyHash
 first|unfold pyHashByItsType|skip
 have b:[Value.none].any Value.onHeap=J:=rfl;refine wB1 ?_;rw[cRoomFor,aj (by rw[b];exact aK)];refine wP1 ?_;refine wB1 (wpAny_specialOf a F.slot_NoneType_hash.lookup ?_);show dM _ _ (if(Z (Value.builtin "NoneType.__hash__") == Z Value.none)=M then _ else _) Q E s;rw[aj (by rw[beq_builtin_none];exact aK)];refine wB1 (wpAny_specialOf a F.slot_NoneType_hash.lookup ?_);show dM _ _ (callSpecialIfBoundUnlessNone? .none "__hash__" _ >>= _) Q E s;refine wB1 (wpAny_callSpecialIfBoundUnlessNone?_slot a F.slot_NoneType_hash (wE1 F.slot_NoneType_hash a F.entry_NoneType_hash (show dM _ _ (retInt 0xFCA86420) _ _ s from wpAny_ret_mkInt ?_) (F.args_NoneType_hash_1 _)));exact wP1 h
def sw(prog:dF)(w:dH)(k:TK):Prop:=∀{A:dG} {E:dB->dD->Prop} {s:dD} {v:dB} {Q:Int->dD->Prop},A.units+k.dep<cLine->gQ s.heap k v->Q k.hash {s with toks:=s.toks+k.draws}->dM (model prog w) A (pyHash v) Q E s
theorem hY.split{h:dP}:∀{ks:List TK} {vs:List dB},hY h ks vs->ks.length=vs.length:=λa=>a.rec (motive_1:=λ_ _ _=>True) (motive_2:=λks vs _=>ks.length=vs.length) trivial (λ_ _=>trivial) (λ_ _ _ _ _=>trivial) O (λ_ _ _ ih=>congrArg (· + 1) ih)
theorem AV{xs:List TK}(all:∀k∈xs,sw prog w k):sw prog w (.tup xs):=by
 intro A E s v Q t u h;cases u with
 | @tup a o p n _ r hc y hi=>
  have i:s.TypeIs (.ref a) "tuple":=⟨o,r,hc⟩;rw[TK.dep]at t;unfold pyHash
  first|unfold pyHashByItsType|skip
  first|refine wB1 (wpAny_cRoomFor_or (.inr (by lia)) ?_)|skip
  refine wB1 (wpAny_specialOf i F.slot_tuple_hash.lookup ?_);show dM _ _ (if(Z (Value.builtin "tuple.__hash__") == Z Value.none)=M then _ else _) Q E s;rw[aj (by rw[beq_builtin_none];exact aK)];refine wB1 (wpAny_specialOf i F.slot_tuple_hash.lookup ?_);show dM _ _ (callSpecialIfBoundUnlessNone? (.ref a) "__hash__" _ >>= _) Q E s;refine wB1 (wpAny_callSpecialIfBoundUnlessNone?_slot i F.slot_tuple_hash (wE1 F.slot_tuple_hash i F.entry_tuple_hash ?_ (F.args_tuple_hash_1 _)));show dM _ _ (Builtin.Tuple.tupleItemsOf (.ref a) >>= _) _ _ s;refine wB1 (wpAny_tupleItemsOf r y ?_);refine wB1 ?_;rw[<- Array.forIn_toList];refine wpAny_forIn_list _
   (λrest (b:Array Int) s'=>∃c d,xs=c++d/\hY s.heap d rest/\b.toList=TK.hashes c/\s'={s with toks:=s.toks+TK.drawsAll c})
   _ ?_ ?_ _ _ ⟨[],xs,O,hi,O,O⟩
  ·rintro x rest b s' ⟨c,d,e,m,l,rfl⟩;cases m with
   | @cons k _ g _ h1 f=>
    have q:k∈xs:=by rw[e];simp
    refine wB1 (all k q (show A.in1.units+k.dep<cLine by have:=TK.dep_mem q;rw[show A.in1.units=A.units+1 from rfl];lia) h1 ?_)
    first
     |exact wP1 ⟨c++[k],g,by simp[e],f,by rw[TK.hashes_app];simp[l,TK.hashes],by rw[TK.draws_app];simp[TK.drawsAll,bj]⟩
     |exact wB1 (wP1 (wP1 ⟨c++[k],g,by simp[e],f,by rw[TK.hashes_app];simp[l,TK.hashes],by rw[TK.draws_app];simp[TK.drawsAll,bj]⟩))
  ·rintro b s' ⟨c,d,e,m,l,rfl⟩;cases m;rw[aM]at e;subst e;show dM _ _ (retInt (Builtin.Tuple.tupleHashOf b.toList)) _ _ _;rw[l];refine wpAny_ret_mkInt ?_;show dM _ _ (if(decide (-(2:Int)^63<=Builtin.Tuple.tupleHashOf (TK.hashes xs))&&decide (Builtin.Tuple.tupleHashOf (TK.hashes xs)<2^63))=M then _ else _) Q E _;rw[TK.hash,TK.draws]at h;unfold reduceHash at h;by_cases j:(decide (-(2:Int)^63<=Builtin.Tuple.tupleHashOf (TK.hashes xs))&&decide (Builtin.Tuple.tupleHashOf (TK.hashes xs)<2^63))=M
   ·rw[ak j];rw[ak j]at h;exact wP1 (by simpa[bj]using h)
   ·rw[aj j];rw[aj j]at h;exact wB1 (wpAny_rule (wP1 (by simpa[bj]using h)))
mutual
theorem wQ:∀k:TK,sw prog w k
 | .non=>λb a h=>by cases a;exact s7 h
 | .int i=>λb a h=>by cases a;exact wpAny_pyHash_int h
 | .tup xs=>AV (t8 xs)
theorem t8:∀ks:List TK,∀k∈ks,sw prog w k
 |[],k,h=>by simp at h
 |x::xs,k,h=>by
  by_cases e:k=x
  ·rw[e];exact wQ x
  ·exact t8 xs k ((aF.mp h).resolve_left e)
end
end
theorem gQ.inj{h:dP}:∀ {k k':TK} {v:dB},gQ h k v->gQ h k' v->k=k':=fun i=>i.rec (motive_1:=fun k v _=>∀ k',gQ h k' v->k=k') (motive_2:=fun k v _=>∀ k',hY h k' v->k=k')
  (λk' g=>by cases g;rfl) (λ_ _ k' g=>by cases g;rfl)
  (λj m f l ih k' g=>by
   cases g with
   |tup d n c e=>
    rw[j]at d;cases d;rw[f]at c;cases c;rw[ih _ e])
  (λk' g=>by cases g;rfl) (λ_ _ a b k' g=>by cases g with|cons r' t'=>rw[a _ r',b _ t']) _
theorem gQ.keeps{h h':dP}{d:dE}{o:Obj}{es ep}(ho:h.get? d=some o)(hd:o.data = .dict es ep)(hs:Heap.SameBut d h h'):∀ {k:TK} {v:dB},gQ h k v->gQ h' k v:=fun f=>f.rec (motive_1:=fun k v _=>gQ h' k v) (motive_2:=fun k v _=>hY h' k v) .non .int
  (λ{a} _ _ _ _ c g e _ ih=>.tup ((hs.2 a (λz=>by subst z;rw[c]at ho;cases ho;rw[e]at hd;cases hd)).trans c) g e ih) .nil (λ_ _ a b=>.cons a b)
theorem hY.at{h:dP}:∀{ks:List TK} {vs:List dB} (j:Nat) (h1:j<ks.length) (h2:j<vs.length),hY h ks vs->gQ h ks[j] vs[j]
 |_::_,_::_,0,_,_,.cons r _=>r
 |_::ks,_::vs,j+1,h1,h2,.cons _ t=>hY.at j (by simpa using h1) (by simpa using h2) t
theorem Bp{xs ys:List TK}(b:xs.length=ys.length):((af (min xs.length ys.length)).all λj=>decide (xs[j]?=ys[j]?))=decide (xs=ys):=by
 by_cases h:xs=ys
 ·subst h;simp
 ·rw[ai h,List.all_eq_false];have:∃j,xs[j]? ≠ ys[j]?:=Classical.byContradiction λz=>h (bZ λj=>Classical.byContradiction λq=>z ⟨j,q⟩);obtain⟨j,a⟩:=this;refine⟨j,?_,by simpa using a⟩;rw[aB,b,Nat.min_self];apply Classical.byContradiction;intro c;exact a (by rw[b4 (by lia),b4 (by lia)])
theorem Ii:∀(n:Nat) {k k':TK} {A:dG} {s:dD} {u v:dB},k.dep<=n->A.units+n<cLine->gQ s.heap k u->gQ s.heap k' v->SeqAt.EqAt A s u v (decide (k=k')):=by
 intro n
 induction n with
 |zero=>
  intro k k' A s u v E Q r g;cases r with
  |tup _ _ _ _=>simp[TK.dep]at E
  |non=>
   cases g with
   |non=>simpa using SeqAt.EqAt.same (A:=A) (s:=s) Value.none
   |int i t=>simpa[uJ]using km (A:=A) (s:=s) (y:=.non) (x:=.int i) O ⟨t,O⟩ O O
   |tup e c d t=>simpa using(fv (A:=A) (s:=s) (b:=J) (v:=.non) (u:=.none) ⟨_,e,c,_,d⟩ O O (by lia)).2.1
  |int i t=>
   cases g with
   |non=>simpa[uJ]using km (A:=A) (s:=s) (y:=.int i) (x:=.non) ⟨t,O⟩ O O O
   |int j H=>
    have:=km (A:=A) (s:=s) (y:=.int i) (x:=.int j) ⟨t,O⟩ ⟨H,O⟩ O O;have e:uJ (.int i) (.int j)=decide (TK.int i=TK.int j):=by
     by_cases h:i=j
     ·subst h;simp[uJ]
     ·rw[ai (λz=>h (by injection z))];simp[uJ,h]
    rw[e]at this;exact this
   |tup e c d q=>simpa using(fv (A:=A) (s:=s) (b:=J) (v:=.int i) (u:=.int i t) ⟨_,e,c,_,d⟩ ⟨t,O⟩ O (by lia)).2.1
 |succ n ih=>
  intro k k' A s u v E Q r g;cases r with
  |non=>
   cases g with
   |non=>simpa using SeqAt.EqAt.same (A:=A) (s:=s) Value.none
   |int i t=>simpa[uJ]using km (A:=A) (s:=s) (y:=.non) (x:=.int i) O ⟨t,O⟩ O O
   |tup e c d t=>simpa using(fv (A:=A) (s:=s) (b:=J) (v:=.non) (u:=.none) ⟨_,e,c,_,d⟩ O O (by lia)).2.1
  |int i t=>
   cases g with
   |non=>simpa[uJ]using km (A:=A) (s:=s) (y:=.int i) (x:=.non) ⟨t,O⟩ O O O
   |int j H=>
    have:=km (A:=A) (s:=s) (y:=.int i) (x:=.int j) ⟨t,O⟩ ⟨H,O⟩ O O;have e:uJ (.int i) (.int j)=decide (TK.int i=TK.int j):=by
     by_cases h:i=j
     ·subst h;simp[uJ]
     ·rw[ai (λz=>h (by injection z))];simp[uJ,h]
    rw[e]at this;exact this
   |tup e c d q=>simpa using(fv (A:=A) (s:=s) (b:=J) (v:=.int i) (u:=.int i t) ⟨_,e,c,_,d⟩ ⟨t,O⟩ O (by lia)).2.1
  | @tup a o f m xs p B l G=>
   cases g with
   |non=>simpa using(fv (A:=A) (s:=s) (b:=J) (v:=.non) (u:=.none) ⟨_,p,B,_,l⟩ O O (by lia)).1
   |int i t=>simpa using(fv (A:=A) (s:=s) (b:=J) (v:=.int i) (u:=.int i t) ⟨_,p,B,_,l⟩ ⟨t,O⟩ O (by lia)).1
   | @tup a2 R items2 m2 ys N am K D=>
    by_cases P:a=a2
    ·subst P;have:TK.tup xs=TK.tup ys:=gQ.inj (.tup p B l G) (.tup N am K D);rw[ah this];exact .same _
    ·refine .of_refs P ?_;have au:=G.split;have L:=D.split;have F:=SeqAt.RcAt.tuples (A:=A) (s:=s) (e:=fun j=>decide (xs[j]? = ys[j]?)) ⟨o,p,B,m,l⟩ ⟨R,N,am,m2,K⟩ (by lia) (fun j h1 h2=>by
      have C:j<xs.length:=by rw[au];simpa using h1
      have ao:j<ys.length:=by rw[L];simpa using h2
      rw[TK.dep]at E;have V:=TK.dep_mem (bS C);have q:=ih (k:=xs[j]) (k':=ys[j]) (A:=A.in1) (s:=s) (by lia) (by show A.units+1+n<cLine;lia) (G.at j C (by simpa using h1)) (D.at j ao (by simpa using h2));have e:decide (xs[j]?=ys[j]?)=decide (xs[j]=ys[j]):=by
       rw[gG1 C,gG1 ao];simp
      rw[e];simpa using q)
     have T:f.size=xs.length:=by rw[au];simp
     have U:items2.size=ys.length:=by rw[L];simp
     rw[T,U]at F;have I:((af (min xs.length ys.length)).all (λj=>decide (xs[j]?=ys[j]?))&&xs.length == ys.length)=decide (TK.tup xs=TK.tup ys):=by
      by_cases w:xs.length=ys.length
      ·rw[Bp w,w,beq_self_eq_true,bM];by_cases h:xs=ys
       ·subst h;simp
       ·rw[ai h,ai (λz=>h (by injection z))]
      ·have S:(xs.length == ys.length)=J:=by simpa using w
       rw[S,Bool.and_false,ai (λz=>w (by injection z with z;rw[z]))]
     rw[I]at F;exact F
theorem zI{prog:dF}{w:dH}:∀(n:Nat) {k:TK} {A:dG} {E:dB->dD->Prop} {s:dD} {v:dB} {Q:Bool->dD->Prop},k.dep<=n->gQ s.heap k v->Q M s->dM (model prog w) A (eqIsQuiet n v) Q E s:=by
 intro n
 induction n with
 |zero=>
  intro k A E s v Q e r h;cases r with
  |non=>rw[eqIsQuiet_byValue 0 O];exact wP1 h
  |int i t=>rw[eqIsQuiet_byValue 0 O];exact wP1 h
  |tup _ _ _ _=>simp[TK.dep]at e
 |succ n ih=>
  intro k A E s v Q e r h;cases r with
  |non=>rw[eqIsQuiet_byValue _ O];exact wP1 h
  |int i t=>rw[eqIsQuiet_byValue _ O];exact wP1 h
  | @tup a o b m xs g z q j=>
   have f:s.TypeIs (.ref a) "tuple":=⟨o,g,z⟩;rw[TK.dep]at e;unfold eqIsQuiet;refine wB1 (wpAny_specialOf f F.slot_tuple_eq.lookup ?_);show dM _ _ (isInstance (.ref a) (.type "tuple") >>= _) _ _ s;refine wB1 (wpAny_isInstance f isSubtype_tuple_tuple ?_);simp only[b5,bF1,if_false];refine wB1 (wpAny_seqItems g q ?_);refine wB1 ?_;show dM _ _ (forIn b _ _) _ _ s;rw[<- Array.forIn_toList];refine wpAny_forIn_list _ (λrest r s'=>r.1=Y/\s'=s /\ ∃ks,hY s.heap ks rest/\TK.depAll ks<=n) _ ?_ ?_ _ _ ⟨O,O,xs,j,by lia⟩
   ·rintro v rest r s' ⟨c,rfl,ks,x,l⟩;cases x with
    | @cons y _ d _ u p=>
     rw[TK.depAll]at l;refine wB1 (ih (k:=y) (by lia) u ?_);simp only[b5,bF1,if_false];exact wP1 ⟨O,O,d,p,by lia⟩
   ·rintro⟨B,r2⟩ s' ⟨c,rfl,_⟩;simp only at c;subst c;exact wP1 h
def fS(prog:dF)(w:dH):HeapKind prog w TK where
 is:=λh k a=>gQ h k (.ref a)/\k.dep<=8
 hash:=TK.hash
 draws:=TK.draws
 room:=λA=>A.units+8<cLine
 inj:=λhx hy=>hx.1.inj hy.1
 keeps:=λx ho hd hs=>⟨x.1.keeps ho hd hs,x.2⟩
 pyHash:=λhu hk h=>wQ _ (by have:=hk.2;omega) hk.1 h
 eqBool:=λhu hx hy h=>Ii 8 hx.2 hu hx.1 hy.1 _ _ _ _ h
 quiet:=λhk h=>zI 8 hk.2 hk.1 h
noncomputable def Lh:G2:=λo v S=>match o,v with
 | .ref n,.ref b=>match S[n]?,S[b]? with
  |some (.lst xs),Z (.lst ys)=>if xs.length+ys.length<=dL then Z (.non,S.set n (.lst (xs++ys)))else Y
  |_,_=>Y
 |_,_=>Y
noncomputable def rM(n:Nat)(k:Int):Nat:=if k<0 then(k+(n:Int)).toNat else min k.toNat n
def ym:G3:=λo i v S=>match o,i with
 | .ref n,.int k=>match S[n]? with
  |some (.lst xs)=>if-(2^63)<=k/\k<2^63/\xs.length<dL then Z (.non,S.set n (.lst (xs.take (rM xs.length k)++v::xs.drop (rM xs.length k))))else Y
  |_=>Y
 |_,_=>Y
noncomputable def ug(f:D->D->Option Bool)(x:D):List D->Option (List Bool)
 |[]=>Z []
 |y::ys=>(f y x).bind λb=>(ug f x ys).map (b :: ·)
def ub:G2:=λo x S=>match o with
 | .ref n=>match S[n]? with
  |some (.lst ys)=>(ug (ga S eM) x ys).bind λbs=>if bs.length<2^62 then(bs.findIdx? id).map λj=>(.int (j:Nat),S)else Y
  |_=>Y
 |_=>Y
theorem w4(f:D->D->Option Bool)(x:D):∀{ys:List D} {bs:List Bool},ug f x ys=Z bs->bs.length=ys.length /\ ∀(j:Nat) (y:D) (k:Bool),ys[j]?=Z y->bs[j]?=Z k->f y x=Z k
 |[],bs,h=>by cases h;exact⟨O,λj y k h=>by simp at h⟩
 |y::ys,bs,h=>by
  rw[ug]at h;obtain⟨b,c,h⟩:=oB1.mp h;obtain⟨g,d,h⟩:=oM1.mp h;obtain⟨e,a1⟩:=w4 f x d;subst h;refine⟨by simp[e],λj=>?_⟩;cases j with
  |zero=>intro a k h1 h2;simp at h1 h2;subst h1;subst h2;exact c
  |succ j=>intro a k h1 h2;exact a1 j a k (by simpa using h1) (by simpa using h2)
section
open PySem.MeetsSeq PySem.MeetsSeq2 PySem.MeetsSeq3 PySem.SeqRoads2
theorem t0{l:dE}{its:Array dB}{n:Nat}{x:dB}{e:Nat->Bool}{top:Int}{j:Nat}(f:j<its.size)(ht:(j:Int)<top)(c:e j=true):∀ (k i:Nat),i+k=j->(∀ m,i<=m->m<j->e m=false) ->
  Meets (Builtin.«list.index.loop» ⟨[.ref l,x,rawInt i,rawInt top],[]⟩)
   (λA R s=>s.heap.get? l=Z {cls:=.type "list",data:=.seq its n}/\(∀m (h:m<its.size),SeqAt.EqAt A.in1 s its[m] x (e m))/\R (.ok (.ret (.int j s.toks))) {s with toks:=s.toks+1})
 |0,i,hk,hno,prog,w,A,R,⟨hp,g,d,tk,os⟩,⟨hl,he,h⟩=>by
  have o:i=j:=by lia
  subst o
  wp_walk using AutoSeq1.wpAny_loadPart' hl
  rw[show(if(i:Int)<top then its[((i:Nat):Int).toNat]? else Y)=Z its[i] by simp[ht,f]];refine wB1 (he i f prog w _ _ ?_);rw[c]
  wp_walk
  exact h
 |k+1,i,hk,hno,prog,w,A,R,⟨hp,g,d,tk,os⟩,⟨hl,he,h⟩=>by
  have h1:i<its.size:=by lia
  have h2:(i:Int)<top:=by lia
  wp_walk using AutoSeq1.wpAny_loadPart' hl
  rw[show(if(i:Int)<top then its[((i:Nat):Int).toNat]? else Y)=Z its[i] by simp[h1,h2]];refine wB1 (he i h1 prog w _ _ ?_);rw[hno i (nR1 i) (by lia)]
  wp_walk
  rw[show((i:Int)+1)=((i+1:Nat):Int) by push_cast;rfl];have z:=t0 (l:=l) (n:=n) (x:=x) f ht c k (i+1) (by lia) (λm a b=>hno m (by lia) b) prog w A R _ ⟨hl,he,h⟩;exact⟨plainId_quiet plain_index_loop _,wD1 entry_index_loop (by rw[Around.under_plainId plain_index_loop _];exact z)⟩
theorem AT{l:dE}{its:Array dB}{n:Nat}{x:dB}{e:Nat->Bool}{j:Nat}(o:j<its.size)(ht:(j:Int)<2^63-1)(a:e j=true)(c:∀ m,m<j->e m=false):
  Meets (Builtin.«list.index» ⟨[.ref l,x],[]⟩)
   (λA R s=>s.heap.get? l=Z {cls:=.type "list",data:=.seq its n}/\(∀m (h:m<its.size),SeqAt.EqAt A.in1 s its[m] x (e m))/\R (.ok (.ret (.int j s.toks))) {s with toks:=s.toks+1}):=by
 intro prog w A R ⟨p,g,d,tk,q⟩ ⟨f,k,h⟩
 wp_walk using AutoSeq1.wpAny_loadPart' f
 rw[show((λi:Int=>if i<0 then max 0 (i+(its.size:Int))else i) ((Y:Option Int).getD 0))=((0:Nat):Int) by simp,show((λi:Int=>if i<0 then max 0 (i+(its.size:Int))else i) ((Y:Option Int).getD (2^63-1)))=2^63-1 by simp];have z:=t0 (l:=l) (n:=n) (x:=x) o ht a j 0 (by lia) (λm _ b=>c m b) prog w A R _ ⟨f,k,h⟩;exact⟨plainId_quiet plain_index_loop _,wD1 entry_index_loop (by rw[Around.under_plainId plain_index_loop _];exact z)⟩
end
theorem JC{K:Fg1}{H:Hp}{Q:VK}{f:G3}{xs:List V}(h:rN K (b3 f) xs H Q):∃x y z mu S d e g r b,xs=[x,y,z]/\eO K H mu d x/\eO K H mu e y/\eO K H mu g z/\Sim K H mu S/\f d e g S=Z (r,b)/\po K mu H r b Q:=by
 obtain⟨mu,S,ds,r,b,c,j,a,hc⟩:=h;cases c with
 |nil=>cases a
 |cons q t=>cases t with
  |nil=>cases a
  |cons i t=>cases t with
   |nil=>cases a
   |cons k t=>cases t with
    |nil=>exact⟨_,_,_,mu,S,_,_,_,r,b,O,q,i,k,j,a,hc⟩
    |cons l t=>cases a
theorem DJ(V:X.A.units+64<cLine):D6 X "list.index" (λx xs H Q=>rN X.K (b2 ub) (x::xs) H Q):=by
 intro ag s σ H x xs v us Q I K am h;obtain⟨W,y,mu,S,d,e,r',aq,L,C,r2,g,a,hc⟩:=zC h;cases L;unfold ub at a;split at a
 ·rename_i n;split at a
  ·rename_i ys P;obtain⟨bs,T,a⟩:=oB1.mp a;split at a
   ·rename_i q;obtain⟨j,p,a⟩:=oM1.mp a;cases a;cases C with
    |ref B=>
     obtain⟨vs,G,t⟩:=g.lst P B;cases K;obtain⟨u,rfl,au⟩:=am.one;obtain⟨z,b,E,c,hl,e⟩:=I.lstM G;obtain⟨l1,l⟩:=w4 _ _ T;have wq:=t.length;have l3:=c.length;rw[b6]at p;obtain⟨D,k,o⟩:=p;have f:∀m (a:m<b.toArray.size),SeqAt.EqAt X.A.in1 s b.toArray[m] u (bs[m]?.getD J):=λm a=>by
      have m1:m<b.length:=by simpa using a
      obtain⟨ao,R,N⟩:=t.getV (i:=m) (v:=vs[m]'(by lia)) (gG1 (by lia));obtain⟨w',r,w⟩:=c.get (i:=m) (x:=vs[m]'(by lia)) (gG1 (by lia));have m2:m<bs.length:=by lia
      have U:b.toArray[m]=w':=by
       have:=gG1 m1;rw[this]at r;simpa using r
      rw[U,gG1 m2];exact(lY I g eM (A:=X.A.in1) (by show X.A.units+1+60<cLine;lia) N r2 w au (l m ao bs[m] R (gG1 m2))).1
     refine call_meets F.slot_list_index ⟨_,e,O⟩ F.entry_list_index (F.args_list_index_2 _ _)
      (AT (n:=E) (e:=λm=>bs[m]?.getD J) (j:=j) (by simp;lia) (by lia) ?_ ?_) ⟨e,f,?_⟩
     ·simp only[gG1 D,b7];simpa using k
     ·intro m a;have m2:m<bs.length:=by lia
      have:=o m a;simp only[gG1 m2,b7];simpa using this
     ·exact⟨.int j,H,I.tok _,⟨_,O⟩,hc.now (.int _) g⟩
   ·cases a
  ·cases a
 ·cases a
theorem DI:D6 X "list.insert" (λx xs H Q=>rN X.K (b3 ym) (x::xs) H Q):=by
 intro ag s σ H x xs v P Q I w r h;obtain⟨G,y,z,mu,S,d,e,g,ao,am,A,p,r2,B,l,b,hc⟩:=JC h;cases A;unfold ym at b;split at b
 ·rename_i n k;split at b
  ·rename_i ys D;split at b
   ·rename_i m;cases b;cases p with
    |ref i=>
     cases r2;obtain⟨vs,f,t⟩:=l.lst D i;cases w;obtain⟨L,j,rfl,C,o⟩:=r.two;obtain⟨tk,rfl⟩:=C;obtain⟨E,a,q,c,au,e⟩:=I.lstM f;have K:=t.length;have N:=c.length;refine call_meets F.slot_list_insert ⟨_,e,O⟩ F.entry_list_insert (F.args_list_insert_3 _ _ _)
      (AutoSeq1.list_insert_list_int_val_1 _ a.toArray q k tk j (by rw[fitsIndex_both m.1 m.2.1];exact aK) (by rw[sT1];omega)) ⟨e,?_⟩
     have x:=Ext.put (u:=.lst (vs.take (rM ys.length k)++z::vs.drop (rM ys.length k))) f trivial (gM1 i);refine⟨.non,_,I.lset (its':=a.take (rM ys.length k)++j::a.drop (rM ys.length k)) f e ?_ ((c.take _).append (.cons o (c.drop _))) ?_,O,hc _ _ mu x .non (l.putL ((t.take _).append (.cons B (t.drop _))) i f)⟩
     ·rw[show ys.length=a.length by omega];simp[rM];exact b8 (by simp)
     ·simp;omega
   ·cases b
  ·cases b
 ·cases b
mutual
noncomputable def kD:D->Option TK
 | .non=>Z .non
 | .int i=>Z (.int i)
 | .tup xs=>(BF xs).map .tup
 |_=>Y
noncomputable def BF:List D->Option (List TK)
 |[]=>Z []
 |x::xs=>(kD x).bind λk=>(BF xs).map (k :: ·)
end
def keyT:D->Option TK
 | .tup xs=>(BF xs).bind λks=>if(TK.tup ks).dep<=8 then Z (.tup ks)else Y
 |_=>Y
mutual
theorem HR:∀{d:D} {k:TK},kD d=Z k->tkD k=d
 | .non,k,h=>by cases h;rfl
 | .int i,k,h=>by cases h;rfl
 | .tup xs,k,h=>by
  rw[kD]at h;obtain⟨ks,e,h⟩:=oM1.mp h;subst h;rw[tkD,vm e]
 | .bl _,k,h=>by simp[kD]at h
 | .str _,k,h=>by simp[kD]at h
 | .rol _,k,h=>by simp[kD]at h
 | .fn _,k,h=>by simp[kD]at h
 | .ref _,k,h=>by simp[kD]at h
theorem vm:∀{ds:List D} {ks:List TK},BF ds=Z ks->ja ks=ds
 |[],ks,h=>by cases h;rfl
 |x::xs,ks,h=>by
  rw[BF]at h;obtain⟨k,a,h⟩:=oB1.mp h;obtain⟨t,b,h⟩:=oM1.mp h;subst h;rw[ja,HR a,vm b]
end
theorem wK{d:D}{k:TK}(h:keyT d=Z k):tkD k=d/\k.dep<=8 /\ ∃xs,k = .tup xs:=by
 cases d with
 |tup xs=>
  rw[keyT]at h;obtain⟨ks,e,h⟩:=oB1.mp h;split at h
  ·rename_i a;cases h;exact⟨by rw[tkD,vm e],a,ks,O⟩
  ·cases h
 |_=>cases h
section
variable{ag:List (dE×Obj)}{σ:L2.St}{H:Hp}{s:dD}{mu:List dE}
mutual
theorem vY(I:Inv X ag σ H s):∀(k:TK) {v:V} {u:dB},eO X.K H mu (tkD k) v->d8 v u->gQ s.heap k u
 | .non,v,u,r,q=>by
  rw[tkD]at r;cases r;cases q;exact .non
 | .int i,v,u,r,q=>by
  rw[tkD]at r;cases r;obtain⟨t,rfl⟩:=q;exact .int i t
 | .tup xs,v,u,r,q=>by
  rw[tkD]at r;cases r with
  |tup h t=>
   cases q;obtain⟨b,d,⟨o,e,a,n,c⟩,_⟩:=I.tuple h;exact .tup e a c (by simpa using zh I xs t d)
theorem zh(I:Inv X ag σ H s):∀(ks:List TK) {vs:List V} {a:List dB},d5 X.K H mu (ja ks) vs->eE vs a->hY s.heap ks a
 |[],vs,a,r,q=>by rw[ja]at r;cases r;cases q;exact .nil
 |k::ks,vs,a,r,q=>by
  rw[ja]at r;cases r with
  |cons r t=>cases q with
   |cons q p=>exact .cons (vY I k r q) (zh I ks t p)
end
theorem va{α β γ δ:Type}{F:α->β->Prop}{G:γ->δ->Prop}{f:α->γ}{g:β->δ}:∀{l₁:List α} {l₂:List β},Paired F l₁ l₂->(∀a b,F a b->G (f a) (g b))->Paired G (l₁.map f) (l₂.map g):=by
 intro a b h g
 induction h with
 |nil=>exact .nil
 |cons r t ih=>exact .cons (g _ _ r) ih
theorem vb{α β:Type}{F:α->β->Prop}:∀{l₁ e:List α} {l₂ f:List β},Paired F l₁ l₂->Paired F e f->Paired F (l₁++e) (l₂++f):=by
 intro a b c d h g
 induction h with
 |nil=>exact g
 |cons r t ih=>exact .cons r ih
theorem KT.length{K:Fg1}:∀{ks:List (TK×D)} {ws:List (TK×dE×dB)},KT K H mu ks ws->ks.length=ws.length:=λh=>Paired.length h
theorem KT.mem{K:Fg1}:∀{ks:List (TK×D)} {ws:List (TK×dE×dB)},KT K H mu ks ws -> ∀x∈ws,x.1.dep<=8/\eO K H mu (tkD x.1) (.ref x.2.1):=by
 intro ks ws a x h
 induction a with
 |nil=>cases h
 |cons r t ih=>
  rcases aF.mp h with e|e
  ·subst e;rw[<- r.1];exact⟨r.2.1,r.2.2.1⟩
  ·exact ih e
theorem KT.look{K:Fg1}{k:TK}:∀ {ks:List (TK×D)} {ws:List (TK×dE×dB)},KT K H mu ks ws ->
  (∀d,d3 ks k=Z d -> ∃p v,atKey ws k=Z p/\d8 v p.2/\eO K H mu d v)/\(atKey ws k).isSome=(d3 ks k).isSome:=by
 intro ks ws h
 induction h with
 |nil=>exact⟨λd h=>by simp[d3]at h,O⟩
 | @cons p i ks ws r t ih=>
  obtain⟨b,c⟩:=p;obtain⟨l,a2,f⟩:=i;obtain⟨z,d,q,v,e,r⟩:=r;dsimp only at z q e r;subst z;obtain⟨h1,h2⟩:=ih;by_cases a:b=k
  ·subst a;refine⟨λd h=>?_,by simp[atKey,d3]⟩;have:c=d:=by simpa[d3]using h
   subst this;exact⟨(a2,f),v,by simp[atKey],e,r⟩
  ·have j:d3 ((b,c)::ks) k=d3 ks k:=by simp[d3,aZ,a]
   have g:atKey ((b,a2,f)::ws) k=atKey ws k:=by simp[atKey,aZ,a]
   rw[j,g];exact⟨h1,h2⟩
theorem KT.put{K:Fg1}{k:TK}{d:D}{v:V}{a:dE}{u:dB}(hk:k.dep<=8)(l:eO K H mu (tkD k) (.ref a))(g:d8 v u)(q:eO K H mu d v){ks:List (TK×D)}{ws:List (TK×dE×dB)}(h:KT K H mu ks ws):KT K H mu (e6 ks k d) (storedH ws k a u):=by
 unfold e6 storedH;have e:(ks.any λp=>decide (p.1=k))=(atKey ws k).isSome:=by
  rw[h.look.2];unfold d3;rw[bf,bQ,List.find?_isSome,bR]
 rw[e];split
 ·clear e;refine va h λp w ⟨z,i,f,m,c,j⟩=>?_;unfold putAt;by_cases b:p.1=k
  ·rw[ak b,ak (by rw[<- z];exact b)];exact⟨z,i,f,v,g,q⟩
  ·rw[aj b,aj (by rw[<- z];exact b)];exact⟨z,i,f,m,c,j⟩
 ·exact vb h (.cons ⟨O,hk,l,v,g,q⟩ .nil)
theorem uq(I:Inv X ag σ H s){a:dE}{xs:List (TK×dE×dB)}{kvs:List (TK×D)}(e:H a=Z (.ext (gG a xs)))(h:KT X.K H mu kvs xs):(a == sysModules)=J/\s.heap.DictOfH (fS X.prog X.w) a xs:=by
 obtain⟨⟨h1,h2,o,es,ep,f,g,d,c⟩,_⟩:=(show eX X.prog X.w H s.heap a (.ext (gG a xs))from I.hok a _ e);exact⟨h1,o,es,ep,f,g,d,c,λx b=>⟨vY I _ (h.mem x b).2 O,(h.mem x b).1⟩,h2⟩
theorem rY{h:dP}{a:dE}{xs:List (TK×dE×dB)}(hd:(a == sysModules)=J)(hm:h.DictOfH (fS X.prog X.w) a xs):eX X.prog X.w H h a (.ext (gG a xs)):=by
 obtain⟨o,es,ep,d,j,g,k,m,f⟩:=hm;refine⟨⟨hd,f,o,es,ep,d,j,g,k⟩,⟨o,d⟩,λn p ⟨a1,a2,o',c,b,b3,l,i,e⟩ st=>⟨a1,a2,o',c,b,st _ b3,l,i,e⟩⟩
end
def gF:G2:=λd e S=>match e with
 | .ref n=>match S[n]? with
  |some (.dcT kvs)=>(keyT d).map λk=>(.bl (d3 kvs k).isSome,S)
  |_=>ua d e S
 |_=>ua d e S
def fP:G2:=λd e S=>match e with
 | .ref n=>match S[n]? with
  |some (.dcT kvs)=>(keyT d).map λk=>(.bl (!(d3 kvs k).isSome),S)
  |_=>i3 d e S
 |_=>i3 d e S
def dX:G2:=λd e S=>match d with
 | .ref n=>match S[n]? with
  |some (.dcT kvs)=>(keyT e).bind λk=>(d3 kvs k).map λx=>(x,S)
  |some (.dcF kvs)=>(keyT e).bind λk=>(d3 kvs k).map λx=>(x,S)
  |_=>mR d e S
 |_=>mR d e S
def hL:G3:=λo i v S=>match o with
 | .ref n=>match S[n]? with
  |some (.dcT kvs)=>(keyT i).bind λk=>if kvs.length<dL then Z (.non,S.set n (.dcT (e6 kvs k v)))else Y
  |some (.dct [])=>match keyT i with
   |some k=>Z (.non,S.set n (.dcT [(k,v)]))
   |none=>mE o i v S
  |_=>mE o i v S
 |_=>mE o i v S
theorem mz{κ:Type}[DecidableEq κ](kvs:List (κ×D))(k:κ)(d:D):(e6 kvs k d).length<=kvs.length+1:=by
 unfold e6;split
 ·rw[lM1];lia
 ·simp
theorem lm{h:dP}{a:dE}(dd:h.DictOf (ff X.prog X.w) a []):h.DictOfH (fS X.prog X.w) a []:=by
 obtain⟨o,es,ep,h1,h2,d,_,b,_⟩:=dd;have e:es.toList=[]:=by
  generalize es.toList=l at b;cases b;rfl
 exact⟨o,es,ep,h1,h2,d,e,(λx c=>by simp at c),bn⟩
theorem ii{A:dG}(a:A.units+64<cLine):(fS X.prog X.w).room A.in1:=by
 show A.units+1+8<cLine;lia
theorem iY{ag:List (dE×Obj)}{σ:L2.St}{H:Hp}{s:dD}{mu:List dE}(I:Inv X ag σ H s){d:D}{v:V}{u:dB}{k:TK}(r:eO X.K H mu d v)(q:d8 v u)(h:keyT d=some k):
  ∃a,u = .ref a/\v = .ref a/\eO X.K H mu (tkD k) (.ref a)/\k.dep<=8/\(fS X.prog X.w).is s.heap k a:=by
 obtain⟨e,b,xs,ex⟩:=wK h;subst e;have is:=vY I k r q;subst ex;cases id is with
 | @tup a _ _ _ _ _ _ _ _=>
  rw[tkD]at r;cases r with
  |tup h1 h2=>
   cases q;exact⟨a,O,O,by rw[tkD];exact .tup h1 h2,b,is,b⟩
theorem mw(i:X.A.units+64<cLine):gt X (compareOp .In) (r2 X.K (b2 gF)):=by
 intro ag s σ H x y u w Q I m o h;obtain⟨mu,S,d,e,r,g,j,c,f,b,hc⟩:=oN h;have back:ua d e S=Z (r,g)->dM (model X.prog X.w) X.A (compareOp .In u w) (EP X ag σ Q) X.xe s:=λb=>HA i ag s σ H x y u w Q I m o ⟨mu,S,[d,e],r,g,.cons j (.cons c .nil),f,b,hc⟩;unfold gF at b;split at b
 ·rename_i n;split at b
  ·rename_i kvs v;obtain⟨k,t,b⟩:=oM1.mp b;cases b;cases c with
   |ref p=>
    cases o;obtain⟨xs,q,l,_⟩:=f.dcT v p;obtain⟨z,A⟩:=uq I q l;obtain⟨a,rfl,rfl,_,_,hi⟩:=iY I j m t;refine wpAny_in_heap (ii i) hi z A ?_;exact⟨.bl (atKey xs k).isSome,H,I.tok _,O,by rw[l.look.2];exact hc.now (.bl _) f⟩
  ·exact back b
 ·exact back b
theorem nU(i:X.A.units+64<cLine):gt X (compareOp .NotIn) (r2 X.K (b2 fP)):=by
 intro ag s σ H x y u w Q I m o h;obtain⟨mu,S,d,e,r,g,j,c,f,b,hc⟩:=oN h;have back:i3 d e S=Z (r,g)->dM (model X.prog X.w) X.A (compareOp .NotIn u w) (EP X ag σ Q) X.xe s:=λb=>Ae i ag s σ H x y u w Q I m o ⟨mu,S,[d,e],r,g,.cons j (.cons c .nil),f,b,hc⟩;unfold fP at b;split at b
 ·rename_i n;split at b
  ·rename_i kvs v;obtain⟨k,t,b⟩:=oM1.mp b;cases b;cases c with
   |ref p=>
    cases o;obtain⟨xs,q,l,_⟩:=f.dcT v p;obtain⟨z,A⟩:=uq I q l;obtain⟨a,rfl,rfl,_,_,hi⟩:=iY I j m t;refine wpAny_notIn_heap (ii i) hi z A ?_;exact⟨.bl (!(atKey xs k).isSome),H,I.tok _,O,by rw[l.look.2];exact hc.now (.bl _) f⟩
  ·exact back b
 ·exact back b
theorem Gn{ag:List (dE×Obj)}{σ:L2.St}{H:Hp}{s:dD}{mu:List dE}(I:Inv X ag σ H s){a:dE}{xs:List (TK×dE×dB)}{kvs:List (TK×D)}(e:∃o u,H a=Z (.frz o u)/\xw a xs o)(h:KT X.K H mu kvs xs):(a == sysModules)=J/\s.heap.DictOfH (fS X.prog X.w) a xs:=by
 obtain⟨o,u,e,h1,h2,g,es,ep,d,c⟩:=e;obtain⟨f,_⟩:=(show eX X.prog X.w H s.heap a (.frz o u)from I.hok a _ e);exact⟨h1,o,es,ep,f,g,d,c,λx b=>⟨vY I _ (h.mem x b).2 O,(h.mem x b).1⟩,h2⟩
theorem qP(F:X.A.units+64<cLine):D7 X (r2 X.K (b2 dX)):=by
 intro value c ag s σ H x y v u Q I D G h m;obtain⟨mu,S,d,e,r,A,w,o,t,f,hc⟩:=oN h;have back:mR d e S=Z (r,A)->dM (model X.prog X.w) X.A (subscriptTail value c v u) (EP X ag σ Q) X.xe s:=λf=>GS F value c ag s σ H x y v u Q I D G ⟨mu,S,[d,e],r,A,.cons w (.cons o .nil),t,f,hc⟩ m;have g:∀kvs a xs,v = .ref a->KT X.K H mu kvs xs->s.heap.DictOfH (fS X.prog X.w) a xs->((keyT e).bind λk=>(d3 kvs k).map λx=>(x,S))=Z (r,A)->dM (model X.prog X.w) X.A (subscriptTail value c v u) (EP X ag σ Q) X.xe s:=λkvs a xs L j am f=>by
  obtain⟨k,N,f⟩:=oB1.mp f;obtain⟨z,R,f⟩:=oM1.mp f;cases f;subst L;obtain⟨b,rfl,rfl,_,_,hi⟩:=iY I o G N;obtain⟨p,au,ep,ao,P⟩:=j.look.1 _ R;have K:=am.typeIs;unfold subscriptTail;refine wB1 ?_;rw[getitemInPython_of_ne K.not_modules];refine wB1 (wpAny_specialOf K PySem.F.slot_dict_getitem.lookup ?_);have l:dM (model X.prog X.w) X.A (subscripted c J (.ref a) (.ref b)) (λr i=>dM (model X.prog X.w) X.A (letTemporaryGo value (.ref a) r >>= λ_=>pure r) (EP X ag σ Q) X.xe i) X.xe s:=by
   rw[m];exact wpAny_operating (wpAny_mono (wpAny_getItem_heap (ii F) hi am ep (show EP X ag σ Q p.2 _ from⟨au,H,I.tok _,ao,hc.now P t⟩)) (λr i q=>wB1 (wpAny_letTemporaryGo (wP1 q))) λ_ _ x=>x)
  first
   |exact wP1 (wB1 l)
   |exact wB1 l
   |exact l
 unfold dX at f;split at f
 ·rename_i n;split at f
  ·rename_i kvs E;cases w with
   | @ref _ a B=>
    cases D;obtain⟨xs,C,j,_⟩:=t.dcT E B;exact g kvs a xs O j (uq I C j).2 f
  ·rename_i kvs E;cases w with
   | @ref _ a B=>
    cases D;obtain⟨xs,C,j,_⟩:=(show l7 X.K H mu a (.dcF kvs)from t.ob n _ a E B);exact g kvs a xs O j (Gn I C j).2 f
  ·exact back f
 ·exact back f
theorem nE(B:X.A.units+64<cLine):vL X (rU X.K (b3 hL)):=by
 intro ag s σ H o i v N T u Q I G am p h;obtain⟨mu,S,ds,d,au,W,l,a,hc⟩:=id h;cases W with
 |cons K wq=>cases wq with
  |cons y V=>cases V with
   |cons x aq=>
    cases aq;rename_i P R A;dsimp only[b3]at a;have back:mE P R A S=Z (d,au)->dM (model X.prog X.w) X.A (setItem N T u) (λ_ s'=>∃H',Inv X ag σ H' s'/\Q H') X.xe s:=λa=>EF B ag s σ H o i v N T u Q I G am p ⟨mu,S,[P,R,A],d,au,.cons K (.cons y (.cons x .nil)),l,a,hc⟩;unfold hL at a;split at a
    ·rename_i n;split at a
     ·rename_i kvs L;obtain⟨k,D,a⟩:=oB1.mp a;split at a
      ·rename_i hl;cases a;cases K with
       | @ref _ m f=>
        cases G;obtain⟨xs,r,j,U⟩:=l.dcT L f;obtain⟨E,F⟩:=uq I r j;obtain⟨b,rfl,rfl,rk,w,hi⟩:=iY I y am D;refine wpAny_setItem_heap (hsz:=U) (ii B) hi F λh' e c=>?_;have g:∃q,h'.get? _=Z q:=let ⟨q,_,_,g,_⟩:=e;⟨q,g⟩
        have put:Ext mu mu H (upd H m (.ext (gG m (storedH xs k b u)))):=Ext.put r trivial (gM1 f);refine⟨_,ln I (by rw[r];exact True.intro) c g (rY E e),hc _ mu put (l.put f r trivial ⟨_,d9,((j.put w rk p x).ext put),?_⟩)⟩;rw[<- (j.put w rk p x).length];have:=mz kvs k A;lia
      ·cases a
     ·rename_i L;split at a
      ·rename_i k D;cases a;cases K with
       | @ref _ m f=>
        cases G;obtain⟨ws,t,j⟩:=l.dct L f;cases j;obtain⟨z,E,vs,C,F⟩:=ul I.hok t;cases C;obtain⟨b,rfl,rfl,rk,w,hi⟩:=iY I y am D;have ao:s.heap.DictOfH (fS X.prog X.w) _ []:=lm F;refine wpAny_setItem_heap (hsz:=bh _) (ii B) hi ao λh' e c=>?_;have g:∃q,h'.get? _=Z q:=let ⟨q,_,_,g,_⟩:=e;⟨q,g⟩
        have put:Ext mu mu H (upd H m (.ext (gG m (storedH [] k b u)))):=Ext.put t trivial (gM1 f);exact⟨_,ln I (by rw[t];exact True.intro) c g (rY E e),hc _ mu put (l.put f t trivial ⟨_,d9,KT.ext put (.cons ⟨O,w,rk,v,p,x⟩ .nil),(show 1<=dL by decide)⟩)⟩
      ·exact back a
     ·exact back a
    ·exact back a
def uX(S:Sto)(d:D):Option Bool:=match d with
 | .non=>Z J
 | .bl b=>Z b
 | .int i=>Z (i != 0)
 | .str y=>if y.length<=dL then Z ((y.length:Int) != 0)else Y
 | .ref n=>match S[n]? with
  |some (.dct kvs)=>Z (!kvs.isEmpty)
  |_=>(d7 S d).map λp=> !p.2.isEmpty
 |_=>(d7 S d).map λp=> !p.2.isEmpty
noncomputable def BE (m:FE):FT:=λr S=>(m r S).bind λp=>(uX p.2 p.1).map λb=>(b,p.2)
section
variable{K:Fg1}{H:Hp}{mu:List dE}{S:Sto}
theorem qS{d:D}{v:V}{b:Bool}(r:eO K H mu d v)(s:Sim K H mu S)(h:((d7 S d).map λp=> !p.2.isEmpty)=Z b):DC K v H b:=by
 obtain⟨⟨k,xs⟩,e,h⟩:=oM1.mp h;obtain⟨a,vs,rfl,q,t⟩:=ej r s e;have z:(!xs.isEmpty) = !vs.isEmpty:=by cases t<;>rfl
 dsimp only at h;rw[z]at h;cases k
 ·exact .inr (.inl ⟨vs,q,h.symm⟩)
 ·exact .inl ⟨vs,q,h.symm⟩
theorem Ek{d:D}{v:V}{b:Bool}(r:eO K H mu d v)(s:Sim K H mu S)(h:uX S d=Z b):DC K v H b:=by
 cases d with
 |non=>cases r;cases h;rfl
 |bl k=>cases r;cases h;rfl
 |int i=>cases r;cases h;rfl
 |str y=>
  rw[uX]at h;split at h
  ·rename_i e;cases r;cases h;exact⟨e,O⟩
  ·cases h
 |tup xs=>exact qS r s h
 |rol xs=>exact qS r s h
 |fn x=>cases h
 |ref n=>
  rw[uX]at h;split at h
  ·rename_i kvs c;cases h;cases r with
   |ref a=>
    obtain⟨ws,g,f⟩:=s.dct c a;refine .inr (.inr ⟨ws,g,?_⟩);cases f<;>rfl
  ·exact qS r s h
end
theorem jI{X:Cx}{x:Expr}{f:FE}(h:XE X x f)(he:autoParam (∀a,isTrue x X.env a=(do let v<-a;standAt x.pos;holding [v] (truthy v))) du0):XT X x (BE f):=
 ⟨u7 (zM h.h he) <| by
  rintro σ H Q ⟨r,mu,S,b,l,he,e,c,hc⟩;obtain⟨⟨m,n⟩,k,c⟩:=oB1.mp c;obtain⟨b1,g,c⟩:=oM1.mp c;cases c;exact⟨r,mu,S,_,_,he,e,k,λv H1 mu1 i j d=>⟨_,Ek j d g,hc H1 mu1 i d⟩⟩⟩
mutual
noncomputable def pyD:D->Option PyData
 | .non=>Z .none
 | .bl b=>Z (.bool b)
 | .int i=>Z (.int i)
 | .str x=>Z (.str x)
 | .tup xs=>(pyDs xs).map .tuple
 | .rol _=>Y
 | .fn _=>Y
 | .ref _=>Y
noncomputable def pyDs:List D->Option (List PyData)
 |[]=>Z []
 |d::ds=>(pyD d).bind λp=>(pyDs ds).map λps=>p::ps
end
mutual
theorem nN:∀{d:D} {p:PyData},pyD d=Z p->p.hasDict=J
 | .non,p,h=>by simp only[pyD]at h;cases h;rfl
 | .bl b,p,h=>by simp only[pyD]at h;cases h;rfl
 | .int i,p,h=>by simp only[pyD]at h;cases h;rfl
 | .str x,p,h=>by simp only[pyD]at h;cases h;rfl
 | .tup xs,p,h=>by
  simp only[pyD]at h;obtain⟨ps,e,h⟩:=oM1.mp h;cases h;simp only[PyData.hasDict];exact mj e
 | .rol _,p,h=>by simp only[pyD]at h;cases h
 | .fn _,p,h=>by simp only[pyD]at h;cases h
 | .ref _,p,h=>by simp only[pyD]at h;cases h
theorem mj:∀{ds:List D} {ps:List PyData},pyDs ds=Z ps->PyData.hasDictAll ps=J
 |[],ps,h=>by simp only[pyDs]at h;cases h;rfl
 |d::ds,ps,h=>by
  simp only[pyDs]at h;obtain⟨p,a,h⟩:=oB1.mp h;obtain⟨c,b,h⟩:=oM1.mp h;cases h;simp only[PyData.hasDictAll,nN a,mj b,Bool.or_self]
end
def iL:G1:=λd S=>match d with
 | .tup xs=>(pyDs xs).bind λps=>if(PyData.tuple ps).showable=M/\(PyData.tuple ps).shown.length<=dL/\(PyData.tuple ps).depth<=60 then Z (.str (PyData.tuple ps).shown,S)else Y
 |_=>Y
section
variable{ag:List (dE×Obj)}{σ:L2.St}{H:Hp}{s:dD}{mu:List dE}
theorem zG(I:Inv X ag σ H s):∀ {d:D} {v:V} {u:dB} {p:PyData},eO X.K H mu d v->d8 v u->pyD d=some p -> ∃ as,Reads s.heap u p as:=fun w=>w.rec (motive_1:=fun d v _=>∀ u p,d8 v u->pyD d=some p -> ∃ as,Reads s.heap u p as) (motive_2:=fun ds vs _=>∀ f ps,eE vs f->pyDs ds=some ps -> ∃ as,ReadsAll s.heap f ps as)
  (λ_ _ c h=>by simp only[pyD]at h;cases h;cases c;exact⟨[],.none⟩)
  (λb _ _ c h=>by simp only[pyD]at h;cases h;cases c;exact⟨[],.bool b⟩)
  (λi _ _ c h=>by simp only[pyD]at h;cases h;obtain⟨t,rfl⟩:=c;exact⟨[],.int i t⟩)
  (λx _ _ c h=>by simp only[pyD]at h;cases h;obtain⟨t,rfl⟩:=c;exact⟨[],.str x t⟩)
  (λq _ ih _ _ c h=>by
   simp only[pyD]at h;obtain⟨ps,e,h⟩:=oM1.mp h;cases h;cases c;obtain⟨l,r,⟨o,y,hc,n,m⟩,_⟩:=I.tuple q;obtain⟨as,k⟩:=ih _ _ r e;exact⟨as,.tuple y hc m (by simpa using k)⟩)
  (λ_ _ _ _ _ _ h=>by simp only[pyD]at h;cases h) (λ_ _ _ _ h=>by simp only[pyD]at h;cases h) (λ_ _ _ _ h=>by simp only[pyD]at h;cases h)
  (λ_ _ tv h=>by simp only[pyDs]at h;cases h;cases tv;exact⟨[],.nil⟩)
  (λ_ _ a b _ _ tv h=>by
   simp only[pyDs]at h;obtain⟨p,z,h⟩:=oB1.mp h;obtain⟨A,g,h⟩:=oM1.mp h;cases h;cases tv with
   |cons v tv=>
    obtain⟨a1,j⟩:=a _ _ v z;obtain⟨a2,r2⟩:=b _ _ tv g;exact⟨_,.cons j r2⟩) _ _
end
theorem ss{k:Nat}(hr:fR k X.A):fj X (.builtin "repr") (rN X.K (b1 iL)):=by
 intro ag s σ H xs v Q I r h;obtain⟨x,mu,S,d,p,n,rfl,c,j,a,hc⟩:=BC h;unfold iL at a;split at a
 ·rename_i ds;obtain⟨ps,e,a⟩:=oB1.mp a;split at a
  ·rename_i i;obtain⟨h1,h2,w⟩:=i;cases a;cases r with
   |cons f rt=>
    cases rt;have g:pyD (.tup ds)=Z (.tuple ps):=by simp only[pyD,e,oP1]
    obtain⟨as,l⟩:=zG I c f g;cases c with
    |tup q t=>
     cases f;refine repr_of_reads' l h1 (PyData.noDict_hsm (nN g)) hr.gd (by have:=hr.un;lia) (λb o z=>z) (λh' u tk m=>?_) h2;exact⟨.str _,H,I.kept m,⟨u,O⟩,hc.now (.str _) j⟩
  ·cases a
 ·cases a
noncomputable def jt:List D->Option (List Int)
 |[]=>Z []
 | .int i::ds=>(jt ds).map λis=>i::is
 |_=>Y
noncomputable def ddI(ns:List Int):List Int:=ns.foldl step_dedup []
theorem jw:∀(ns acc:List Int),acc.Nodup->(ns.foldl step_dedup acc).Nodup
 |[],acc,h=>h
 |n::ns,acc,h=>by
  rw[b9];refine jw ns _ ?_;unfold step_dedup;split
  ·exact h
  ·rename_i d;rw[bw];refine⟨h,by simp,λa f b c e=>?_⟩;simp at c;apply d;rw[bR];exact⟨a,f,by simp[e,c]⟩
theorem ut(ns:List Int):firstMet (λi=>ns.getD i 0) ns.length=ddI ns:=by
 unfold firstMet ddI
 congr 1
 apply List.ext_getElem
 ·simp
 ·intro i h1 h2;simp at h1 ⊢;rw[gG1 (by omega)];rfl
theorem lT{K:Fg1}{H:Hp}{mu:List dE}:∀{ds:List D} {vs:List V} {b:List dB} {ns:List Int},d5 K H mu ds vs->eE vs b->jt ds=Z ns->IntsAre b ns/\ns.length=ds.length:=by
 intro ds vs b ns g a h
 induction g using d5.ind generalizing b ns with
 |hn=>cases h;cases a;exact⟨.nil,O⟩
 | @hc d v ds vs r t ih=>
  cases d with
  |int i=>
   obtain⟨c,e,h⟩:=oM1.mp h;cases h;cases r;cases a with
   |cons r a=>
    obtain⟨j,f⟩:=ih a e;obtain⟨tk,rfl⟩:=r;exact⟨.cons _ _ j,by rw[lC1,lC1,f]⟩
  |_=>cases h
theorem lC(l:List Int):(λk'=>l.any (· == k'))=λk'=>l.contains k':=by
 funext k
 induction l with
 |nil=>rfl
 |cons x xs ih=>rw[a0,ca,ih,show(x == k)=(k == x)from Bool.beq_comm]
def rS:G1:=λd S=>match d7 S d with
 |some (M,xs)=>(jt xs).bind λns=>if ns.length+1<scanBound then Z (.ref S.length,S++[.iset (ddI ns)])else Y
 |_=>Y
theorem Ir{k:Nat}(hr:fR k X.A):fj X (.type "set") (rN X.K (b1 rS)):=by
 intro ag s σ H xs K Q I r h;obtain⟨x,mu,S,d,am,G,rfl,v,j,c,hc⟩:=BC h;unfold rS at c;split at c
 ·rename_i ys E;obtain⟨ns,e,c⟩:=oB1.mp c;split at c
  ·rename_i F;cases c;obtain⟨a,vs,rfl,q,t⟩:=ej v j E;cases r with
   |cons y rt=>
    cases rt;cases y;obtain⟨f,C,⟨o,n,D,l,A,B⟩,_⟩:=I.list q;obtain⟨hi,m⟩:=lT t C e;have g:f.toArray.size=ns.length:=by rw[sT1,hi.length]
    refine PySem.call_set_list (items:=f.toArray) (ns:=ns) hr.hd ⟨o,D,l,⟨n,B⟩⟩ (by simpa using hi) (by rw[g];exact F) λh' tk i w=>?_;rw[g,ut]at i;have nd:(ddI ns).Nodup:=jw ns [] bn;have p:=lC (ddI ns);rw[p]at i;refine⟨.ref s.heap.objs.size,upd H s.heap.objs.size (.set (λk=>(ddI ns).contains k) (ddI ns).length),I.laid (λb u z=>w b u (hL1 z) z) (nR1 _) i,O,?_⟩;exact hc _ _ (mu++[s.heap.objs.size]) (Ext.new_ I.fresh) (.ref (gf j.len _)) (j.new I.fresh ⟨d9,nd⟩)
  ·cases c
 ·cases c
def oi:G1:=λd S=>match d with
 | .ref n=>match S[n]? with
  |some (.iset xs)=>Z (.int xs.length,S)
  |_=>eU d S
 |_=>eU d S
theorem Gw:fj X (.builtin "len") (rN X.K (b1 oi)):=by
 intro ag s σ H xs m Q I r h;obtain⟨x,mu,S,d,l,k,g,i,b,a,hc⟩:=BC h;have q:=a;unfold oi at a;split at a
 ·rename_i n;split at a
  ·rename_i ys e;cases a;subst g;cases i with
   |ref c=>
    obtain⟨p,nd⟩:=b.iset e c;cases r with
    |cons y rt=>
     cases rt;cases y;have u:=I.hok _ _ p;obtain⟨o,es,ep,t,z,j,w,_,_,f,v,c⟩:=u;refine PySem.call_len_set z j w v (by unfold scanBound at f;lia) ?_;refine⟨.int es.size,H,I.tok _,⟨_,O⟩,?_⟩;rw[c];exact hc.now (.int _) b
  ·exact fq ag s σ H xs m Q I r (by subst g;exact⟨mu,S,[_],l,k,.cons i .nil,b,(show b1 eU [_] S=_ from a),hc⟩)
 ·exact fq ag s σ H xs m Q I r (by subst g;exact⟨mu,S,[_],l,k,.cons i .nil,b,(show b1 eU [_] S=_ from a),hc⟩)
@[elab_as_elim] theorem Lb {P:List dB->Prop}{us:List dB}(l:us.length=0)(f:P []):P us:=by
 cases us with
 |nil=>exact f
 |cons _ _=>cases l
@[elab_as_elim] theorem Kt {P:List dB->Prop}{us:List dB}(l:us.length=1)(f:∀a,P [a]):P us:=by
 cases us with
 |nil=>cases l
 |cons a us=>exact Lb (P:=λus=>P (a::us)) (Nat.succ.inj l) (f a)
@[elab_as_elim] theorem Ks {P:List dB->Prop}{us:List dB}(l:us.length=2)(f:∀a b,P [a,b]):P us:=by
 cases us with
 |nil=>cases l
 |cons a us=>exact Kt (P:=λus=>P (a::us)) (Nat.succ.inj l) (f a)
@[elab_as_elim] theorem Kr {P:List dB->Prop}{us:List dB}(l:us.length=3)(f:∀a b c,P [a,b,c]):P us:=by
 cases us with
 |nil=>cases l
 |cons a us=>exact Ks (P:=λus=>P (a::us)) (Nat.succ.inj l) (f a)
@[elab_as_elim] theorem Kq {P:List dB->Prop}{us:List dB}(l:us.length=4)(f:∀a b c d,P [a,b,c,d]):P us:=by
 cases us with
 |nil=>cases l
 |cons a us=>exact Kr (P:=λus=>P (a::us)) (Nat.succ.inj l) (f a)
@[elab_as_elim] theorem IX {P:List dB->Prop}{us:List dB}(l:us.length=5)(f:∀a b c d e,P [a,b,c,d,e]):P us:=by
 cases us with
 |nil=>cases l
 |cons a us=>exact Kq (P:=λus=>P (a::us)) (Nat.succ.inj l) (f a)
end Mi
namespace HT
open PySem PySem.Spec PyProof.Rows
variable{prog:dF}{w:dH}{A:dG}{E:dB->dD->Prop}{s:dD}
end HT
namespace Mi
open PySem PySem.Spec PyProof.Rows L2
section
variable{X:Cx}
end
end Mi
namespace HT
open PySem PySem.Spec PyProof.Rows
section
variable{prog:dF}{w:dH}{A:dG}{R:Result->dD->Prop}{I ax L:dE}{xs:Array dB}
end
section
variable{prog:dF}{w:dH}{A:dG}{E:dB->dD->Prop}{s:dD}
end
end HT
namespace Mi
open PySem PySem.Spec PyProof.Rows L2
variable{X:Cx}
section
variable{elt tg iter tg2 iter2 tg3 iter3:Expr}{ifs ifs2 ifs3:List Expr}{scope:dS}{pos:Pos}
end
noncomputable def yd(a:Int):List Int->List Int
 |[]=>[a]
 |b::l=>if a<=b then a::b::l else b::yd a l
def kE:List Int->List Int
 |[]=>[]
 |a::l=>yd a (kE l)
theorem lU(a:Int):∀l:List Int,(yd a l).Perm (a::l)
 |[]=>.refl _
 |b::l=>by
  rw[yd];split
  ·exact .refl _
  ·exact((lU a l).cons b).trans (.swap _ _ _)
theorem iR:∀l:List Int,(kE l).Perm l
 |[]=>.refl _
 |a::l=>(lU a _).trans ((iR l).cons a)
theorem wO{a:Int}:∀{l:List Int},l.Pairwise (· <= ·)->(yd a l).Pairwise (· <= ·)
 |[],_=>List.pairwise_singleton _ _
 |b::l,h=>by
  rw[cb]at h;rw[yd];split
  ·rename_i d;rw [cb,cb];exact ⟨fun x c=>by
    rcases aF.mp c with z|z
    ·lia
    ·have:=h.1 x z;lia,h.1,h.2⟩
  ·rename_i d;rw[cb];refine⟨λx c=>?_,wO h.2⟩;rcases aF.mp ((lU a l).mem_iff.mp c)with z|z
   ·lia
   ·exact h.1 x z
theorem ny:∀l:List Int,(kE l).Pairwise (· <= ·)
 |[]=>.nil
 |a::l=>wO (ny l)
theorem re:∀{a b:List Int},a.Perm b->a.Pairwise (· <= ·)->b.Pairwise (· <= ·)->a=b
 |[],b,p,_,_=>(List.nil_perm.mp p).symm
 |x::a,[],p,_,_=>absurd p.length_eq (by simp)
 |x::a,y::b,p,h1,h2=>by
  rw[cb]at h1 h2;have e:x=y:=by
   have d:=p.mem_iff.mp (mS1 (a:=x) (l:=a));have f:=p.mem_iff.mpr (mS1 (a:=y) (l:=b));rcases aF.mp d with z|z
   ·exact z
   ·rcases aF.mp f with c|c
    ·exact c.symm
    ·have:=h2.1 x z;have:=h1.1 y c;lia
  subst e;rw[re (List.perm_cons x |>.mp p) h1.2 h2.2]
theorem yb:∀{us:List dB} {ns:List Int},IntsAre us ns->eE (ns.map V.int) us:=by
 intro us ns h
 induction h with
 |nil=>exact .nil
 |cons i t _ ih=>exact .cons ⟨t,O⟩ ih
theorem lI(n:Nat):∀ns:List Int,D.unds n (ns.map D.int)=M
 |[]=>rfl
 |_::ns=>by rw[mP1,D.unds,lI n ns];rfl
theorem gc_same{n:Nat}{d:D}{S:Sto}(h:S.length=n):gc n (d,S)=(d,S):=by
 unfold gc;split
 ·rw[show(d,S).2=S from rfl,<- h,bY]
 ·rfl
theorem yE{n:Nat}{f:FN}{ds:List D}{S S1:Sto}{d:D}(h:f ds []=Z (d,S1))(hn:ds.length=n)(a:D.unds 0 ds=M)(hd:d.und 0=M):dZ n f ds S=Z (d,S):=by
 unfold dZ qk;rw[ak hn,ak a,h,oP1,ak hd]
theorem uy{n:Nat}{f:FN}{ds:List D}{S S1:Sto}{d:D}(h:f ds []=Z (d,S1))(hn:ds.length=n)(a:D.unds 0 ds=M)(hd:d.und 0=J):dZ n f ds S=Z (d.sh S.length,S++S1.map (Ob.sh S.length)):=by
 unfold dZ qk;rw[ak hn,ak a,h,oP1,aj (by dsimp only;rw[hd];decide)]
theorem qi{n:Nat}{f:FN}{ds:List D}{S S1:Sto}{d:D}(h:f ds S=Z (d,S1))(hn:ds.length=n)(a:D.unds 0 ds=J):dZ n f ds S=Z (gc S.length (d,S1)):=by
 unfold dZ qk;rw[ak hn,aj (by rw[a];decide),h,oP1]
theorem l5{n:Nat}{f:FN}{ds:List D}{S S1:Sto}{d:D}(h:f ds S=Z (d,S1))(hn:ds.length=n)(a:D.unds 0 ds=J)(b:S1.length=S.length):dZ n f ds S=Z (d,S1):=by
 rw[qi h hn a,gc_same b]
theorem pM{i j:Int}(h1: -(2^64)<i)(h2:i<2^64):eY i j=M:=by
 unfold eY;simp only[bO,bA1,al];exact .inl (.inl ⟨h1,h2⟩)
theorem wC{i j:Int}(h1: -(2^64)<j)(h2:j<2^64):eY i j=M:=by
 unfold eY;simp only[bO,bA1,al];exact .inl (.inr ⟨h1,h2⟩)
theorem il{S:Sto}{n:Nat}{xs:List D}(h:S[n]?=Z (.lst xs)):oW S [(n,xs)]=M:=by
 rw[oW,h];simp[D.sames_refl,oW]
noncomputable def ke(n:Nat):Nat->List D
 |0=>[]
 |k+1=>.ref n::ke (n+1) k
theorem tK:∀{n:Nat} {lo:Int} {d:D},d∈gY lo n -> ∃k:Int,d = .int k/\lo<=k/\k<lo+n
 |0,lo,d,h=>by simp[gY]at h
 |n+1,lo,d,h=>by
  rw[gY]at h;rcases aF.mp h with h|h
  ·exact⟨lo,h,Int.le_refl _,by lia⟩
  ·obtain⟨k,e,h1,h2⟩:=tK h;exact⟨k,e,by lia,by lia⟩
theorem gU{n:Nat}:∀{xs:List D} {x:D},D.unds n xs=M->x∈xs->x.und n=M
 |y::ys,x,h,hx=>by
  rw[D.unds,bA1]at h;rcases aF.mp hx with e|e
  ·rw[e];exact h.1
  ·exact gU h.2 e
theorem jL{S:Sto}{d:D}(h:d.und 0=M):d7 S d=d7 [] d:=by
 cases d with
 |ref n=>simp[D.und]at h
 |_=>rfl
theorem iS{S:Sto}{d:D}(h:d.und 0=M){p:Bool×List D}(e:d7 S d=Z p):D.unds 0 p.2=M:=by
 cases d with
 |ref n=>simp[D.und]at h
 |tup xs=>cases e;simpa[D.und]using h
 |rol xs=>cases e;simpa[D.und]using h
 |_=>cases e
theorem p8{f f':D->D->Option Bool}:∀{xs ys:List D},(∀x∈xs,∀y∈ys,f x y=f' x y)->jS f xs ys=jS f' xs ys
 |[],[],_=>rfl
 |[],_::_,_=>rfl
 |_::_,[],_=>rfl
 |x::xs,y::ys,h=>by
  rw[jS,jS,h x mS1 y mS1,p8 λa d b c=>h a (mC1 _ d) b (mC1 _ c)]
theorem w5{S:Sto}:∀{n:Nat} {d e:D},d.und 0=M->e.und 0=M->ga S n d e=ga [] n d e
 |0,_,_,_,_=>rfl
 |n+1,d,e,hd,he=>by
  rw[ga,ga,jL hd,jL he];cases h1:d7 [] d with
  |none=>cases d7 [] e<;>rfl
  |some p=>
   cases h2:d7 [] e with
   |none=>rfl
   |some q=>
    dsimp only;have c:=iS hd h1;have g:=iS he h2;rw[p8 (f:=ga S n) (f':=ga [] n) λx a y b=>w5 (gU c a) (gU g b)]
theorem pQ{f f' g g':D->D->Option Bool}:∀{xs ys:List D},(∀x∈xs,∀y∈ys,f x y=f' x y)->(∀x∈xs,∀y∈ys,g x y=g' x y)->oY f g xs ys=oY f' g' xs ys
 |[],[],_,_=>rfl
 |[],_::_,_,_=>rfl
 |_::_,[],_,_=>rfl
 |x::xs,y::ys,h,k=>by
  rw[oY,oY,h x mS1 y mS1,k x mS1 y mS1,pQ (λa d b c=>h a (mC1 _ d) b (mC1 _ c)) λa d b c=>k a (mC1 _ d) b (mC1 _ c)]
theorem wE{S:Sto}:∀{n:Nat} {d e:D},d.und 0=M->e.und 0=M->ku S n d e=ku [] n d e
 |0,_,_,_,_=>rfl
 |n + 1,d,e,j,h=>by
  rw[ku,ku,jL j,jL h];cases IW d e with
  |some b=>rfl
  |none=>
   cases h1:d7 [] d with
   |none=>rfl
   |some p=>
    cases h2:d7 [] e with
    |none=>rfl
    |some q=>
     dsimp only;have i:=iS j h1;have k:=iS h h2;rw[pQ (f:=ga S n) (f':=ga [] n) (g:=ku S n) (g':=ku [] n) (λx a y c=>w5 (gU i a) (gU k c)) λx a y c=>wE (gU i a) (gU k c)]
open Classical in
noncomputable def rkV(ws:List dB)(x:dB):Nat:=ws.findIdx λy=>decide (y=x)
theorem zD{ws:List dB}{x:dB}(h:x∈ws):ws[rkV ws x]?=Z x:=by
 have a:rkV ws x<ws.length:=List.findIdx_lt_length_of_exists ⟨x,h,by simp⟩;rw[gG1 a];have:=List.findIdx_getElem (w:=a);have e:ws[rkV ws x]=x:=of_decide_eq_true this;rw[e]
def kR(ws:List dB)(xs:Array Keyed)(i:Nat):Nat:=(xs[i]?.map λp=>rkV ws p.1).getD 0
theorem k9{ws:List dB}{xs ys:Array Keyed}{i j:Nat}(h:xs[i]?=ys[j]?):kR ws xs i=kR ws ys j:=by unfold kR;rw[h]
def Up(ws:List dB)(xs:Array Keyed)(k:Nat):Prop:=∀i j,i<j->j<k->kR ws xs i<kR ws xs j
structure l6 (prog:dF)(w:dH)(A:dG)(s:dD)(κ:SortKind)(ws:List dB)(a₀:Array Keyed):Prop where
 nd:ws.Nodup
 keys:(a₀.toList.map (·.1)).Perm ws
 lt:∀(x y:dB) (i j:Nat),ws[i]?=some x->ws[j]?=some y->i≠j -> ∀(E:dB->dD->Prop) (Q:Bool->dD->Prop),Q (decide (i<j)) s->dM (model prog w) A (keyLt' κ x y) Q E s
section
variable{prog:dF}{w:dH}{A:dG}{E:dB->dD->Prop}{s:dD}{κ:SortKind}{ws:List dB}{a₀:Array Keyed}
theorem l6.at_(C:l6 prog w A s κ ws a₀){xs:Array Keyed}(p:xs.Perm a₀){i:Nat}(hi:i<a₀.size):∃x q,xs[i]?=Z (x,q)/\ws[kR ws xs i]?=Z x:=by
 have a:i<xs.size:=by rw[p.size_eq];exact hi
 refine⟨xs[i].1,xs[i].2,aG1 a,?_⟩;have b:xs[i]∈a₀.toList:=(cc.mp p).mem_iff.mp (by simp);have:=zD (C.keys.mem_iff.mp (cf.mpr ⟨_,b,O⟩));unfold kR;rw[aG1 a];exact this
theorem l6.inj(C:l6 prog w A s κ ws a₀){xs:Array Keyed}(p:xs.Perm a₀){i j:Nat}(hi:i<a₀.size)(e:j<a₀.size)(h:kR ws xs i=kR ws xs j):i=j:=by
 obtain⟨x,q,g,a⟩:=C.at_ p hi;obtain⟨y,r,d,c⟩:=C.at_ p e;rw[h,c]at a;cases a;have nd:(xs.toList.map (·.1)).Nodup:=(((cc.mp p).map (·.1)).trans C.keys).nodup_iff.mpr C.nd;have b:(xs.toList.map (·.1))[i]?=Z x:=by rw[gP1,aT1,g];rfl
 have f:(xs.toList.map (·.1))[j]?=Z x:=by rw[gP1,aT1,d];rfl
 exact(List.getElem?_inj (gE1.mp b).1 nd).mp (b.trans f.symm)
theorem Ey(C:l6 prog w A s κ ws (pairsOf vs)){xs:Array Keyed}(p:xs.Perm (pairsOf vs))(u:Up ws xs (pairsOf vs).size):xs.map (·.2)=ws.toArray:=by
 have l:ws.length=(pairsOf vs).size:=by rw[<- C.keys.length_eq,lM1];simp
 have b:∀i,i<(pairsOf vs).size->i<=kR ws xs i:=by
  intro i
  induction i with
  |zero=>intro _;lia
  |succ i ih=>intro h;have:=ih (by lia);have:=u i (i+1) (by lia) h;lia
 have a:∀d i,i+d+1=(pairsOf vs).size->kR ws xs i<=i:=by
  intro d
  induction d with
  |zero=>
   intro i h;obtain⟨x,q,_,f⟩:=C.at_ p (i:=i) (by lia);have:=(gE1.mp f).1;lia
  |succ d ih=>
   intro i h;have:=ih (i+1) (by lia);have:=u i (i+1) (by lia) (by lia);lia
 apply Array.ext
 ·rw[Array.size_map,p.size_eq,<- l];simp
 ·intro i h1 h2;rw[Array.size_map,p.size_eq]at h1;have k:kR ws xs i=i:=Nat.le_antisymm (a ((pairsOf vs).size-1-i) i (by lia)) (b i h1);obtain⟨x,q,e,f⟩:=C.at_ p h1;rw[k]at f;have c:(x,q)∈(pairsOf vs).toList:=(cc.mp p).mem_iff.mp (cg.mpr (ci e));rw[pairsOf_toList]at c;have m:x=q:=(mem_zip_self c).1;have g:(xs.map (·.2))[i]?=Z q:=by rw[Array.getElem?_map,e];rfl
  have j:ws.toArray[i]?=Z x:=by rw[cj];exact f
  rw[aG1 (by rw[Array.size_map,p.size_eq];exact h1)]at g;rw[aG1 h2]at j;rw[Option.some.inj g,Option.some.inj j,m]
end
section
variable{prog:dF}{w:dH}{A:dG}{E:dB->dD->Prop}{s:dD}
theorem z8{p q:dB}{b:Bool}{Q:Bool->dD->Prop}(r:Bw A.in1 s p q b)(h:Q b s):dM (model prog w) A (oneLt' J p q) Q E s:=by
 rw[oneLt'_eq];simp only[bF1,if_false];exact wB1 (wpAny_of_in1 (r prog w E _ (wpAny_truthy_bool h)))
theorem iZ(f:Bool)(x y:dB):keyLt' (tuples' f) x y=(do
  let xs<-Builtin.List.listItems x
  let ys<-Builtin.List.listItems y
  for ((p,q),i) in (xs.toList.zip ys.toList).zipIdx do
   if !(<- eqBool p q)then return<-oneLt' (f&&i == 0) p q
  return decide (xs.size<ys.size)):=rfl
theorem F2{a b:dE}{g zs:List dB}{k:Bool}{Q:Bool->dD->Prop}(ha:IsTup s.heap a g.toArray)(hb:IsTup s.heap b zs.toArray)(L:uH A s g zs k)(h:Q k s):
  dM (model prog w) A (keyLt' (tuples' J) (.ref a) (.ref b)) Q E s:=by
 rw[iZ];obtain⟨o,u,v,_,m⟩:=ha;obtain⟨B,r,y,_,n⟩:=hb;refine wB1 (listItems_at u m (wB1 (listItems_at r n ?_)));simp only[Bool.false_and];refine wB1 (wpAny_mono (wpAny_forIn_list _ (λrest c s'=>s'=s/\c=(Y,()) /\ ∃(i:Nat) (vs ws:List dB),rest=(vs.zip ws).zipIdx i/\uH A s vs ws k/\vs.length+zs.length=ws.length+g.length)
  (λc s'=>s'=s/\(c=(Z k,())\/(c=(Y,())/\k=decide (g.length<zs.length)))) ?_ ?_ _ _ ⟨O,O,0,g,zs,O,L,by lia⟩) ?_ λ_ _ e=>e)
 ·rintro x rest c s' ⟨rfl,rfl,i,vs,ws,d,j,f⟩;cases j with
  |nn=>simp at d
  |nc _ _=>simp at d
  |cn _ _=>simp at d
  | @eq p q ps l _ e t=>
   rw[bT,bK]at d;cases d;refine wB1 (e.of_in1 prog w E _ ?_);simp only[b5,bF1,if_false];exact wP1 ⟨O,O,i+1,ps,l,O,t,by simp at f;lia⟩
  | @lt p q ps l _ e t=>
   rw[bT,bK]at d;cases d;refine wB1 (e.of_in1 prog w E _ ?_);simp only[ck,if_true];exact wB1 (z8 t (wP1 ⟨O,.inl O⟩))
 ·rintro c s' ⟨rfl,rfl,i,vs,ws,d,j,f⟩;refine⟨O,.inr ⟨O,?_⟩⟩;cases j with
  |nn=>simp at f;rw[ai (by lia)]
  |nc _ _=>simp at f;rw[ah (by lia)]
  |cn _ _=>simp at f;rw[ai (by lia)]
  |eq _ _=>simp at d
  |lt _ _=>simp at d
 ·rintro c s' ⟨rfl,z⟩;rcases z with rfl|⟨rfl,z⟩
  ·exact wP1 h
  ·refine wP1 ?_;rw[sT1,sT1,<- z];exact h
theorem k0{ao:Model}{α β:Type}{f:α->Sem β}{P:α->β->Prop}:∀ {l:List α} {Q:List β->dD->Prop},(∀ v∈l,∃ r,P v r /\ ∀ Q:β->dD->Prop,Q r s->dM ao A (f v) Q E s) ->
  (∀rs,rs.length=l.length->(∀r∈rs,∃v∈l,P v r)->Q rs s)->dM ao A (l.mapM f) Q E s
 |[],Q,_,q=>by rw[List.mapM_nil];exact wP1 (q [] rfl λr a=>by cases a)
 |v::l,Q,h,q=>by
  rw[List.mapM_cons];obtain⟨r,p,a⟩:=h v mS1;refine wB1 (a _ ?_);refine wB1 (k0 (λv e=>h v (mC1 _ e)) λrs d c=>?_);refine wP1 (q (r::rs) (by rw[lC1,lC1,d]) λx b=>?_);rcases aF.mp b with z|z
  ·exact⟨v,mS1,by rw[z];exact p⟩
  ·obtain⟨g,h1,h2⟩:=c x z;exact⟨g,mC1 _ h1,h2⟩
theorem ue(v:dB):firstOfTuple' v=(do
  if(<- typeOf v) != .type "tuple" then return Y
  return (<- Builtin.List.listItems v)[0]?):=rfl
theorem F4{vs:List dB}{Q:SortKind->dD->Prop}(m:vs≠[])(h:∀ v∈vs,∃ a p ps b c,v = .ref a/\IsTup s.heap a (p::ps).toArray/\p = .ref b/\IsTup s.heap b c)(q:Q (tuples' false) s):
  dM (model prog w) A (keyKind' vs.toArray) Q E s:=by
 rw[keyKind'_eq,cm,<- bind_pure_comp];refine wB1 (wB1 (k0 (P:=λ_ r=>∃b c,r=Z (.ref b)/\IsTup s.heap b c) (λv u=>?_) λrs H i=>wP1 ?_))
 ·obtain⟨a,p,ps,b,c,rfl,⟨o,g,n,_,y⟩,rfl,l⟩:=h v u;refine⟨Z (.ref b),⟨b,c,O,l⟩,λQ q=>?_⟩;rw[ue];refine wB1 (wpAny_typeOf (T:="tuple") ⟨o,g,n⟩ ?_);rw[aj (by decide)];refine wB1 (listItems_at g y (wP1 ?_));simpa using q
 ·have B:rs.toArray.all (·.isSome)=true:=by
   rw[cp,bB];intro r k;obtain⟨v,_,b,c,e,_⟩:=i r k;rw[e];rfl
  rw[ak B];refine wB1 (wpAny_rule ?_);rw[oneTypeOnly'_eq];have C:rs.toArray.filterMap id=(rs.filterMap id).toArray:=by simp
  rw[C,cm,<- bind_pure_comp];refine wB1 (wB1 (wB1 (k0 (P:=λ_ t=>t=Value.type "tuple") (λv u=>?_) λd f l=>wP1 ?_)))
  ·obtain⟨r,k,e⟩:=aL.mp u;obtain⟨I,_,b,c,D,⟨o,g,n,_⟩⟩:=i r k;rw[D]at e;cases e;exact⟨_,O,λQ q=>wpAny_typeOf (T:="tuple") ⟨o,g,n⟩ q⟩
  ·cases d with
   |nil=>
    exfalso;cases rs with
    |nil=>exact m (cq.mp H.symm)
    |cons r rs=>
     obtain⟨_,_,b,_,e,_⟩:=i r mS1;rw[e]at f;simp at f
   |cons t d=>
    have all:∀x∈t::d,x=Value.type "tuple":=λx j=>by obtain⟨_,_,z⟩:=l x j;exact z
    have F:=all t mS1;subst F;have G:((Value.type "tuple"::d).toArray.all λx=>x == Value.type "tuple")=M:=by
     rw[cp,bB];intro x j;rw[all x j];rfl
    show dM _ _ (pure (if((Value.type "tuple"::d).toArray.all λx=>x == Value.type "tuple")=M then Z (Value.type "tuple")else Y)) _ _ _;rw[ak G];exact wP1 (wP1 q)
end
section
variable{prog:dF}{w:dH}{A:dG}{E:dB->dD->Prop}{R:Result->dD->Prop}
end
section
variable{prog:dF}{w:dH}{A:dG}{E:dB->dD->Prop}{s:dD}
end
mutual
theorem uT{n:Nat}:∀k:TK,(tkD k).und n=M
 | .non=>rfl
 | .int _=>rfl
 | .tup xs=>by rw[tkD,D.und];exact vW xs
theorem vW{n:Nat}:∀ks:List TK,D.unds n (ja ks)=M
 |[]=>rfl
 |k::ks=>by rw[ja,D.unds,uT k,vW ks];rfl
end
def GL(H:Hp)(a:dE):Prop:=(∃kvs,H a=Z (.dK kvs)) \/ ∃xs,H a=Z (.ext (gG a xs))
theorem C4{ag:List (dE×Obj)}{σ:L2.St}{H:Hp}{s:dD}{a:dE}(I:Inv X ag σ H s)(h:GL H a):(a == sysModules)=J /\ ∃o,s.heap.get? a=Z o/\o.ExactDict:=by
 rcases h with⟨kvs,e⟩|⟨xs,e⟩
 ·obtain⟨_,b,vs,_,o,es,ep,h1,h2,_⟩:=I.hok a _ e;exact⟨b,o,h1,h2⟩
 ·obtain⟨⟨b,_,o,es,ep,h1,h2,_⟩,_⟩:=(show eX X.prog X.w H s.heap a (.ext (gG a xs))from I.hok a _ e);exact⟨b,o,h1,h2⟩
abbrev yO(h:dP)(it d:dE)(i n ep:Nat):Prop:=h.get? it=Z {cls:=.type "dict_keyiterator",dict:=Y,data:=.fields #[.ref d,.int i 0,.int n 0,.int ep 0],slots:= #[]}
section
variable{prog:dF}{w:dH}{A:dG}{E:dB->dD->Prop}{s:dD}
theorem CY{it d:dE}{i ep:Nat}{es:Array DictEntry}{o:Obj}{Q:Option dB->dD->Prop}(g:yO s.heap it d i es.size ep)(hd:s.heap.get? d=Z o)(j:o.data = .dict es ep)(hi:i<es.size)(q:∀h',yO h' it d (i+1) es.size ep->Heap.SameBut it s.heap h'->Q (Z es[i].key) {s with heap:=h'}):dM (model prog w) A (pyNext (.ref it)) Q E s:=by
 have h:s.TypeIs (.ref it) "dict_keyiterator":=⟨_,g,O⟩;unfold pyNext;refine wB1 (wpAny_attempt (wpAny_callSpecial?_slot (name:=Str.ofString "__next__") h PySem.F.slot_dict_keyiterator_next
  (wE1 PySem.F.slot_dict_keyiterator_next h PySem.F.entry_dict_keyiterator_next ?_ (PySem.F.args_dict_keyiterator_next_1 _))))
 refine wB1 (wP1 (wB1 (wB1 (wB1 (wpAny_typeNameOfWhole_keyiter h (wP1 ?_))))));refine wB1 (wpAny_fieldsOf g O ?_);have k:Builtin.Dict_items.ownsTuple "dict_keyiterator"=J:=by decide
 simp only[k,bF1,if_false];show dM _ _ (if(Value.ref d == Value.none)=M then _ else _) _ _ s;rw[aj (show¬ ((Value.ref d == Value.none)=M)from aK)];refine wB1 (wP1 (wB1 (wpAny_dictEntries hd j ?_)));rw[aj (by simp)];refine wB1 (wP1 (wB1 (wpAny_dictEpoch hd j ?_)));rw[aj (by simp)];refine wP1 ?_;simp only[show¬ ((i:Int)<0)from by lia,if_false,Int.toNat_natCast,aG1 hi];refine wB1 (wB1 (wpAny_typeNameOfWhole_keyiter h (wP1 ?_)));refine wB1 (wpAny_isOneOf_keyiter h ?_);show dM _ _ (setField (.ref it) 1 (rawInt ((i:Int)+1)) >>= _) _ _ s;refine wB1 (wS1 g (by simp) λb a c=>?_);replace a:yO b it d (i+1) es.size ep:=by
  have e:((i+1:Nat):Int)=(i:Int)+1:=by lia
  unfold yO;rw[e];simpa[rawInt]using a
 have f:Shared.TypeIs {s with heap:=b} (.ref it) "dict_keyiterator":=⟨_,a,O⟩;refine wB1 (wpAny_holding (wB1 (wpAny_isOneOf_keyiter f ?_)));show dM _ _ (pure es[i].key) _ _ _;exact wP1 (wP1 ⟨_,O,wP1 (q b a c)⟩)
theorem F0{it d:dE}{i ep:Nat}{es:Array DictEntry}{o:Obj}{Q:Option dB->dD->Prop}(n:A.handled=Y)(f:yO s.heap it d i es.size ep)(hd:s.heap.get? d=Z o)(g:o.data = .dict es ep)(hi:es.size<=i)(q:∀h',(∀b o,b≠it->s.heap.get? b=Z o->h'.get? b=Z o)->Q Y {s with heap:=h'}):dM (model prog w) A (pyNext (.ref it)) Q E s:=by
 have j:s.TypeIs (.ref it) "dict_keyiterator":=⟨_,f,O⟩;unfold pyNext;refine wB1 (wpAny_attempt (wpAny_callSpecial?_slot (name:=Str.ofString "__next__") j PySem.F.slot_dict_keyiterator_next
  (wE1 PySem.F.slot_dict_keyiterator_next j PySem.F.entry_dict_keyiterator_next ?_ (PySem.F.args_dict_keyiterator_next_1 _))))
 refine wB1 (wP1 (wB1 (wB1 (wB1 (wpAny_typeNameOfWhole_keyiter j (wP1 ?_))))));refine wB1 (wpAny_fieldsOf f O ?_);have h:Builtin.Dict_items.ownsTuple "dict_keyiterator"=J:=by decide
 simp only[h,bF1,if_false];show dM _ _ (if(Value.ref d == Value.none)=M then _ else _) _ _ s;rw[aj (show¬ ((Value.ref d == Value.none)=M)from aK)];refine wB1 (wP1 (wB1 (wpAny_dictEntries hd g ?_)));rw[aj (by simp)];refine wB1 (wP1 (wB1 (wpAny_dictEpoch hd g ?_)));rw[aj (by simp)];refine wP1 ?_;simp only[show¬ ((i:Int)<0)from by lia,if_false,Int.toNat_natCast,cr hi];refine wB1 (wB1 (wpAny_typeNameOfWhole_keyiter j (wP1 ?_)));show dM _ _ (setField (.ref it) 0 .none >>= _) _ _ s;refine wB1 (wS1 f (by simp) λl k c=>?_);show dM _ _ (newExc (.type "StopIteration") [] >>= _) _ _ _;refine wB1 ?_;simp only[newExc,newTuple];refine wB1 (wO1 ?_ (by size_fits));refine wB1 (m:=firstArgMember _ _) (wpAny_of_eq (a:=Value.none) (by first|rfl|(simp only[firstArgMember];rfl)) ?_);refine wO1 ?_ (by size_fits);simp only[raiseNew];refine wB1 (wpAny_handled ?_);rw[show A.in1.handled=Y from n];refine wB1 (wP1 (wpAny_throw ?_));refine wB1 (wpAny_isInstance (T:="StopIteration") (b:=M) ⟨_,hS1 _ O,O⟩ isSubtype_stop ?_);exact wP1 (q _ λb o p e=>hP1 _ (hP1 _ (c.extBut b o p e)))
theorem CZ {d:dE}{es:Array DictEntry}{ep:Nat}{o:Obj}{Q:dB->dD->Prop}(hm:(d == sysModules)=false)(hd:s.heap.get? d=some o)(hc:o.cls = .type "dict")(a:o.data = .dict es ep)(hn:es.size<=dL)
  (q:Q (.ref s.heap.objs.size) {s with heap:=s.heap.push {cls:=.type "dict_keyiterator",data:=.fields #[.ref d,.int 0 0,.int es.size 0,.int ep 0]}}):dM (model prog w) A (pyIter (.ref d)) Q E s:=by
 have b:s.TypeIs (.ref d) "dict":=⟨o,hd,hc⟩;refine wpAny_pyIter_slot b PySem.F.slot_dict_iter (wE1 PySem.F.slot_dict_iter b PySem.F.entry_dict_iter ?_ (PySem.F.args_dict_iter_1 _));unfold Builtin.«dict.__iter__»;refine wB1 ?_;unfold Builtin.Dict.dictSlotNone;refine wB1 (wpAny_notOrdered_dict b ?_);show dM _ _ (pure (Value.ref d)) _ _ s;refine wP1 ?_;show dM _ _ (Builtin.Dict.showsAll d >>= _) _ _ s;unfold Builtin.Dict.showsAll;rw[aj (by rw[hm];exact aK)];refine wB1 (wP1 (wB1 (wpAny_dictEntries hd a (wB1 (wpAny_dictEpoch hd a (wB1 ?_))))));refine wO1 (wP1 ⟨_,O,"dict_keyiterator",_,⟨_,hS1 _ O,O⟩,PySem.F.slot_dict_keyiterator_next.lookup,?_⟩);simpa[rawInt]using q
end
section
variable{prog:dF}{w:dH}{A:dG}{E:dB->dD->Prop}{R:Result->dD->Prop}
end
theorem KT.keys{K:Fg1}{H:Hp}{mu:List dE}:∀{ks:List (TK×D)} {ws:List (TK×dE×dB)},KT K H mu ks ws->d5 K H mu (ks.map λp=>tkD p.1) (ws.map λx=>V.ref x.2.1)
 |_,_,.nil=>.nil
 |_,_,.cons ⟨z,d,k,_⟩ t=>.cons k (KT.keys t)
noncomputable def Js(X:Cx)(td ty tx:TE):TE:=fun σ H Q=>td σ H λx H1=>∃a,x = .ref a/\GL H1 a/\ty σ H1 λy H2=>tx σ H2 λz H3=>
 ∀ag s u r,Inv X ag σ H3 s->d8 y u->d8 z r->dM (model X.prog X.w) X.A (call (.builtin "dict.get") [.ref a,u,r]) (EP X ag σ Q) X.xe s
theorem E9 {o e f:Expr}{apos cpos:Pos}{td ty tx:TE}(ho:PE X o td)(he:PE X e ty)(hf:PE X f tx)(m:M2 X o "get" apos e f cpos):PE X (.Call (.Attribute o "get" apos) [e,f] [] cpos) (Js X td ty tx):=by
 intro ag s σ H Q I h;refine wpAny_Call_method m.base m.few m.line PySem.F.plainAttrs_dict PySem.F.slot_dict_get PySem.F.type_dict_get (fD (ho ag s σ H _ I h) λu A ⟨x,H1,j,C,a,ex,d,l⟩=>?_);subst ex;obtain rfl:u=Value.ref a:=C;obtain⟨_,o',i,c⟩:=C4 j d;refine⟨⟨o',i,c.1⟩,λb q=>by cases q;exact⟨o',i,c.2.1⟩,?_⟩;rw[m.trees];refine Calls.callWith_builtin O (Calls.evalArgs_plain (Calls.spliced_cons (fD (he ag A σ H1 _ j l) λp v ⟨y,H2,B,D,n⟩=>
  Calls.spliced_cons (fD (hf ag v σ H2 _ B n) λk t ⟨z,E,w,r,g⟩=>Calls.spliced_nil ?_))))
 exact g ag t p k w D r
noncomputable def yw(S:Sto)(n:Nat):Option (List (TK×D)):=match S[n]? with
 |some (.dcT kvs)=>Z kvs
 |some (.dct [])=>Z []
 |_=>Y
theorem w9{H:Hp}{mu:List dE}{S:Sto}{n:Nat}{a:dE}{kvs:List (TK×D)}(hs:Sim X.K H mu S)(hn:mu[n]? = some a)(h:yw S n=some kvs):
  GL H a /\ ∃xs,KT X.K H mu kvs xs /\ ∀ag σ s,Inv X ag σ H s->(a == sysModules)=J/\s.heap.DictOfH (fS X.prog X.w) a xs:=by
 unfold yw at h;split at h
 ·rename_i ks d;cases h;obtain⟨xs,h1,h2,l⟩:=hs.dcT d hn;exact⟨.inr ⟨xs,h1⟩,xs,h2,λag σ s I=>uq I h1 h2⟩
 ·rename_i d;cases h;obtain⟨ws,h1,h2⟩:=hs.dct d hn;cases h2;refine⟨.inl ⟨[],h1⟩,[],.nil,λag σ s I=>?_⟩;obtain⟨_,b,vs,i,o,es,ep,k,e,f,j⟩:=I.hok a _ h1;cases i;have c:es.toList=[]:=cq.mp (by have:=j.2.1.length;simpa using this);exact⟨b,o,es,ep,k,e,f,c,λx g=>(by cases g),bn⟩
 ·cases h
def rF(m a b:FE):FE:=λr S=>(m r S).bind λp=>match p.1 with
 | .ref n=>(yw p.2 n).bind λ_=>(a r p.2).bind λq=>(b r q.2).bind λt=>(yw t.2 n).bind λkvs=>(keyT q.1).map λk=>((d3 kvs k).getD t.1,t.2)
 |_=>Y
theorem xB {o e f:Expr}{apos cpos:Pos}{m a b:FE}(ao:X.A.units+64<cLine)(ho:XE X o m)(he:XE X e a)(hf:XE X f b)(hm:M2 X o "get" apos e f cpos:=by exact⟨O,O,O,O⟩):XE X (.Call (.Attribute o "get" apos) [e,f] [] cpos) (rF m a b):=
 ⟨fy (E9 ho.h he.h hf.h hm) <| by
  rintro σ H Q ⟨r,mu,S,d,S',he,T,hm,hc⟩;obtain⟨⟨R,am⟩,e1,hm⟩:=oB1.mp hm;refine⟨r,mu,S,R,am,he,T,e1,λv1 H1 mu1 h au E=>?_⟩;dsimp only at hm;split at hm
  ·rename_i n;obtain⟨V,x,hm⟩:=oB1.mp hm;cases au with
   | @ref _ F D=>
    refine⟨F,O,(w9 E D x).1,?_⟩;obtain⟨⟨U,K⟩,e2,hm⟩:=oB1.mp hm;obtain⟨⟨L,S3⟩,e3,hm⟩:=oB1.mp hm;refine⟨r,mu1,am,U,K,he.ext h,E,e2,λv2 H2 A l r2 W=>?_⟩;refine⟨r,A,K,L,S3,(he.ext h).ext l,W,e3,λN j g i r3 t=>?_⟩;obtain⟨kvs,en,hm⟩:=oB1.mp hm;obtain⟨k,aq,hm⟩:=oM1.mp hm;cases hm;intro ag s u w I ru y;obtain⟨_,xs,C,wq⟩:=w9 t (i.at (l.at D)) en;obtain⟨B,G⟩:=wq ag σ s I;obtain⟨b,rfl,rfl,_,_,hi⟩:=iY I (r2.ext i) ru aq;refine call_meetsIn PySem.F.slot_dict_get G.typeIs PySem.F.entry_dict_get (PySem.F.args_dict_get_3 _ _ _) (meetsH_dict_get_default (fS X.prog X.w) F b B w) ⟨ii ao,k,xs,hi,G,?_⟩;show EP X ag σ Q (((atKey xs k).map (·.2)).getD w) _;cases ez:d3 kvs k with
    |none=>
     have c:=(C.look (k:=k)).2;rw[ez]at c hc;have q:atKey xs k=Y:=by
      cases q:atKey xs k with
      |none=>rfl
      |some _=>rw[q]at c;cases c
     rw[q];exact⟨N,j,I.tok _,y,hc _ j g ((h.trans l).trans i) r3 t⟩
    |some z=>
     obtain⟨p,v,e4,P,rd⟩:=C.look.1 z ez;rw[ez]at hc;rw[e4];exact⟨v,j,I.tok _,P,hc _ j g ((h.trans l).trans i) rd t⟩
  ·cases hm⟩
def NF(X:Cx)(a:dE):Prop:=(∀xs,X.H₀ a≠Z (.tup xs))/\(∀o v,X.H₀ a≠Z (.frz o v)) /\ ∀ps,X.H₀ a≠Z (.tbl ps)
section
variable{ag:List (dE×Obj)}{σ:L2.St}{H:Hp}{s:dD}{a:dE}{u v:HO}
theorem tV(I:Inv X ag σ H s)(e:H a=Z u)(d:NF X a)(h1:∀c,u ≠ .own c)(h2:∀xs,u ≠ .tup xs)(new:eX X.prog X.w H s.heap a v):Inv X ag σ (upd H a v) s:=by
 have ne:∀{b:dE},H b=Y->b≠a:=λ{b} z=>by rintro rfl;rw[e]at z;cases z
 have h:∀b c,H b=Z (.own c)->upd H a v b=Z (.own c):=λb c z=>by
  rw[d0 (by rintro rfl;rw[e]at z;cases z;exact h1 _ O)];exact z
 have f:∀b xs,H b=Z (.tup xs)->upd H a v b=Z (.tup xs):=λb xs z=>by
  rw[d0 (by rintro rfl;rw[e]at z;cases z;exact h2 _ O)];exact z
 refine⟨I.ok,I.os,I.bare,⟨I.base.keep,I.base.slot,λb o q n i=>?_,I.base.there,λb xs q=>?_,λb o w q=>?_,λb ps q=>?_⟩,I.loc,I.cell,?_,λx c q=>?_,λp k=>?_,λb w q=>?_,I.len⟩
 ·have z:=I.base.free b o q n i;rw[d0 (ne z)];exact z
 ·rw[d0 (by rintro rfl;exact d.1 _ q)];exact I.base.tups b xs q
 ·rw[d0 (by rintro rfl;exact d.2.1 _ _ q)];exact I.base.frzs b o w q
 ·rw[d0 (by rintro rfl;exact d.2.2 _ q)];exact I.base.tbls b ps q
 ·rw[d0 (ne I.free)];exact I.free
 ·rw[d0 (ne (I.freeC x c q))];exact I.freeC x c q
 ·obtain⟨l,p2,j⟩:=I.pin p k;exact⟨l,by rw[d0 (ne p2)];exact p2,j⟩
 ·by_cases g:b=a
  ·subst g;rw[d9]at q;cases q;exact new.stay (λc o _ z=>z) (λc z=>h c _ z) λc xs z=>f c xs z
  ·rw[d0 g]at q;exact(I.hok b w q).stay (λc o _ z=>z) (λc z=>h c _ z) λc xs z=>f c xs z
end
inductive yQ (a:dE):List (TK×dE×dB)->HO->Prop
 |ext (xs:List (TK×dE×dB)):yQ a xs (.ext (gG a xs))
 |dK:yQ a [] (.dK [])
noncomputable def ItD(a:dE)(o:Obj)(xs:List (TK×dE×dB)):It:=
 ⟨λi H=>(∃u,H a=Z (.frz o u))/\i<xs.length,λi H x H'=>H'=H /\ ∃q,xs[i]?=Z q/\x = .ref q.2.1,λi H=>(∃u,H a=Z (.frz o u))/\xs.length<=i⟩
theorem xE{P:dF}{w:dH}{K:Fg1}{tg:Expr}{a it:dE}{o:Obj}{xs:List (TK×dE×dB)}{es:Array DictEntry}{ep:Nat}(hd:o.data = .dict es ep)(c:es.toList=xs.map fun x=>(⟨x.1.hash,.ref x.2.1,x.2.2⟩:DictEntry)):
  uG P w K tg (ItD a o xs) [it] it (λi h=>yO h it a i es.size ep) where
 mem:=by simp
 obj:=λi h st b d=>by
  have e:b=it:=by simpa using d
  subst e;exact⟨_,st,λv z=>by cases z⟩
 keep:=λi h h' st k=>k it (by simp) _ st
 item:=by
  intro X A n l hc i ag s σ H E I f st y;subst A n l;obtain⟨⟨u,g⟩,hi⟩:=y;obtain⟨q,_⟩:=(show eX X.prog X.w H s.heap a (.frz o u)from I.hok a _ g);have r:es.size=xs.length:=by rw[<- aJ,c,lM1]
  obtain⟨m,j,C,t,B,p⟩:=f it (by simp);refine CY st q hd (by omega) λh' st' G=>?_;have am:Inv X ag σ H {s with heap:=h'}:=I.turned (t':=s.toks) (λb o d e=>(G.2 b d).trans e) m j t B p;have D:es[i].key = .ref (xs[i]).2.1:=by
   have:es.toList[i]?=(xs.map λx=>(⟨x.1.hash,.ref x.2.1,x.2.2⟩:DictEntry))[i]?:=by rw[c]
   rw[aT1,aG1 (by omega),gP1,gG1 hi]at this;have:=Option.some.inj this;rw[this]
  refine⟨_,O,wS (s:={s with heap:=h'}) st' O O (by decide) ⟨.ref (xs[i]).2.1,H,am,D,⟨O,_,gG1 hi,O⟩,st',λb d=>(f b d).1⟩⟩
 done:=by
  intro X A n l hc i ag s σ H E I f st y;subst A n l;obtain⟨⟨u,g⟩,hi⟩:=y;obtain⟨q,_⟩:=(show eX X.prog X.w H s.heap a (.frz o u)from I.hok a _ g);have r:es.size=xs.length:=by rw[<- aJ,c,lM1]
  obtain⟨m,j,C,t,B,p⟩:=f it (by simp);exact F0 (I.ok.hd hc) st q hd (by omega) λh' F=>⟨O,I.turned (t':=s.toks) (λb o d e=>F b o d e) m j t B p⟩
 self:=λ_ _ _ _ _ st h=>wpAny_pyIter_keyiter ⟨_,st,O,O⟩ h
def H0(X:Cx)(tl:TE):TI:=fun σ H R=>tl σ H λx H1=>∃a xs u,x = .ref a/\H1 a=Z u/\yQ a xs u/\xs.length<=dL /\ ∀o,xw a xs o->NF X a->R (ItD a o xs) (upd H1 a (.frz o u))
theorem Gm{X:Cx}{ag:List (dE×Obj)}{σ:L2.St}{H:Hp}{s:dD}{a:dE}{u:HO}{xs:List (TK×dE×dB)}(I:Inv X ag σ H s)(e:H a=Z u)(h:yQ a xs u):∃o,s.heap.get? a=Z o/\xw a xs o:=by
 cases h with
 |ext xs=>
  obtain⟨⟨h1,h2,o,es,ep,b,d,c,f⟩,_⟩:=(show eX X.prog X.w H s.heap a (.ext (gG a xs))from I.hok a _ e);exact⟨o,b,h1,h2,d,es,ep,c,f⟩
 |dK=>
  obtain⟨_,h1,vs,h2,b⟩:=(show eX X.prog X.w H s.heap a (.dK [])from I.hok a _ e);cases h2;obtain⟨o,es,ep,b,d,c,f,_⟩:=lm b;exact⟨o,b,h1,bn,d,es,ep,c,f⟩
theorem Gk{X:Cx}{ag:List (dE×Obj)}{σ:L2.St}{H:Hp}{s:dD}{a:dE}{u:HO}{xs:List (TK×dE×dB)}(I:Inv X ag σ H s)(e:H a=Z u)(h:yQ a xs u):NF X a:=by
 refine⟨λys q=>?_,λo v q=>?_,λps q=>?_⟩
 ·have:=I.base.tups a ys q;rw[e]at this;cases this;cases h
 ·have:=I.base.frzs a o v q;rw[e]at this;cases this;cases h
 ·obtain⟨m,z⟩:=I.base.tbls a ps q;rw[e]at z;cases z;cases h
theorem EZ{X:Cx}{tg l:Expr}{tl:TE}(A:PE X l tl):PI X tg l (H0 X tl):=by
 intro ag s σ H R I h;refine fD (A ag s σ H _ I h) λv s1 ⟨x,H1,d,w,r⟩=>?_;obtain⟨a,xs,u,e,f,g,D,q⟩:=r;subst e;cases w;obtain⟨o,m,j⟩:=Gm d f g;have p:=Gk d f g;have q:=q o j p;obtain⟨B,E,C,es,ep,i,k⟩:=j;have y:es.size=xs.length:=by rw[<- aJ,k,lM1]
 refine CZ B m C.1 i (by lia) ?_;have n:Inv X ag σ (upd H1 a (.frz o u)) s1:=tV d f p (λc z=>by subst z;cases g) (λc z=>by subst z;cases g) ⟨m,d.hok a _ f⟩;refine⟨s1.heap.objs.size,[s1.heap.objs.size],_,_,_,O,n.kept (t':=s1.toks) λb o e=>hP1 _ e,xE i k,hS1 _ O,λb t=>?_,q⟩;have e:b=s1.heap.objs.size:=by simpa using t
 subst e;exact d.fpOk (nR1 _) (n.hok.fresh (nR1 _))
noncomputable def AI:Ob->Option (List (TK×D))
 | .dcT kvs=>Z kvs
 | .dct []=>Z []
 |_=>Y
def lX(k:Nat)(keep:List Nat)(m:FE)(g:FG)(t:FT)(b:FV):FE:=λr S=>(m r S).bind λp=>match p.1 with
 | .ref n=>(p.2[n]?).bind fun ob=>(AI ob).bind fun kvs=>(fX [] g t b (kvs.map fun q=>tkD q.1) (oZ k keep r) (p.2.set n (.dcF kvs))).bind fun q=>
   if q.1.length<=dL then Z (.ref q.2.2.length,q.2.2.set n ob++[.lst q.1])else Y
 |_=>Y
section
variable{K:Fg1}{H H':Hp}{mu mu':List dE}{S:Sto}{n:Nat}{a:dE}{o:Obj}{u:HO}
theorem l7.exv{b:dE}(e:yY mu mu' H H')(h:∀o,H b=Z o->H' b=Z o):∀{o:Ob},l7 K H mu b o->l7 K H' mu' b o
 | .lst _,⟨vs,q,r⟩=>⟨vs,h _ q,r.exv e⟩
 | .dct _,⟨ws,q,r⟩=>⟨ws,h _ q,Paired.mapP r λ_ _ z=>⟨z.1,z.2.exv e⟩⟩
 | .dcT _,⟨ws,q,r,l⟩=>⟨ws,h _ q,Paired.mapP r λ_ _ ⟨z,d,k,v,a,r⟩=>⟨z,d,k.exv e,v,a,r.exv e⟩,l⟩
 | .iset _,q=>⟨h _ q.1,q.2⟩
 | .dcF _,⟨ws,⟨o,u,c,f⟩,r,l⟩=>⟨ws,⟨o,u,h _ c,f⟩,Paired.mapP r λ_ _ ⟨z,d,k,v,a,r⟩=>⟨z,d,k.exv e,v,a,r.exv e⟩,l⟩
 | .tst _,⟨ws,q,r⟩=>⟨ws,h _ q,Paired.mapP r λ_ _ ⟨z,d,k,v,a,r⟩=>⟨z,d,k.exv e,v,a,r.exv e⟩⟩
theorem sK(e:H a=Z (.frz o u))(h1:∀xs,u ≠ .tup xs)(h2:∀xs,u ≠ .lst xs):yY mu mu H (upd H a u) where
 pre:=bm
 tup:=λb xs h=>by
  have ne:b≠a:=by
   rintro rfl;rcases h with h|⟨_,h⟩<;>(rw[e]at h;cases h)
   exact h1 _ O
  rcases h with h|⟨c,h⟩
  ·exact .inl (by rw[d0 ne];exact h)
  ·exact .inr ⟨c,by rw[d0 ne];exact h⟩
 frl:=λb c xs h=>by
  rw[d0 (by rintro rfl;rw[e]at h;cases h;exact h2 _ O)];exact h
theorem Sim.thaw(s:Sim K H mu S){c:Ob}(hn:mu[n]?=Z a)(x:yY mu mu H (upd H a u))(ho:l7 K (upd H a u) mu a c):Sim K (upd H a u) mu (S.set n c):=by
 refine⟨by rw[aV];exact s.len,s.nd,λk o' b h1 h2=>?_⟩;by_cases d:n=k
 ·subst d;have g:n<S.length:=by
   have:=(gE1.mp h1).1
   rwa [aV]at this
  rw[aI g]at h1;cases h1;rw[hn]at h2;cases h2;exact ho
 ·rw [gS1 d] at h1;have ne:b≠a:=fun e=>by
   subst e;obtain⟨j,h⟩:=gE1.mp hn;obtain⟨i,f⟩:=gE1.mp h2;exact d ((List.getElem_inj s.nd).mp (h.trans f.symm))
  exact(s.ob k o' b h1 h2).exv x λc e=>by rw[d0 ne];exact e
theorem C1(s:Sim K H mu S){ob:Ob}{kvs:List (TK×D)}(h:S[n]? = some ob)(hk:AI ob=some kvs)(hn:mu[n]? = some a):
  ∃xs u,H a=Z u/\yQ a xs u/\KT K H mu kvs xs/\xs.length<=dL /\ ∀H' mu',yY mu mu' H H'->H' a=Z u->l7 K H' mu' a ob:=by
 cases ob with
 |dcT ks=>
  cases hk;obtain⟨xs,e,r,l⟩:=s.dcT h hn;exact⟨xs,_,e,.ext xs,r,l,λH' mu' x b=>⟨xs,b,Paired.mapP r λ_ _ ⟨z,d,k,v,c,r⟩=>⟨z,d,k.exv x,v,c,r.exv x⟩,l⟩⟩
 |dct ks=>
  cases ks with
  |nil=>
   cases hk;obtain⟨ws,e,r⟩:=s.dct h hn;cases r;exact⟨[],_,e,.dK,.nil,bh _,λH' mu' x b=>⟨[],b,.nil⟩⟩
  |cons _ _=>cases hk
 |_=>cases hk
end
theorem KT.keyOf{K:Fg1}{H:Hp}{mu:List dE}{ks:List (TK×D)}{ws:List (TK×dE×dB)}(h:KT K H mu ks ws){i:Nat}{d:D}(e:(ks.map λq=>tkD q.1)[i]?=Z d){q:TK×dE×dB}(c:ws[i]?=Z q):eO K H mu d (.ref q.2.1):=by
 obtain⟨v,a,b⟩:=h.keys.get e;rw[gP1,c]at a;cases a;exact b
theorem Bg{X:Cx}{K:Fg1}{k:Nat}{keep:List Nat}{m:FE}{g:FG}{t:FT}{b:FV}{tb:dE->TS}(hb:∀ a E σ H,G6 K a b E σ H->tb a E σ H){σ:L2.St}{H:Hp}{Q:VK}(h:tM K (lX k keep m g t b) σ H Q):
  v6 k keep (H0 X (tM K m)) (Eo K g) (zl K t) tb σ H (λv H'=>∃a o u,H' a=Z (.frz o u)/\(∀xs,u ≠ .tup xs)/\NF X a/\Q v (upd H' a u)):=by
 obtain⟨r,mu,S,d,S',he,hs,f,hc⟩:=h;obtain⟨⟨d1,S1⟩,e1,f⟩:=oB1.mp f;cases d1 with
 |ref n=>
  obtain⟨x,eo,f⟩:=oB1.mp f;obtain⟨kvs,ek,f⟩:=oB1.mp f;obtain⟨⟨ys,r2,L⟩,e2,f⟩:=oB1.mp f;dsimp only at f;split at f
  ·rename_i hl;cases f;refine⟨r,mu,S,.ref n,S1,he,hs,e1,λv H1 mu1 x1 r1 s1=>?_⟩;cases r1 with
   | @ref _ a D=>
   obtain⟨xs,u,ao,A,B,hz,back⟩:=C1 s1 eo ek D;refine⟨a,xs,u,O,ao,A,hz,λo hO nf p s=>?_⟩;have mt:Mut (Z u):=by cases A<;>trivial
   have put:Ext mu1 mu1 H1 (upd H1 a (.frz o u)):=Ext.put ao mt (gM1 D);have sf:Sim K (upd H1 a (.frz o u)) mu1 (S1.set n (.dcF kvs)):=s1.put D ao mt ⟨xs,⟨o,u,d9,hO⟩,KT.ext put B,hz⟩;have l:p≠a:=by rintro rfl;rw[d9]at s;cases s
   have R:Ext mu1 mu1 (upd H1 a (.frz o u)) (upd (upd H1 a (.frz o u)) p (.lst [])):=Ext.fresh s;have hlen:kvs.length=xs.length:=by have:=B.keys.length;simpa using this
   have J1:ItR K (ItD a o xs) ⟨kvs.map λq=>tkD q.1,[]⟩ mu1 (upd H1 a (.frz o u)):=by
    intro i H2 mu2 L x2 s2 _;have hf:=x2.frz a o u d9;refine⟨λd A=>?_,λh=>⟨⟨u,hf⟩,by rw[lM1]at h;lia⟩⟩;have hi:i<xs.length:=by have:=(gE1.mp A).1;rw[lM1]at this;lia
    refine⟨⟨⟨u,hf⟩,hi⟩,?_⟩;rintro y H3 ⟨rfl,q,eq,rfl⟩;exact⟨.refl _ _,s2,((KT.ext put B).keyOf A eq).exw x2⟩
   refine tQ (hb p) J1 R.w d9 (sf.notin s) .nil ((DU k keep (he.ext (x1.trans put))).ext R) (sf.fresh s) e2 (by simpa using hl) fun σ' H' mu' F I wq V U he' s'=>?_;have G:H' a=Z (.frz o u):=I.frz a o u (by rw[d0 l.symm];exact d9);have h1:∀xs,u ≠ .tup xs:=λxs z=>by subst z;cases A
   have h2:∀xs,u ≠ .lst xs:=λxs z=>by subst z;cases A
   refine⟨a,o,u,G,h1,nf,?_⟩;have C:=(bW.mp I.pre).2;have na:mu'[n]?=Z a:=by
    obtain⟨t,rfl⟩:=C;rw[gL1 (gE1.mp D).1];exact D
   have ne1:∀{b:dE},H1 b=Y->b≠a:=λ{b} z=>by rintro rfl;rw[ao]at z;cases z
   have y:Ext mu1 (mu'++[p]) H1 (upd H' a u):=by
    refine⟨C.trans (bu _ _),λb w e nb=>?_,λb ys e=>?_,λb x w e=>?_,λb aq=>?_⟩
    ·have T:b≠a:=λz=>nb (by rw[z];exact gM1 D);have bp:b≠p:=by rintro rfl;rw[d0 l,e]at s;cases s
     rw[d0 T];exact I.old b w (by rw[d0 bp,d0 T];exact e) λz=>by
      rcases aF.mp z with z|z
      ·exact bp z
      ·exact nb z
    ·exact(sK (mu:=mu') G h1 h2).tup b ys (I.tup b ys (R.tup b ys (put.tup b ys e)))
    ·have T:b≠a:=by rintro rfl;rw[ao]at e;cases e;cases A
     rw[d0 T];exact I.frz b x w (R.frz b x w (put.frz b x w e))
    ·rcases aG.mp aq with z|z
     ·rcases I.new b (mC1 _ z)with q|q
      ·rcases aF.mp q with q|q
       ·exact .inr (by rw[q];rw[d0 l]at s;exact s)
       ·exact .inl q
      ·by_cases au:b=p
       ·exact .inr (by rw[au];rw[d0 l]at s;exact s)
       ·rw[d0 au]at q;by_cases P:b=a
        ·exact .inl (by rw[P];exact gM1 D)
        ·rw[d0 P]at q;exact .inr q
     ·have:b=p:=by simpa using z
      exact .inr (by rw[this];rw[d0 l]at s;exact s)
   have tx:=sK (mu:=mu') G h1 h2;have am:Sim K (upd H' a u) mu' (L.set n x):=s'.thaw na tx (back _ _ ⟨C,y.tup,λb x w e=>y.frz b x _ e⟩ d9);have N:upd H' a u p=Z (.lst F):=by rw[d0 l];exact wq
   refine hc _ _ (mu'++[p]) (x1.trans y) (by rw[show L.length=(L.set n x).length by simp];exact .ref (gf am.len p)) ⟨by rw[lA1,lA1,am.len];rfl,?_,λj w b h1 h2=>?_⟩
   ·rw[bw];refine⟨am.nd,by simp,λb hb c hc e=>?_⟩;have:c=p:=by simpa using hc
    subst this;subst e;exact V hb
   ·by_cases B:j<(L.set n x).length
    ·rw[gL1 B]at h1;rw[gL1 (by rw[am.len];exact B)]at h2;exact(am.ob j w b h1 h2).mor [p]
    ·have W:j=(L.set n x).length:=by
      have:=(gE1.mp h1).1;rw[lA1]at this;simp at this B;simp;lia
     subst W;rw[gR1 (nR1 _)]at h1;rw[<- am.len,gR1 (nR1 _)]at h2;simp at h1 h2;subst h1;subst h2;exact⟨F,N,((by simpa using U:d5 K H' mu' ys F).exv tx).mor [p]⟩
  ·cases f
 |_=>cases f
theorem pp{X:Cx}{elt tg iter:Expr}{ifs:List Expr}{scope:dS}{pos:Pos}{T:List Str}{keep:List Nat}{j:List (Str×dE)}{m:FE}{g:FG}{t:FT}{e:FE}(hc:X.calm=M)(C:GR X scope T keep)(d:jx X.env.cells scope.names []=Z j)(hi:XE X iter m)(hb:∀s H b,Jd (cxC X scope j T keep s H b) X.K tg ifs elt g t e)(hs:autoParam (∀x,foldedSetIterable iter X.env x=pure x) du0):XE X (.ListComp elt [⟨tg,iter,ifs,0⟩] scope pos) (lX T.length keep m g t (eJ e)):=by
 refine⟨λag s σ H Q I h=>?_⟩;have n:=wo (g:=Eo X.K g) (ti:=zl X.K t) (emit:=qf elt) (tb:=λp=>sL p (tM X.K e)) hc (λit i f=>uW elt tg iter ifs scope pos it i f) C d (EZ (tg:=tg) hi.h) (λs H b p=>⟨(hb s H b).g.h,(hb s H b).t.h,rf (hb s H b).e.h p⟩) hs;refine wpAny_mono (n ag s σ H _ I (Bg (λa E σ H q=>ox q) h)) ?_ λ_ _ x=>x;rintro v y ⟨x,H2,l,r2,a,o,u,k,w,r,q⟩;exact⟨x,upd H2 a u,tV l k r (λc z=>by cases z) (λc z=>by cases z) (l.hok a _ k).2,r2,q⟩
theorem vJ.lt{xs:Array Nat}(h:vJ xs){a b u v:Nat}(e:a<b)(d:xs[a]?=Z u)(c:xs[b]?=Z v):u<v:=by
 rw[<- aT1]at d c;obtain⟨g,d⟩:=gE1.mp d;obtain⟨f,c⟩:=gE1.mp c;have:=cu.mp h a b g f e;rw[d,c]at this;exact this
structure Bs (xs:Array Nat)(j i:Nat):Prop where
 le:i<=xs.size
 lo:∀k v,xs[k]?=some v->k<i->v<j
 hi:∀k v,xs[k]?=some v->i<=k->j<=v
theorem Bs.uniq{xs:Array Nat}{j i i':Nat}(h:Bs xs j i)(h':Bs xs j i'):i=i':=by
 rcases Nat.lt_trichotomy i i' with z|z|z
 ·have a:i<xs.size:=nL1 z h'.le;have e:=aG1 a;have:=h.hi _ _ e (nR1 _);have:=h'.lo _ _ e z;lia
 ·exact z
 ·have a:i'<xs.size:=nL1 z h.le;have e:=aG1 a;have:=h'.hi _ _ e (nR1 _);have:=h.lo _ _ e z;lia
theorem Bl{xs:Array Nat}{j:Nat}(hr:vJ xs):∀n lo hi:Nat,lo<=hi->hi<=xs.size->hi-lo<=n->(∀k v,xs[k]?=Z v->k<lo->v<j)->(∀k v,xs[k]?=Z v->hi<=k->j<=v)->Bs xs j (SetTable.below.go xs j n lo hi)
 |0,lo,hi,h1,h2,h,c,a=>by
  have:lo=hi:=by lia
  subst this;exact⟨h2,c,a⟩
 |n + 1,lo,hi,h1,h2,h,c,a=>by
  rw[SetTable.below.go];by_cases f:lo<hi
  ·rw[ak f];have d:(lo+hi)/2<xs.size:=by lia
   have b:=aG1 d;have i:xs.getD ((lo+hi)/2) j=xs[(lo+hi)/2]:=by simp[Array.getD,d]
   dsimp only;rw[i];by_cases hc:xs[(lo+hi)/2]<j
   ·rw[ak hc];refine Bl hr n _ _ (by lia) h2 (by lia) (λk v e g=>?_) a;rcases bV k ((lo+hi)/2)with z|z
    ·have:=hr.lt z e b;lia
    ·have:k=(lo+hi)/2:=by lia
     subst this;rw[b]at e;cases e;exact hc
   ·rw[aj hc];refine Bl hr n _ _ (by lia) (by lia) (by lia) c λk v e g=>?_;rcases bV ((lo+hi)/2) k with z|z
    ·have:=hr.lt z b e;lia
    ·have:k=(lo+hi)/2:=by lia
     subst this;rw[b]at e;cases e;lia
  ·rw[aj f];have:lo=hi:=by lia
   subst this;exact⟨h2,c,a⟩
theorem oC{xs:Array Nat}(hr:vJ xs)(j:Nat):Bs xs j (SetTable.below xs j):=
 Bl hr _ 0 _ (bh _) (nR1 _) (by lia) (λ_ _ _ h=>absurd h (bv _)) λk v e h=>by
  have:=(Array.getElem?_eq_some_iff.mp e).1;lia
theorem tY{α:Type}(xs:Array α)(p:Nat)(x:α):(SetTable.insertAt xs p x).toList=xs.toList.take p++x::xs.toList.drop p:=by
 unfold SetTable.insertAt;rw[cv,cw,cy,cy];simp[List.extract_eq_drop_take];rw[b8 (by simp)]
theorem B4{xs:Array Nat}(hr:vJ xs){j:Nat}(hn:xs[SetTable.below xs j]? ≠ Z j):vJ (SetTable.insertAt xs (SetTable.below xs j) j):=by
 have b:=oC hr j;unfold vJ;rw[tY,cA,cb];have lo:∀v∈xs.toList.take (SetTable.below xs j),v<j:=λv h=>by
  obtain⟨k,d⟩:=bo h;rw[List.getElem?_take]at d;split at d
  ·rename_i f;exact b.lo k v (by rw[<- aT1];exact d) f
  ·cases d
 have hi:∀v∈xs.toList.drop (SetTable.below xs j),j<v:=λv h=>by
  obtain⟨k,d⟩:=bo h;rw[cB,aT1]at d;have h1:=b.hi _ v d (bq _ _);rcases bV j v with z|z
  ·exact z
  ·exfalso;have g:v=j:=by lia
   subst g;cases k with
   |zero=>exact hn d
   |succ k=>
    have l:SetTable.below xs v<xs.size:=by have:=(Array.getElem?_eq_some_iff.mp d).1;lia
    have e:=aG1 l;have:=b.hi _ _ e (nR1 _);have:=hr.lt (by lia) e d;lia
 refine⟨hr.sublist (aT _ _),⟨hi,hr.sublist (cC _ _)⟩,λa i c hc=>?_⟩;rcases aF.mp hc with z|z
 ·rw[z];exact lo a i
 ·exact bg (lo a i) (hi c z)
structure TS (l:Bool)(t:SetTable):Prop where
 up:vJ t.place
 du:t.dummies = #[]
 ld:t.led=l
theorem tH{t:SetTable}(hd:t.dummies = #[])(j:Nat):SetTable.has t.dummies j=J:=by rw[hd];rfl
theorem px{t:SetTable}(hd:t.dummies = #[]){f:Nat->Int}{h:Int}:∀(n:Nat) (p:SetTable.Probe) (j:Nat) (d:Option Nat),p.dummy=Y->SetTable.probe.go t f h n p=Z (.empty j d)->d=Y/\t.place[SetTable.below t.place j]? ≠ Z j
 |0,p,j,d,_,e=>by rw[SetTable.probe.go]at e;cases e
 |n+1,p,j,d,hp,e=>by
  have a:(t.advance p).dummy=Y:=by
   unfold SetTable.advance;split
   ·exact hp
   ·dsimp only;exact hp
  rw[SetTable.probe.go]at e;unfold SetTable.slot at e;dsimp only at e;rw[tH hd]at e;by_cases hc:(t.place[SetTable.below t.place p.j]? == Z p.j)=M
  ·rw[ak hc]at e;dsimp only at e;split at e
   ·cases e
   ·exact px hd n _ j d a e
  ·rw[aj hc,aj (by decide)]at e;dsimp only at e;cases e;refine⟨hp,λz=>hc ?_⟩;rw[z];simp
theorem Dh{t:SetTable}(hd:t.dummies = #[]){h:Int}{j:Nat}{b:Bool}(e:t.freeSlot h=Z (j,b)):t.place[SetTable.below t.place j]? ≠ Z j:=by
 unfold SetTable.freeSlot at e;split at e
 ·rename_i c d ep;obtain⟨rfl,a⟩:=px hd _ _ _ _ O ep;cases e;exact a
 ·cases e
theorem kC{l:Bool}{t:SetTable}(h:TS l t)(n:Nat):TS l (t.standIn n):=by
 refine⟨?_,O,h.ld⟩;show(Array.range n).toList.Pairwise (· < ·);rw[Array.toList_range];exact cD
theorem GU{l:Bool}{t:SetTable}(h:TS l t)(n:Nat):TS l (t.orStandIn n):=by
 unfold SetTable.orStandIn;split
 ·exact h
 ·exact kC h n
theorem Eh{l:Bool}{t:SetTable}(ht:TS l t)(es:Array (Int×dB))(h:Int)(x:dB):TS l (layNew t es h x).2.1:=by
 unfold layNew;split
 ·rename_i j b e;show TS l ((t.put j).1.orStandIn _);refine GU (t:=(t.put j).1) ⟨?_,?_,ht.ld⟩ _
  ·exact B4 ht.up (Dh ht.du e)
  ·show(if SetTable.has t.dummies j=M then _ else t.dummies) = #[];rw[tH ht.du,aj (by decide)];exact ht.du
 ·exact kC ht _
theorem rV{α:Type}(f:Nat->Option α):∀l:List Nat,((l.filterMap λj=>(f j).map (j,·)).map (·.1)).Sublist l
 |[]=>.slnil
 |a::l=>by
  rw[aE];cases f a with
  |none=>exact(rV f l).cons a
  |some x=>exact(rV f l).cons₂ a
theorem BX{l p:Bool}{m d c:Nat}{hs:Array Int}{t:SetTable}{a:Array Nat}(e:SetTable.laid m d c l p hs=Z (t,a)):TS l t:=by
 unfold SetTable.laid at e;obtain⟨b,_,e⟩:=oB1.mp e;cases e;refine⟨?_,O,O⟩;unfold vJ;dsimp only;exact List.pairwise_lt_range.sublist (by simpa using rV (λj=>b.getD j Y) (af (m+1)))
theorem zd{l:Bool}{t:SetTable}(ht:TS l t)(es:Array (Int×dB))(n:Nat):TS l (relayAll t es n).2.1:=by
 unfold relayAll;split
 ·rename_i b a e;dsimp only;split
  ·have:=BX e;rw[ht.ld]at this;exact this
  ·exact kC ht _
 ·exact kC ht _
theorem ze(l:Bool):TS l (SetTable.fresh 0 0 l):=⟨List.Pairwise.nil,O,O⟩
theorem Dv{xs:Array Nat}(hr:vJ xs){i:Nat}(hi:i<xs.size):SetTable.below xs (xs[i]+1)=i+1:=by
 refine(oC hr _).uniq ⟨hi,λk v e a=>?_,λk v e a=>?_⟩
 ·rcases bV k i with z|z
  ·have:=hr.lt z e (aG1 hi);lia
  ·have:k=i:=by lia
   subst this;rw[aG1 hi]at e;cases e;lia
 ·have:=hr.lt (show i<k by lia) (aG1 hi) e;lia
theorem Bk{xs:Array Nat}(hr:vJ xs):SetTable.below xs 0=0:=
 (oC hr _).uniq ⟨bh _,λk v e a=>absurd a (bv _),λk v e a=>bh _⟩
noncomputable def JR(e:Int×dB):Int:=match e.2 with
 | .int k _=>k
 |_=>0
structure Els (es:Array (Int×dB))(ns:List Int):Prop where
 el:∀e∈es.toList,∃k t,e=(hashInt k,Value.int k t)
 pm:(es.toList.map JR).Perm ns
theorem Els.of{P:dF}{w:dH}{es:Array (Int×dB)}{ns:List Int}(h:Els es ns):ElemsOf (intKind P w) es.toList:=λe a=>by
 obtain⟨k,t,rfl⟩:=h.el e a;exact⟨⟨k,intKind_is _ _ _ _,O⟩,O⟩
theorem Els.size{es:Array (Int×dB)}{ns:List Int}(h:Els es ns):es.size=ns.length:=by
 have:=h.pm.length_eq;rw[lM1,aJ]at this;exact this
theorem Els.perm{es fs:Array (Int×dB)}{ns:List Int}(h:Els es ns)(p:fs.toList.Perm es.toList):Els fs ns:=
 ⟨λe a=>h.el e (p.mem_iff.mp a),(p.map _).trans h.pm⟩
theorem Els.add{es fs:Array (Int×dB)}{ns:List Int}(h:Els es ns){k:Int}{t:Tok}(p:fs.toList.Perm (es.push (hashInt k,.int k t)).toList):Els fs (ns++[k]):=by
 rw[cw]at p;refine⟨λe a=>?_,?_⟩
 ·rcases aG.mp (p.mem_iff.mp a)with z|z
  ·exact h.el e z
  ·simp at z;exact⟨k,t,z⟩
 ·refine(p.map _).trans ?_;rw[cE];exact h.pm.append (.refl _)
def jF(b:Bool)(p:dE)(ns:List Int)(h:dP):Prop:=∃es ep t l,h.get? p=Z (stO es ep t)/\Els es ns/\es.size<scanBound/\t.fits es.size=M/\TS l t/\(b=J->l=M)
section
variable{P:dF}{w:dH}{A:dG}{E:dB->dD->Prop}{s:dD}{b:Bool}{p:dE}{ns:List Int}
theorem zK{es fs:Array (Int×dB)}{ep:Nat}{t u:SetTable}{h:dP}(e:h.get? p=Z (stO es ep t)):(h.update p (Obj.putSet fs u)).get? p=Z (stO fs (ep+1) u):=by
 have:=hW1 (Obj.putSet fs u) e (by rw[putSet_of fs u O];rfl);rw[putSet_of fs u O]at this;exact this
theorem gw{c:Bool}{Q:Unit->dD->Prop}(q:Q () s):dM (model P w) A (match c with
  |true=>rule "set.scan.the-table-gave-way"
  |false=>pure ()) Q E s:=by cases c<;>first|exact wP1 q|exact wpAny_rule q
theorem J8{k:Int}{tk:Tok}{Q:Bool->dD->Prop}(W:jF b p ns s.heap)(hr:ns.length+1<scanBound)(q:∀c h',Heap.SameBut p s.heap h'->jF b p (step_dedup ns k) h'->Q c {s with heap:=h'}):dM (model P w) A (setAddHashed p (.int k tk) (hashInt k)) Q E s:=by
 obtain⟨es,ep,t,l,m,a,au,G,S,K⟩:=W;have hz:=a.size;have T:ElemsOf (intKind P w) es.toList:=a.of;unfold setAddHashed setAddHashedIn;refine wpAny_holding (wB1 (wpAny_setState_of m O G ?_));dsimp only;rw[byScan_of (knd:=intKind P w) O au T,ak O];unfold setAddByScan;refine wB1 (wB1 (wpAny_rule (wB1 (wpAny_setScan_of (knd:=intKind P w) (k:=k) (intKind_is _ _ _ _) m O G T ?_))));cases hx:List.findIdx? (λe=>(intKind P w).is k e.2) es.toList with
 |some j=>
  obtain⟨N,i,_⟩:=b6.mp hx;have D:k∈ns:=by
   refine a.pm.mem_iff.mp (cf.mpr ⟨_,bS N,?_⟩);obtain⟨k',aq,e⟩:=a.el _ (bS N);rw[e]at i ⊢;exact((intKind P w).inj _ _ _ i (intKind_is P w k' aq)).symm
  have H:step_dedup ns k=ns:=by unfold step_dedup;rw[ak (bR.mpr ⟨k,D,by simp⟩)]
  rw[H]at q;exact wP1 (wP1 (q _ s.heap (Heap.SameBut.refl p s.heap) ⟨es,ep,t,l,m,a,au,G,S,K⟩))
 |none=>
  have H:step_dedup ns k=ns++[k]:=by
   unfold step_dedup;rw[aj λz=>?_];obtain⟨k',D,e⟩:=bR.mp z;have e:=beq_iff_eq.mp e;subst e;obtain⟨x,h,d⟩:=cf.mp (a.pm.mem_iff.mpr D);obtain⟨n,g,rfl⟩:=a.el x h;have d:n=k':=d;subst d;have:=List.findIdx?_eq_none_iff.mp hx _ h;rw[show(intKind P w).is n (hashInt n,Value.int n g).2=M from intKind_is _ _ _ _]at this;cases this
  rw[H]at q;have am:=layNew_perm t es (hashInt k) (.int k tk);have C:=layNew_fits t es (hashInt k) (.int k tk);have y:=Eh S es (hashInt k) (.int k tk);dsimp only;generalize layNew t es (hashInt k) (.int k tk)=L at am C y ⊢;obtain⟨fs,u,X,gv⟩:=L;dsimp only at am C y ⊢;have o:Els fs (ns++[k]):=a.add am;have I:fs.size<scanBound:=by rw[o.size,lA1];exact hr
  refine wB1 (gw ?_);have tail:∀ (c:Bool),dM (model P w) A (do
    storeSet p fs u
    if (!X&&u.tooFull)=true then do
      (match (relayAll u fs (SetTable.grown fs.size)).2.2 with
       |true=>rule "set.scan.the-table-gave-way"
       |false=>pure ())
      storeSet p (relayAll u fs (SetTable.grown fs.size)).1 (relayAll u fs (SetTable.grown fs.size)).2.1
      pure (Z M)
     else pure (Z M)) (λr s'=>dM (model P w) A (match r with
      |some f=>pure f
      |none=>setAddHashedIn p (.int k tk) (hashInt k) 99999) Q E s') E s:=λ_=>by
   refine wB1 (wpAny_storeSet_of m O ?_ (fits_of_scanBound I));have F:=zK (fs:=fs) (u:=u) m;have V:=Heap.SameBut.update s.heap p (Obj.putSet fs u);split
   ·have p2:=relayAll_perm u fs (SetTable.grown fs.size);have B:=relayAll_fits u fs (SetTable.grown fs.size);have g:=zd y fs (SetTable.grown fs.size);generalize relayAll u fs (SetTable.grown fs.size)=L2 at p2 B g ⊢;obtain⟨ao,v,wq⟩:=L2;dsimp only at p2 B g ⊢;have R:=o.perm p2;have U:ao.size<scanBound:=by rw[R.size,<- o.size];exact I
    refine wB1 (gw (wB1 (wpAny_storeSet_of F O ?_ (fits_of_scanBound U))));exact wP1 (wP1 (q _ _ (V.trans (Heap.SameBut.update _ p _)) ⟨ao,_,v,l,zK F,R,U,B,g,K⟩))
   ·exact wP1 (wP1 (q _ _ V ⟨fs,_,u,l,F,o,I,C,y,K⟩))
  split
  ·refine wB1 (wP1 ?_);exact tail M
  ·refine wB1 (wP1 ?_);exact tail M
end
section
variable{P:dF}{w:dH}{A:dG}{E:dB->dD->Prop}{s:dD}
noncomputable def byT(w:dH):Bool:=w.params.followText "set-order"
theorem wB(x:dB){G:dB->dD->Prop}(q:G (.ref s.heap.objs.size) {s with heap:=s.heap.push (stO #[] 0 (.fresh 0 0 (!byT w)))}):
  dN (model P w) A (.call (.builtin "set.__new__") ⟨[.type "set",x],[]⟩) (wants G E) s:=by
 refine codeAny_of_tree (?_:dM _ A.in1 (do checkBuiltinCall "set.__new__" ⟨[.type "set",x],[]⟩;again (.builtin "set.__new__" ⟨[.type "set",x],[]⟩)) _ _ s);refine wB1 (wpAny_of_eq (PySem.F.newCall_set_1 x) (wP1 ⟨plainId_quiet PySem.F.plain_set_new _,wD1 PySem.F.entry_set_new (?_:_)⟩));rw[Around.under_plainId PySem.F.plain_set_new _];unfold Builtin.«set.__new__» Builtin.Frozenset.newClass;have a:=sub_set_self;obtain⟨c,g,d,tk,b⟩:=s;dsimp only
 wp_walk
 refine wpAny_askSetting (wP1 (?_:_));dsimp only;simp only[newObj];exact wB1 (wpAny_alloc (wP1 (wP1 q)))
set_option maxHeartbeats 3200000 in
theorem vD {l:dE}{its:Array dB}{Q:dB->dD->Prop}(H:s.heap.IsList l its)
  (d:∀f:dG,f.handled=A.handled->f.units<=A.units+2 -> ∀R:Result->dD->Prop,(∀s',Q (.ref s.heap.objs.size) s'->R (.ok (.ret .none)) s') ->
   dN (model P w) f (.builtin "set.update.loop" ⟨[.ref s.heap.objs.size,.ref (s.heap.objs.size+1)],[]⟩) R {s with heap:=(s.heap.push (stO #[] 0 (.fresh 0 0 (!byT w)))).push {cls:=.type "list_iterator",data:=.fields #[.ref l,.int 0 0]}}):
  dM (model P w) A (call (.type "set") [.ref l]) Q E s:=by
 obtain⟨T,N,t⟩:=PySem.F.called_set.mro;have i:=PySem.F.called_set.made;have p:=PySem.F.called_set.sub
 refine wpAny_call (codeAny_of_tree (?_:dM _ _ (callAny (.type "set") _) _ _ _));refine wP1 ⟨Code.quiet_builtin _ (by decide+kernel),wD1 PySem.F.entry_type_call (?_:_)⟩;rw[Around.under_plain (weight_type_call_type "set" [.ref l] []) O];have W:=PySem.F.called_set.notType;have K:=PySem.F.called_set.canCreate;have S:=PySem.F.typeCall_set_1 (.ref l)
 repeat(any_goals (first|wp_step|assumption))
 refine codeAny_mono (wB (.ref l) (E:=E) (G:=λx o=>x = .ref s.heap.objs.size/\o={s with heap:=s.heap.push (stO #[] 0 (.fresh 0 0 (!byT w)))}) ⟨O,O⟩) λr o h=>?_;cases r with
 |error e=>exact h
 |ok B=>
  cases B with
  |ret x=>
   obtain⟨rfl,rfl⟩:=h;have k:(s.heap.push (stO #[] 0 (.fresh 0 0 (!byT w)))).get? s.heap.objs.size=Z (stO #[] 0 (.fresh 0 0 (!byT w))):=hS1 _ O;have z:Shared.TypeIs {s with heap:=s.heap.push (stO #[] 0 (.fresh 0 0 (!byT w)))} (.ref s.heap.objs.size) "set":=⟨_,k,O⟩;have L:=PySem.F.called_set.init.lookup;have au:=PySem.F.called_set.init.bind (.ref s.heap.objs.size)
   repeat(any_goals (first|wp_step|assumption))
   refine codeAny_mono (codeAny_call_builtin (R:=wants (λr n=>r = .none/\Q (.ref s.heap.objs.size) n) E) PySem.F.called_set.init.plain PySem.F.entry_set_init (check_set_init_1 z (?_:_))) λr2 n a=>?_
   ·obtain⟨D,g,b,m,c⟩:=H;obtain⟨V,C,X,F⟩:=D;simp only at b c;subst b;subst c;have I:(s.heap.push (stO #[] 0 (.fresh 0 0 (!byT w)))).get? l=Z {cls:=.type "list",dict:=C,data:=.seq its m,slots:=F}:=hP1 _ g;have U:=PySem.F.sub_list_set;have am:=PySem.F.sub_list_frozenset;have ao:(Value.type "list" == Value.type "dict")=J:=by decide
    have y:(s.heap.push (stO #[] 0 (.fresh 0 0 (!byT w)))).IsList l its:=⟨_,I,O,m,O⟩;have v:(s.heap.push (stO #[] 0 (.fresh 0 0 (!byT w)))).get? s.heap.objs.size=Z {cls:=.type "set",dict:=Y,data:=.set #[] 0 (.fresh 0 0 (!byT w)),slots:= #[]}:=k;unfold Builtin.«set.__init__» noKeywords Builtin.Frozenset.updateFrom;generalize j:pyIter=PI
    wp_walk
    subst j;refine wpAny_pyIter_list y (wB1 (wpAny_runValue (?_:_)));dsimp only;rw[show(s.heap.push (stO #[] 0 (.fresh 0 0 (!byT w)))).objs.size=s.heap.objs.size+1 from by rw[hZ1]];refine d A.in1.in1 (by simp) (nR1 _) _ λs' q=>?_;exact wP1 (wP1 ⟨O,q⟩)
   ·cases r2 with
    |error e=>exact a
    |ok u=>
     cases u with
     |ret r=>
      obtain⟨rfl,q⟩:=a
      repeat(any_goals (first|wp_step|assumption))
     |_=>exact a.elim
  |_=>exact h.elim
theorem yG {l:dE}{its:Array dB}{Q:dB->dD->Prop}(c:s.heap.IsList l its)
  (b:∀a:dG,a.handled=A.handled -> ∀R:Result->dD->Prop,(∀s',Q (.ref s.heap.objs.size) s'->R (.ok (.ret .none)) s') ->
   dN (model P w) a (.builtin "set.update.loop" ⟨[.ref s.heap.objs.size,.ref (s.heap.objs.size+1)],[]⟩) R {s with heap:=(s.heap.push (stO #[] 0 (.fresh 0 0 (!byT w)))).push {cls:=.type "list_iterator",data:=.fields #[.ref l,.int 0 0]}}):
  dM (model P w) A (call (.type "set") [.ref l]) Q E s:=vD c λa h _=>b a h
end
section
variable{P:dF}{w:dH}{A:dG}{E:dB->dD->Prop}{b:Bool}
theorem jF.old{p:dE}{ns:List Int}{h h':dP}(x:jF b p ns h)(k:∀o,h.get? p=Z o->h'.get? p=Z o):jF b p ns h':=by
 obtain⟨es,ep,t,l,e,r⟩:=x;exact⟨es,ep,t,l,k _ e,r⟩
theorem oo:∀(ns acc:List Int),(ns.foldl step_dedup acc).length<=acc.length+ns.length
 |[],acc=>by simp
 |n::ns,acc=>by
  rw[b9];have h1:=oo ns (step_dedup acc n);have h2:(step_dedup acc n).length<=acc.length+1:=by unfold step_dedup;split<;>simp
  rw[lC1];lia
theorem zt{p l it:dE}{its:Array dB}{ns:List Int}{R:Result->dD->Prop}(E:A.handled=none)(C:IntsAre its.toList ns)(hb:ns.length+1<scanBound)(L:p≠l)(m:p≠it)(am:it≠l):
  ∀(k i:Nat) (s:dD),its.size-i=k->i<=its.size->s.heap.IsListIter it l i->s.heap.IsList l its->jF b p ((ns.take i).foldl step_dedup []) s.heap ->
  (∀h' tk,(∀c o,c≠p->c≠it->s.heap.get? c=Z o->h'.get? c=Z o)->jF b p (ddI ns) h'->R (.ok (.ret .none)) {s with heap:=h',toks:=tk})->dN (model P w) A (.builtin "set.update.loop" ⟨[.ref p,.ref it],[]⟩) R s:=by
 have d:its.size=ns.length:=by rw[<- aJ];exact C.length
 intro k
 induction k with
 |zero=>
  intro i s G hi st h n q;have e:i=its.size:=by lia
  subst e;refine wD1 PyProof.Rows.F.entry_set_update_loop (?_:_);rw[Around.under_plainId PyProof.Rows.F.plain_set_update_loop _];show dM _ A.in1 (pyNext (.ref it) >>= _) _ _ s;refine wB1 (wpAny_pyNext_list_end (by simpa using E) st h (by simp) λh' z=>wP1 ?_);refine q h' s.toks (λc o _ hc e=>z c o hc e) ?_;have:=n.old (h':=h') λo e=>z p o m e;rw[d,bY]at this;exact this
 |succ k ih=>
  intro i s G hi st h n q;have g:i<its.size:=by lia
  have y:=aG1 g;obtain⟨t,ao⟩:=PyProof.Rows.IntsAre.int_at C i its[i] (by rw[aT1];exact y);refine wD1 PyProof.Rows.F.entry_set_update_loop (?_:_);rw[Around.under_plainId PyProof.Rows.F.plain_set_update_loop _];show dM _ A.in1 (pyNext (.ref it) >>= _) _ _ s;refine wB1 (wpAny_pyNext_list_item st h y λh' st' B=>?_);rw[ao];show dM _ A.in1 (holding [Value.int (ns.getD i 0) t] (setAdd p (.int (ns.getD i 0) t)) >>= _) _ _ _;refine wB1 (wpAny_holding ?_);unfold setAdd;refine wpAny_holding (wB1 (wpAny_pyHash_int ?_));have u:jF b p ((ns.take i).foldl step_dedup []) h':=n.old λo e=>by rw[B.2 p m];exact e
  have j:=oo (ns.take i) [];refine J8 (s:={s with heap:=h',toks:=s.toks+1}) (k:=ns.getD i 0) u (by rw[aQ,bd]at j;lia) λc h2 a f=>?_;have H:ns[i]?=Z (ns.getD i 0):=by rw[gG1 (by lia)];simp[List.getD,show i<ns.length by lia]
  have K:step_dedup ((ns.take i).foldl step_dedup []) (ns.getD i 0)=(ns.take (i+1)).foldl step_dedup []:=by
   rw[cF,H,List.foldl_append];rfl
  rw[K]at f;have x:∀c o,c≠p->c≠it->s.heap.get? c=Z o->h2.get? c=Z o:=λc o h1 v e=>by rw[a.2 c h1];show h'.get? c=_;rw[B.2 c v];exact e
  have keepIt:∀o,h'.get? it=Z o->h2.get? it=Z o:=λo e=>by rw[a.2 it (Ne.symm m)];exact e
  refine wP1 ⟨plainId_quiet PyProof.Rows.F.plain_set_update_loop _,ih (i+1) {s with heap:=h2,toks:=s.toks+1} (by lia) g (st'.at keepIt) ?_ f λv tk F I=>?_⟩
  ·obtain⟨o,e,r⟩:=h;exact⟨o,x l o (Ne.symm L) (Ne.symm am) e,r⟩
  ·exact q v tk (λc o h1 D e=>F c o h1 D (x c o h1 D e)) I
theorem yH{s:dD}{l:dE}{its:Array dB}{ns:List Int}{Q:dB->dD->Prop}(i:A.handled=Y)(d:s.heap.IsList l its)(p:IntsAre its.toList ns)(hb:ns.length+1<scanBound)(q:∀h' tk,(∀c o,s.heap.get? c=Z o->h'.get? c=Z o)->jF (byT w) s.heap.objs.size (ddI ns) h'->Q (.ref s.heap.objs.size) {s with heap:=h',toks:=tk}):dM (model P w) A (call (.type "set") [.ref l]) Q E s:=by
 have a:l<s.heap.objs.size:=by obtain⟨o,e,_⟩:=d;exact hL1 e
 refine yG d λt g R m=>?_;have j:(s.heap.push (stO #[] 0 (.fresh 0 0 (!byT w)))).objs.size=s.heap.objs.size+1:=by rw[hZ1]
 have n:(s.heap.push (stO #[] 0 (.fresh 0 0 (!byT w)))).get? s.heap.objs.size=Z (stO #[] 0 (.fresh 0 0 (!byT w))):=hS1 _ O;refine zt (its:=its) (ns:=ns) (b:=byT w) (g.trans i) p hb (nG1 a) (nN1 (bC _)) (nG1 (cG a)) _ 0 _ O (bh _) ?_ ?_ ?_ λh' tk k x=>m _ (q h' tk (λc o e=>k c o (nN1 (hL1 e)) (nN1 (cG (hL1 e))) (hP1 _ (hP1 _ e))) x)
 ·refine⟨{cls:=.type "list_iterator",data:=.fields #[.ref l,.int 0 0]},?_,O,O⟩;have this:((s.heap.push (stO #[] 0 (.fresh 0 0 (!byT w)))).push {cls:=.type "list_iterator",data:=.fields #[.ref l,.int 0 0]}).get? (s.heap.push (stO #[] 0 (.fresh 0 0 (!byT w)))).objs.size=Z {cls:=.type "list_iterator",data:=.fields #[.ref l,.int 0 0]}:=hS1 _ O;rw[j]at this;exact this
 ·obtain⟨o,e,r⟩:=d;exact⟨o,hP1 _ (hP1 _ e),r⟩
 ·refine⟨#[],0,_,!byT w,hP1 _ n,⟨λe f=>by simp at f,.refl _⟩,by decide,O,ze _,λh=>by rw[h];rfl⟩
end
theorem jh:Slot "set_iterator" "__next__" "set_iterator.__next__":=
 .of (owner:="set_iterator") (n:="__next__") (by rw[typeLookup_type,builtinLookup_eq_fast];kernel_rfl) (by decide+kernel) (by decide+kernel) (by decide+kernel) (by first|exact .inl (by decide+kernel)|exact .inr (by decide+kernel)) (by rw[isSubtype_type];kernel_rfl)
theorem qa:entryFor table "set_iterator.__next__"=Z Builtin.«set_iterator.__next__» :=entryFor_of_tree (by kernel_rfl)
theorem uB(x:dB):argsOk "set_iterator.__next__" ⟨[x],[]⟩:=by unfold argsOk;kernel_rfl
theorem ui:entryFor table "set.__iter__"=Z Builtin.«frozenset.__iter__» :=entryFor_alias (id':="frozenset.__iter__") (by kernel_rfl) O (by decide+kernel) (by kernel_rfl)
abbrev GJ(h:dP)(it a:dE)(f:dB)(i n ep:Nat):Prop:=h.get? it=Z {cls:=.type "set_iterator",dict:=Y,data:=.fields #[f,.int i 0,.ref a,.int n 0,.int ep 0],slots:= #[]}
noncomputable def lJ(t:SetTable)(i:Nat):Nat:=match i with
 |0=>0
 |i+1=>t.place.getD i 0+1
inductive uD (w:dH)(h:dP)(a:dE)(es:Array (Int×dB))(ep:Nat)(t:SetTable):dB->Nat->List dB->Prop
 |txt (b:byT w=true) (i:Nat) (sl:Nat):uD w h a es ep t (.int sl 0) i ((pickOrder (w.params.setOrder a ep) es).toList.map (·.2))
 |drw (b:byT w=false) (d:(!t.plain&&decide (es.size>1))=true) (i:Nat) (tp:dE) (ps:List Nat) (e:h.get? tp=some {cls:=.type "tuple",data:=.seq (ps.map λj=>Value.int (j:Nat) 0).toArray}) (pm:ps.Perm (af es.size)):uD w h a es ep t (.ref tp) i (ps.map λj=>(es[j]?.map (·.2)).getD .none)
 |plc (b:byT w=false) (d:(!t.plain&&decide (es.size>1))=false) (ld:t.led=true) (up:vJ t.place) (i:Nat):uD w h a es ep t (.int (lJ t i) 0) i (es.toList.map (·.2))
theorem pG{α:Type}(f:Nat->Nat):∀(n k:Nat) (l:List α) (out:Array α),l.length=n->(pickOrder.go f n k l out).toList.Perm (out.toList++l)
 |0,k,l,out,h=>by
  rw[pickOrder.go,cq.mp h,aM]
 |n+1,k,l,out,h=>by
  have b:f k%l.length<l.length:=Nat.mod_lt _ (by lia);rw[pickOrder.go,gG1 b];refine(pG f n (k+1) _ _ (by rw[cH b];lia)).trans ?_;rw[cw,bG];refine List.Perm.append_left _ ?_;have c:l=l.take (f k%l.length)++l[f k%l.length]::l.drop (f k%l.length+1):=by rw[List.getElem_cons_drop,cI]
  rw[cJ];refine List.Perm.trans ?_ (List.Perm.of_eq c.symm);exact(List.perm_middle (l₁:=l.take (f k%l.length)) (l₂:=l.drop (f k%l.length+1)) (a:=l[f k%l.length])).symm
theorem uD.perm{w:dH}{h:dP}{a:dE}{es:Array (Int×dB)}{ep:Nat}{t:SetTable}{f:dB}{i:Nat}{pl:List dB}(y:uD w h a es ep t f i pl):pl.Perm (es.toList.map (·.2)):=by
 cases y with
 |txt=>exact(pG _ _ _ _ _ O).map _
 |drw _ _ _ d ps e c=>
  refine(c.map _).trans ?_;have:(af es.size).map (λj=>(es[j]?.map (·.2)).getD .none)=es.toList.map (·.2):=by
   apply bZ;intro j;rw[gP1,gP1,aT1 (xs:=es)];by_cases b:j<es.size
   ·rw[cK b,oP1,aG1 b];rfl
   ·rw[b4 (by simpa using b),cr (by lia)];rfl
  rw[this]
 |plc=>exact .refl _
theorem uD.len{w:dH}{h:dP}{a:dE}{es:Array (Int×dB)}{ep:Nat}{t:SetTable}{f:dB}{i:Nat}{pl:List dB}(y:uD w h a es ep t f i pl):pl.length=es.size:=by
 rw[y.perm.length_eq,lM1,aJ]
section
variable{P:dF}{w:dH}{A:dG}{E:dB->dD->Prop}{s:dD}{it a:dE}{f:dB}{i ep:Nat}{es:Array (Int×dB)}{t:SetTable}{pl:List dB}
theorem qv{Q:Bool->dD->Prop}(q:Q (byT w) s):dM (model P w) A setsByText Q E s:=by unfold setsByText;exact wB1 (wpAny_askSetting (wP1 q))
theorem zp{sl:Nat}{Q:Option (dB×Nat)->dD->Prop}(b:byT w=M)(ho:s.heap.get? a=Z (stO es ep t))(hf:t.fits es.size=M)(q:Q (((pickOrder (w.params.setOrder a ep) es)[i]?).map λe=>(e.2,sl)) s):dM (model P w) A (setNext a sl i ep) Q E s:=by
 unfold setNext;refine wB1 (wpAny_setState_of ho O hf (wB1 (qv ?_)));rw[b,ak O,aj (by simp)];refine wB1 ?_;unfold setWalk;refine wB1 (wpAny_setState_of ho O hf (wB1 (qv ?_)));rw[b,ak O];exact wB1 (wpAny_askSetting (wP1 (wP1 q)))
theorem Dw(b:vJ t.place)(hi:i<=t.place.size):SetTable.below t.place (lJ t i)=i:=by
 cases i with
 |zero=>exact Bk b
 |succ j=>
  have a:j<t.place.size:=hi;show SetTable.below t.place (t.place.getD j 0+1)=j+1;rw[show t.place.getD j 0=t.place[j]from by simp[Array.getD,a]];exact Dv b a
theorem zq{Q:Option (dB×Nat)->dD->Prop}(b:byT w=J)(d:(!t.plain&&decide (es.size>1))=J)(g:t.led=M)(h:vJ t.place)(ho:s.heap.get? a=Z (stO es ep t))(hf:t.fits es.size=M)(hi:i<=es.size)(q:Q ((es[i]?).map λe=>(e.2,lJ t (i+1))) s):dM (model P w) A (setNext a (lJ t i) i ep) Q E s:=by
 have k:t.place.size=es.size:=by
  unfold SetTable.fits at hf;rw[bA1,beq_iff_eq]at hf;exact hf.1
 unfold setNext;refine wB1 (wpAny_setState_of ho O hf (wB1 (qv ?_)));rw[b,aj (by decide)];rw[aj (λz=>by have f:(!t.plain&&decide (es.size>1))=M:=z;rw[d]at f;cases f)];refine wB1 ?_;show dM _ _ (if(!t.led && !es.isEmpty)=M then _ else _) _ _ _;rw[aj (by rw[g];simp)];refine wP1 ?_;dsimp only;rw[Dw h (by omega)];by_cases c:i<es.size
 ·rw [aG1 c] at q ⊢;rw [aG1 (show i<t.place.size by omega)];have j:lJ t (i+1)=t.place[i]+1:=by
   show t.place.getD i 0+1=_;rw[show t.place.getD i 0=t.place[i]from by simp[Array.getD,show i<t.place.size by omega]]
  rw[j]at q;exact wP1 q
 ·rw[cr (by omega)]at q ⊢;exact wP1 q
theorem BP{Q:Option dB->dD->Prop}(h:GJ s.heap it a f i es.size ep)(ho:s.heap.get? a=Z (stO es ep t))(hf:t.fits es.size=M)(y:uD w s.heap a es ep t f i pl){x:dB}(hx:pl[i]? = Z x)(au:∀ g,f = .ref g->g≠it)(q:∀h' k,GJ h' it a k (i+1) es.size ep->(∀c o,c≠it->s.heap.get? c=Z o->h'.get? c=Z o)->uD w h' a es ep t k (i+1) pl->(∀g,k = .ref g->f = .ref g)->Q (Z x) {s with heap:=h'}):dM (model P w) A (pyNext (.ref it)) Q E s:=by
 have am:s.TypeIs (.ref it) "set_iterator":=⟨_,h,O⟩;unfold pyNext;refine wB1 (wpAny_attempt (wpAny_callSpecial?_slot (name:=Str.ofString "__next__") am jh (wE1 jh am qa ?_ (uB _))));refine wB1 (wP1 (wB1 (wpAny_fieldsOf h O ?_)));dsimp only;refine wB1 (wpAny_setEntries_of ho O hf ?_);rw[aj (by simp)];have R:i<es.size:=by have:=(gE1.mp hx).1;rw[y.len]at this;exact this
 have two:∀ (k:dB),(∀ g,k = .ref g->f = .ref g)->(∀ h',(∀ c o,c≠it->s.heap.get? c=some o->h'.get? c=some o)->uD w h' a es ep t k (i+1) pl) ->
   dM (model P w) A.in1 (setField (.ref it) 0 k >>= fun _=>setField (.ref it) 1 (rawInt ((i:Int)+1)) >>= fun _=>ret x) (fun D s'=>∃ v,D=Fin.done (Flow.ret v)/\dM (model P w) A (pure (some v)) Q E s') (fun e s'=>dM (model P w) A (do
     let y<-isInstance e (.type "StopIteration")
     if y=M then pure Y else throw e) Q E s') s:=λk ao N=>by
  refine wB1 (wS1 h (by simp) λh1 L B=>wB1 (wS1 (s:={s with heap:=h1}) L (by simp) λh2 u l=>wP1 ⟨_,O,wP1 ?_⟩));have m:∀c o,c≠it->s.heap.get? c=Z o->h2.get? c=Z o:=λc o hc e=>l.extBut c o hc (B.extBut c o hc e);refine q h2 k ?_ m (N h2 m) ao;have e:((i+1:Nat):Int)=(i:Int)+1:=by lia
  unfold GJ;rw[e];simpa[rawInt]using u
 cases y with
 |txt b _ r=>
  refine wB1 (zp (i:=i) (sl:=r) (ep:=ep) b ho hf ?_);rw[gP1,aT1]at hx;obtain⟨e,p,rfl⟩:=oM1.mp hx;rw[p];exact two (.int r 0) (λg z=>by cases z) λh' _=>.txt b _ r
 |plc b d F H _=>
  refine wB1 (zq (i:=i) b d F H ho hf (by lia) ?_);rw[gP1,aT1]at hx;obtain⟨e,p,rfl⟩:=oM1.mp hx;rw[p];exact two (.int (lJ t (i+1)) 0) (λg z=>by cases z) λh' _=>.plc b d F H _
 |drw b d _ g ps e K=>
  rw[gP1]at hx;obtain⟨j,G,rfl⟩:=oM1.mp hx;have n:j<es.size:=by have:=K.mem_iff.mp (gM1 G);simpa using this
  refine wB1 (wpAny_seqItems e O ?_);have C:((ps.map λj=>Value.int (j:Nat) 0).toArray)[((i:Int)).toNat]?=Z (.int (j:Nat) 0):=by
   rw[Int.toNat_natCast,cj,gP1,G];rfl
  dsimp only;rw[C];dsimp only;refine wB1 ?_;unfold setNextDrawn;refine wB1 (wpAny_setState_of ho O hf ?_);dsimp only;rw[aj (by simp),Int.toNat_natCast,aG1 n];refine wP1 (wB1 (wS1 h (by simp) λh2 u l=>wP1 ⟨_,O,wP1 ?_⟩));have m:∀c o,c≠it->s.heap.get? c=Z o->h2.get? c=Z o:=λc o hc e=>l.extBut c o hc e;have I:=q h2 (.ref g) ?_ m (.drw b d _ g ps (m g _ (au g O) e) K) λ_ z=>z
  ·rw[aG1 n]at I;exact I
  ·have e:((i+1:Nat):Int)=(i:Int)+1:=by lia
   unfold GJ;rw[e];simpa[rawInt]using u
theorem uY{Q:Option dB->dD->Prop}{G:Fin->dD->Prop}(d:A.handled=none)(q:∀ h',(∀ c o,s.heap.get? c=some o->h'.get? c=some o)->Q none {s with heap:=h'}):
  dM (model P w) A.in1 (newExc (.type "StopIteration") [] >>= fun e=>raiseNew e) G (fun e s'=>dM (model P w) A (do
     let y<-isInstance e (.type "StopIteration")
     if y=M then pure Y else throw e) Q E s') s:=by
 refine wB1 ?_;simp only[newExc,newTuple];refine wB1 (wO1 ?_ (by size_fits));refine wB1 (m:=firstArgMember _ _) (wpAny_of_eq (a:=Value.none) (by first|rfl|(simp only[firstArgMember];rfl)) ?_);refine wO1 ?_ (by size_fits);simp only[raiseNew];refine wB1 (wpAny_handled ?_);rw[show A.in1.handled=Y from d];refine wB1 (wP1 (wpAny_throw (?_:_)));refine wB1 (wpAny_isInstance (b:=M) (T:="StopIteration") ⟨_,hS1 _ O,O⟩ isSubtype_stop (?_:_));exact wP1 (q _ λb o e=>hP1 _ (hP1 _ e))
theorem D9{Q:Option dB->dD->Prop}(n:A.handled=Y)(h:GJ s.heap it a f es.size es.size ep)(ho:s.heap.get? a=Z (stO es ep t))(hf:t.fits es.size=M)(y:uD w s.heap a es ep t f es.size pl)(q:∀h',(∀c o,c≠it->s.heap.get? c=Z o->h'.get? c=Z o)->Q Y {s with heap:=h'}):dM (model P w) A (pyNext (.ref it)) Q E s:=by
 have u:s.TypeIs (.ref it) "set_iterator":=⟨_,h,O⟩;unfold pyNext;refine wB1 (wpAny_attempt (wpAny_callSpecial?_slot (name:=Str.ofString "__next__") u jh (wE1 jh u qa ?_ (uB _))));refine wB1 (wP1 (wB1 (wpAny_fieldsOf h O ?_)));dsimp only;refine wB1 (wpAny_setEntries_of ho O hf ?_);rw[aj (by simp)];have l:=y.len;cases y with
 |txt b _ z=>
  refine wB1 (zp (i:=es.size) (sl:=z) (ep:=ep) b ho hf ?_);rw[cr (by rw[lM1,aJ]at l;lia)];refine wB1 (wS1 h (by simp) λh1 p g=>?_);exact uY (s:={s with heap:=h1}) n λh' k=>q h' λc o hc e=>k c o (g.extBut c o hc e)
 |plc b d v x _=>
  refine wB1 (zq (i:=es.size) (ep:=ep) b d v x ho hf (nR1 _) ?_);rw[cr (nR1 _)];refine wB1 (wS1 h (by simp) λh1 p g=>?_);exact uY (s:={s with heap:=h1}) n λh' k=>q h' λc o hc e=>k c o (g.extBut c o hc e)
 |drw b d _ D ps e B=>
  refine wB1 (wpAny_seqItems e O ?_);have r:((ps.map λj=>Value.int (j:Nat) 0).toArray)[((es.size:Int)).toNat]?=Y:=by
   rw[Int.toNat_natCast,cj,b4 (by rw[lM1]at l ⊢;lia)]
  dsimp only;rw[r];dsimp only;refine wB1 (wS1 h (by simp) λh1 p g=>?_);refine wB1 (wS1 (s:={s with heap:=h1}) p (by simp) λh2 C m=>?_);exact uY (s:={s with heap:=h2}) n λh' k=>q h' λc o hc e=>k c o (m.extBut c o hc (g.extBut c o hc e))
theorem Bi{a:Source}{n:Nat}{Q:Nat->dD->Prop}(hn:n≠0)(q:∀i c,i<n->Q i {s with drawn:=c}):dM (model P w) A (choose a n) Q E s:=fun Γ p b=>by
 unfold choose;rw[Sem.wp_choose];refine⟨hn,?_⟩;exact wP1 (A:=A) (E:=E) (q _ _ (Nat.mod_lt _ (Nat.pos_of_ne_zero hn))) Γ p b
theorem Bc{α:Type}:∀(n:Nat) (xs:List α) (s:dD) (Q:List α->dD->Prop),xs.length=n->(∀ys b,ys.Perm xs->Q ys {s with drawn:=b})->dM (model P w) A (drawOrder n xs) Q E s
 |0,xs,s,Q,h,q=>by
  have:=cq.mp h;subst this;exact wP1 (q [] s.drawn (.refl _))
 |n+1,[],s,Q,h,q=>by simp at h
 |n+1,x::xs,s,Q,h,q=>by
  rw[drawOrder];refine wB1 (Bi (by simp) λi b hi=>?_);rw[gG1 hi];dsimp only;refine wB1 (Bc n _ _ _ (by rw[cH hi];lia) λys a c=>wP1 (q _ a ?_));refine(c.cons _).trans ?_;have d:x::xs=(x::xs).take i++(x::xs)[i]::(x::xs).drop (i+1):=by rw[List.getElem_cons_drop,cI]
  rw[cJ];refine List.Perm.trans ?_ (List.Perm.of_eq d.symm);exact List.perm_middle.symm
  all_goals simp
theorem BR{l:Bool}{Q:dB->dD->Prop}(ho:s.heap.get? a=some (stO es ep t))(hf:t.fits es.size=true)(H:es.size<scanBound)(B:TS l t)(G:byT w=false->l=true)(q:∀it h' n f pl,(∀c o,s.heap.get? c=some o->h'.get? c=some o)->s.heap.objs.size<=it->GJ h' it a f 0 es.size ep->uD w h' a es ep t f 0 pl->(∀b,f = .ref b->b≠it/\s.heap.objs.size<=b)->Q (.ref it) {s with heap:=h',drawn:=n}):
  dM (model P w) A (pyIter (.ref a)) Q E s:=by
 have y:s.TypeIs (.ref a) "set":=⟨_,ho,rfl⟩;refine wpAny_pyIter_slot y PySem.F.slot_set_iter (wE1 PySem.F.slot_set_iter y ui ?_ (PySem.F.args_set_iter_1 _));unfold Builtin.«frozenset.__iter__»;refine wB1 (m:=Builtin.Frozenset.slot0 _ _) (wP1 ?_);unfold Builtin.Frozenset.sizeOf;refine wB1 (wB1 (wpAny_setEntries_of ho rfl hf (wP1 ?_)));unfold setDrawn;refine wB1 (wB1 (wpAny_setState_of ho rfl hf (wB1 (qv (wP1 ?_)))));show dM _ _ (if (!byT w&&(!t.plain&&decide (es.size>1)))=true then _ else _) _ _ _;have d:∀ (h1:dP) (n:Drawn) (f:dB) (pl:List dB),(∀ c o,s.heap.get? c=some o->h1.get? c=some o)->s.heap.objs.size<=h1.objs.size->(∀ b,f = .ref b->b<h1.objs.size/\s.heap.objs.size<=b)->(∀ h',(∀ c o,h1.get? c=some o->h'.get? c=some o)->uD w h' a es ep t f 0 pl) ->
   dM (model P w) A.in1 (setEpoch a >>= λe=>newFields "set_iterator" [f,rawInt 0,.ref a,rawInt es.size,rawInt e] >>= λr=>ret r) (λd s'=>∃r,d=Fin.done (Flow.ret r) /\ ∃T g,s'.TypeIs r T/\typeLookup (.type T) "__next__"=pure (Z g)/\Q r s') E {s with heap:=h1,drawn:=n}:=by
  intro h1 n f pl C v u F;refine wB1 (wpAny_setEpoch_of (C a _ ho) O hf (wB1 (wO1 (wP1 ⟨_,O,"set_iterator",_,⟨_,hS1 _ O,O⟩,jh.lookup,?_⟩) (by size_fits))));refine q h1.objs.size _ n f pl (λc o e=>hP1 _ (C c o e)) v ?_ (F _ λc o e=>hP1 _ e) λb e=>⟨nN1 (u b e).1,(u b e).2⟩;have:=hS1 h1 (o:={cls:=.type "set_iterator",data:=.fields #[f,.int 0 0,.ref a,.int es.size 0,.int ep 0]}) O;exact this
 by_cases h:byT w=M
 ·rw[aj (by rw[h];simp)];refine wB1 (wP1 ?_);exact d s.heap s.drawn _ _ (λ_ _ e=>e) (nR1 _) (λb z=>by cases z) λh' _=>.txt h 0 0
 ·have h:byT w=J:=by simpa using h
  by_cases p:(!t.plain&&decide (es.size>1))=M
  ·rw[ak (by rw[h,p];rfl)];refine wB1 (Bc es.size (af es.size) s _ (by simp) λys n D=>?_);refine wB1 (m:=newTuple _) (wO1 (s:={s with drawn:=n}) ?_ ?_)
   ·refine d (s.heap.push {cls:=.type "tuple",data:=.seq (ys.map λ(i:Nat)=>rawInt i).toArray}) n (.ref s.heap.objs.size) (ys.map λj=>(es[j]?.map (·.2)).getD .none) (λc o e=>hP1 _ e) (by rw[hZ1];exact aW _) (λb z=>by cases z;exact⟨by rw[hZ1];exact bC _,nR1 _⟩) λh' k=>?_;exact .drw h p 0 _ ys (k _ _ (hS1 _ O)) D
   ·have:=D.length_eq;have x:=fits_of_scanBound H;simp[sizeOk,this,x]
  ·have p:(!t.plain&&decide (es.size>1))=J:=by simpa using p
   rw[aj (by rw[p];simp)];refine wB1 (wP1 ?_);exact d s.heap s.drawn _ _ (λ_ _ e=>e) (nR1 _) (λb z=>by cases z) λh' _=>.plc h p (by rw[B.ld];exact G h) B.up 0
end
theorem uD.keep{w:dH}{h h':dP}{a:dE}{es:Array (Int×dB)}{ep:Nat}{t:SetTable}{f:dB}{i:Nat}{pl:List dB}(y:uD w h a es ep t f i pl)(k:∀c o,f = .ref c->h.get? c=Z o->h'.get? c=Z o):uD w h' a es ep t f i pl:=by
 cases y with
 |txt b _ m=>exact .txt b _ m
 |drw b d _ c ps e j=>exact .drw b d _ c ps (k c _ O e) j
 |plc b d g l _=>exact .plc b d g l _
section
variable{P:dF}{w:dH}{A:dG}{E:dB->dD->Prop}
theorem BQ{it a S:dE}{ep:Nat}{es:Array (Int×dB)}{t:SetTable}{pl:List dB}{res:dB}{R:Result->dD->Prop}(au:A.handled=none)(hf:t.fits es.size=true)(h1:it≠a)(h2:S≠a)(L:S≠it)(hn:es.size<=dL):
  ∀(k i:Nat) (s:dD) (f:dB) (acc:Array dB) (c:Nat),es.size-i=k->i<=es.size->GJ s.heap it a f i es.size ep->s.heap.get? a=Z (stO es ep t)->uD w s.heap a es ep t f i pl->(∀g,f = .ref g->g≠it/\g≠S) ->
  s.heap.get? S=Z {cls:=.type "list",dict:=Y,data:=.seq acc c,slots:= #[]}->acc.toList=pl.take i ->
  (∀h' d E,(∀b u,b≠it->b≠S->s.heap.get? b=Z u->h'.get? b=Z u)->h'.get? S=Z {cls:=.type "list",dict:=Y,data:=.seq d E,slots:= #[]}->d.toList=pl->R (.ok (.ret res)) {s with heap:=h'}) ->
  dN (model P w) A (.builtin "list.extend.loop" ⟨[.ref S,.ref it,res],[]⟩) R s:=by
 intro k
 induction k with
 |zero=>
  intro i s f acc c Q hi l C y B G D I;have e:i=es.size:=by lia
  subst e;have j:=y.len;refine wD1 PySem.F.entry_extend_loop (?_:_);rw[Around.under_plainId PySem.F.plain_extend_loop _];show dM _ A.in1 (pyNext (.ref it) >>= _) _ _ s;refine wB1 (D9 au l C hf y λh' keep=>wP1 ?_);exact I h' acc c (λb u n _ e=>keep b u n e) (keep S _ L G) (by rw[D,<- j,bY])
 |succ k ih=>
  intro i s f acc c Q hi l C y B G D I;have K:i<es.size:=by lia
  have j:=y.len;obtain⟨x,ao⟩:∃x,pl[i]?=some x:=⟨_,gG1 (by lia)⟩;have r:acc.size=i:=by rw[<- aJ,D,aQ];lia
  refine wD1 PySem.F.entry_extend_loop (?_:_);rw[Around.under_plainId PySem.F.plain_extend_loop _];show dM _ A.in1 (pyNext (.ref it) >>= _) _ _ s;refine wB1 (BP l C hf y ao (λg e=>(B g e).1) λh' U z keep T N=>?_);have v:=keep S _ L G;show dM _ A.in1 (updateSeq S (·.push x) >>= _) _ _ _;refine wB1 (wpAny_updateSeq (s:={s with heap:=h'}) v O ?_ (by rw[r];lia) (by show(acc.push _).size<=dL+1;rw[Array.size_push,r];lia));have h:∀b u,b≠S->h'.get? b=Z u->(h'.update S (Obj.mapSeq (·.push x))).get? b=Z u:=λb u n e=>by rw[hU1 _ _ _ _ n];exact e
  refine wP1 ⟨plainId_quiet PySem.F.plain_extend_loop _,ih (i+1) {s with heap:=h'.update S (Obj.mapSeq (·.push x))} U (acc.push x) _ (by lia) K (h it _ (Ne.symm L) z) (h a _ (Ne.symm h2) (keep a _ (Ne.symm h1) C)) (T.keep λg o e q=>h g o (B g (N g e)).2 q) (λg e=>B g (N g e)) (hW1 _ v O) ?_ ?_⟩
  ·rw[cw,D,cF,ao];rfl
  ·intro am d E m H F;exact I am d E (λb u n p e=>m b u n p (h b u p (keep b u n e))) H F
theorem zv:typeLookup (.type "set") "__len__"=pure (Z (.builtin "set.__len__")):=by rw[typeLookup_type,builtinLookup_eq_fast];kernel_rfl
theorem BS {s:dD}{v:dE}{Q:Bool->dD->Prop}(c:s.TypeIs (.ref v) "set")(q:Q J s):dM (model P w) A (Builtin.List.listLengthHint (.ref v)) Q E s:=by
 unfold Builtin.List.listLengthHint;refine wB1 (wpAny_specialOf c zv (?_:_));generalize a:("set.__len__":String)=id0
 wp_delta
 rw[show splitId id0=Z ("set","__len__")from by subst a;decide+kernel];subst a;refine wB1 (wpAny_isInstance (b:=M) c (by rw[isSubtype_type];kernel_rfl) (?_:_));rw[aj (by decide)];dsimp only;rw[ak (by decide+kernel)];exact wB1 (wpAny_typeOf c (wP1 q))
theorem uR{s:dD}{a:dE}{ns:List Int}{Q:List dB->dD->Prop}(W:A.handled=Y)(hx:jF (byT w) a ns s.heap)(q:∀h' p vs ao,(∀b u,s.heap.get? b=Z u->h'.get? b=Z u)->s.heap.objs.size<=h'.objs.size->IntsAre vs ao->ao.Perm ns->Q vs {s with heap:=h',drawn:=p}):dM (model P w) A (collect (.ref a)) Q E s:=by
 obtain⟨es,ep,t,l,I,S,N,au,X,wq⟩:=hx;have m:a<s.heap.objs.size:=hL1 I;unfold collect;refine wB1 (wpAny_runValue (wD1 PySem.F.entry_proto_collect (?_:_)));rw[Around.under_plainId PySem.F.plain_proto_collect _];show dM _ A.in1 (newList [] >>= λl=>again (.builtin "list.__iadd__" ⟨[l,.ref a],[]⟩)) _ _ s;refine wB1 (wO1 (?_:_));refine wP1 ⟨plainId_quiet PySem.F.plain_list_iadd _,wD1 PySem.F.entry_list_iadd (?_:_)⟩;rw[Around.under_plainId PySem.F.plain_list_iadd _];have z:(s.heap.push {cls:=.type "list",data:=.seq ([]:List dB).toArray}).get? s.heap.objs.size=Z {cls:=.type "list",data:=.seq ([]:List dB).toArray}:=hS1 _ O;have h:∀b u,s.heap.get? b=Z u->(s.heap.push {cls:=.type "list",data:=.seq ([]:List dB).toArray}).get? b=Z u:=λb u e=>hP1 _ e;have x:(s.heap.push {cls:=.type "list",data:=.seq ([]:List dB).toArray}).objs.size=s.heap.objs.size+1:=by rw[hZ1]
 have L:s.heap.objs.size≠a:=nG1 m;have h1:Builtin.List.listSameRef (.ref s.heap.objs.size) (.ref a)=J:=by simp[Builtin.List.listSameRef,L]
 show dM _ A.in1 (Builtin.List.listExtendWith (.ref s.heap.objs.size) (.ref a) (.ref s.heap.objs.size)) _ _ {s with heap:=s.heap.push {cls:=.type "list",data:=.seq ([]:List dB).toArray}};generalize s.heap.push {cls:=.type "list",data:=.seq ([]:List dB).toArray}=h₁ at *
 unfold Builtin.List.listExtendWith;refine wB1 (wpAny_typeOf (T:="set") ⟨_,h a _ I,O⟩ ?_);rw[aj (by rw[h1];decide)];refine wB1 (BR (s:={s with heap:=h₁}) (h a _ I) au N X wq λit c p f pl g d K y H=>?_);dsimp only at g d H;have j:=g _ _ z;have r:Shared.TypeIs {s with heap:=c,drawn:=p} (.ref a) "set":=⟨_,g _ _ (h a _ I),O⟩;refine wB1 (wpAny_holding (BS r ?_));rw[ak (by decide+kernel)];refine wB1 (wpAny_rule (wB1 ?_));show dM _ A.in1 (updateSeq s.heap.objs.size (·.push .none) >>= λ_=>updateSeq s.heap.objs.size (·.pop)) _ _ _;refine wB1 (wpAny_updateSeq (s:={s with heap:=c,drawn:=p}) j O ?_);have i:=hW1 (Obj.mapSeq (·.push Value.none)) j O;refine wpAny_updateSeq (s:={s with heap:=c.update s.heap.objs.size (Obj.mapSeq (·.push Value.none)),drawn:=p}) i O ?_;have B:=hW1 (Obj.mapSeq (·.pop)) i O;have n:∀b u,b≠s.heap.objs.size->c.get? b=Z u->((c.update s.heap.objs.size (Obj.mapSeq (·.push Value.none))).update s.heap.objs.size (Obj.mapSeq (·.pop))).get? b=Z u:=λb u C e=>by
  rw[hU1 _ _ _ _ C,hU1 _ _ _ _ C];exact e
 rw[x]at d H;have R:=y.perm;refine wP1 ⟨plainId_quiet PySem.F.plain_extend_loop _,BQ (it:=it) (pl:=pl) W au (nG1 (bg m d)) (nG1 m) (nN1 d) (fits_of_scanBound N) es.size 0
  {s with heap:=(c.update s.heap.objs.size (Obj.mapSeq (·.push Value.none))).update s.heap.objs.size (Obj.mapSeq (·.pop)),drawn:=p} f _ _ O (bh _) (n _ _ (nG1 d) K) (n a _ (nN1 m) (g _ _ (h a _ I))) (y.keep λF o e q=>n F o (nG1 (H F e).2) q) (λF e=>⟨(H F e).1,nG1 (H F e).2⟩) B O λh' G c' keep D aq=>?_⟩
 show dM _ A (load s.heap.objs.size >>= _) _ _ {s with heap:=h',drawn:=p};refine wB1 (wpAny_load D ?_);have hI:∀v∈pl,∃k t,v=Value.int k t:=λv am=>by
  obtain⟨e,U,rfl⟩:=cf.mp (R.mem_iff.mp am);obtain⟨k,t,rfl⟩:=S.el e U;exact⟨k,t,O⟩
 have all:∀vs:List dB,(∀v∈vs,∃k t,v=Value.int k t)->IntsAre vs (vs.map λv=>JR (0,v)):=by
  intro vs
  induction vs with
  |nil=>intro _;exact .nil
  |cons v vs ih=>
   intro am;obtain⟨k,t,rfl⟩:=am v mS1;exact .cons k t (ih λu V=>am u (mC1 _ V))
 refine wP1 (q h' p G.toList (pl.map λv=>JR (0,v)) (λb u e=>?_) (aD (hL1 D)) (by rw[aq];exact all pl hI) ?_)
 ·have C:=hL1 e;exact keep b u (nN1 (bg C d)) (nN1 C) (n b u (nN1 C) (g _ _ (h b u e)))
 ·refine(R.map _).trans ?_;rw[bt];exact S.pm
theorem sO {s:dD}{a:dE}{ns:List Int}{Q:dB->dD->Prop}(o:A.handled=none)(hx:jF (byT w) a ns s.heap)(h:ns.length<64)
  (q:∀h' f L n out,(∀b u,s.heap.get? b=Z u->h'.get? b=Z u)->s.heap.objs.size<=L->h'.get? L=Z (seqObj "list" out n)->IntsAre out.toList (kE ns)->Q (.ref L) {s with heap:=h',drawn:=f}):
  dM (model P w) A (call (.builtin "sorted") [.ref a]) Q E s:=by
 refine Calls.call_function_entry kind_sorted plain_sorted entry_sorted (args_sorted1 _) (?_:_);unfold Builtin.«sorted»;refine wB1 (m:=checkCount "sorted" 1 1 _) (wP1 (wB1 (uR o hx λh' f vs t keep r k l=>?_)));have d:vs.length<64:=by rw[k.length,l.length_eq];exact h
 refine wB1 (wpAny_newList (hsz:=by rw[sizeLine_eq];lia) ?_);have c:(h'.push (seqObj "list" vs.toArray 0)).get? h'.objs.size=Z (seqObj "list" vs.toArray 0):=hS1 _ O;show dM _ _ _ _ _ {s with heap:=h'.push (seqObj "list" vs.toArray 0),drawn:=f};refine wB1 (wpAny_holding (wE1 slot_list_sort ⟨_,c,O⟩ entry_list_sort (list_sort_tree (s:={s with heap:=h'.push (seqObj "list" vs.toArray 0),drawn:=f}) c k d λout j a1 a2 a3=>⟨_,O,?_⟩) (args_list_sort _)));have p:j=kE ns:=re (a2.trans (l.trans (iR ns).symm)) a3 (ny ns);subst p;obtain⟨n,g⟩:=sortedHeap_at (out:=out) c;refine wP1 ⟨_,O,q _ f h'.objs.size n out (λb u e=>?_) r g a1⟩;have i:=keep b u e;show(sortedHeap (h'.push (seqObj "list" vs.toArray 0)) h'.objs.size vs out).get? b=Z u;rw[sortedHeap_old (nN1 (hL1 i)) (by rw[hZ1];exact cG (hL1 i))];exact hP1 _ i
end
def jv:G1:=λd S=>match d7 S d with
 |some (M,xs)=>(jt xs).bind λns=>if ns.length<64 then Z (.ref S.length,S++[.lst ((kE (ddI ns)).map D.int)])else Y
 |_=>Y
def Hi(X:Cx)(vs:List V)(H:Hp)(Q:VK):Prop:=∃a xs ns,vs=[.ref a]/\mU X.K H a xs/\(∀us,eE xs us->IntsAre us ns)/\ns.length+1<scanBound /\ ∀p,H p=Y->Q (.ref p) (upd H p (.ext (jF (byT X.w) p (ddI ns))))
def EJ(X:Cx)(vs:List V)(H:Hp)(Q:VK):Prop:=∃a ns,vs=[.ref a]/\H a=Z (.ext (jF (byT X.w) a ns))/\ns.length<64 /\ ∀p,H p=Y->Q (.ref p) (upd H p (.lst ((kE ns).map V.int)))
theorem ya{ag:List (dE×Obj)}{σ:L2.St}{H:Hp}{s:dD}(I:Inv X ag σ H s)(d:Drawn):Inv X ag σ H {s with drawn:=d}:=⟨I.ok,I.os,I.bare,I.base,I.loc,I.cell,I.free,I.freeC,I.pin,I.hok,I.len⟩
theorem Gu(hc:X.calm=M):fj X (.type "set") (Hi X):=by
 intro ag s σ H xs n Q I r h;obtain⟨a,vs,ns,rfl,i,hi,f,q⟩:=h;obtain⟨u,rfl,r2⟩:=je r;cases r2;obtain⟨c,j,p,m⟩:=I.list i;have g:=hi c j;refine yH (I.ok.hd hc) p.isList (by simpa using g) f λh' tk keep d=>?_;have b:=I.hok.fresh (nR1 s.heap.objs.size);refine⟨.ref s.heap.objs.size,_,I.laid (t':=tk) (o:=.ext (jF (byT X.w) s.heap.objs.size (ddI ns))) keep (nR1 _) ⟨d,?_,λh1 h2 x k=>x.old k⟩,O,q _ b⟩;obtain⟨es,ep,t,l,e,_⟩:=d;exact⟨_,e⟩
theorem Dr(hc:X.calm=M):fj X (.builtin "sorted") (EJ X):=by
 intro ag s σ H xs k Q I r h;obtain⟨a,ns,rfl,e,g,q⟩:=h;obtain⟨u,rfl,r2⟩:=je r;cases r2;obtain⟨f,_⟩:=(show eX X.prog X.w H s.heap a (.ext (jF (byT X.w) a ns))from I.hok a _ e);refine sO (I.ok.hd hc) f g λh' j L n out keep d c i=>?_;have b:=I.hok.fresh d;refine⟨.ref L,_,ya (I.laid (t':=s.toks) (o:=.lst ((kE ns).map V.int)) keep d ⟨?_,out.toList,n,yb i,by rw[Array.toArray_toList];exact c⟩) j,O,q _ b⟩;rw[lM1,(iR ns).length_eq,sizeLine_eq];lia
theorem Ip(ns:List Int):(ddI ns).length<=ns.length:=by
 have:=oo ns [];unfold ddI;simpa using this
theorem xA (hc:X.calm=true){o:Expr}{m:FE}{p p2 pos b:Pos}(hg:Gl X "sorted")(hm:X.mg "sorted"=none)(hg2:Gl X "set")(hm2:X.mg "set"=none)(ho:XE X o m)
  (he:autoParam (dJ [.Call (.Name "set" p2) [o] [] b] X.env=[(J,eval (.Call (.Name "set" p2) [o] [] b) X.env)]) au0) (e:autoParam (dJ [o] X.env=[(J,eval o X.env)]) au0):XE X (.Call (.Name "sorted" p) [.Call (.Name "set" p2) [o] [] b] [] pos) (mN (b1 jv) (dU m dV)):=
 ⟨fy (tf (Dr hc) hg hm (by decide+kernel) (m5 (lN (Gu hc) hg2 hm2 (by decide+kernel) (m5 ho.h rh e) (he:=e)) rh he) (he:=he)) <| by
  rintro σ H Q ⟨r,mu,S,d,C,he,w,hm,f⟩;obtain⟨⟨ds,D⟩,g,hm⟩:=oB1.mp hm;obtain⟨⟨s,E⟩,y,g⟩:=oB1.mp g;cases g;dsimp only[b1,jv]at hm;split at hm
  ·rename_i xs z;obtain⟨ns,A,hm⟩:=oB1.mp hm;split at hm
   ·rename_i k;cases hm;refine⟨r,mu,S,s,_,he,w,y,λv H1 mu1 x n i=>?_⟩;obtain⟨a,vs,rfl,q,t⟩:=ej n i z;refine⟨a,vs,ns,O,q,λF B=>(lT t B A).1,bg (Nat.succ_lt_succ k) (by decide),λp j=>?_⟩;refine⟨p,ddI ns,O,d9,bH (Ip ns) k,λp2 c=>?_⟩;have l:Ext mu1 mu1 H1 (upd H1 p (.ext (jF (byT X.w) p (ddI ns)))):=Ext.fresh j;have h:=i.fresh (u:=.ext (jF (byT X.w) p (ddI ns))) j;exact f _ _ (mu1++[p2]) (x.trans (l.trans (Ext.new_ c))) (.ref (gf h.len _)) (h.newL (lM _) c)
   ·cases hm
  ·cases hm⟩
section
variable{ag:List (dE×Obj)}{σ:L2.St}{H:Hp}{s:dD}{a:dE}{kvs:List (Key×V)}{k:Key}{v:V}{u r:dB}{A:dG}{E:dB->dD->Prop}
end
open AutoSeq1 (wpAny_loadPart')
section
variable{prog:dF}{w:dH}{A:dG}{E:dB->dD->Prop}{s:dD}
end
section
variable{P:dF}{w:dH}{A:dG}{E:dB->dD->Prop}{s:dD}
set_option maxHeartbeats 3200000 in
theorem yF {l:dE}{its:Array dB}{Q:dB->dD->Prop}(H:s.heap.IsTuple l its)
  (d:∀j:dG,j.handled=A.handled -> ∀R:Result->dD->Prop,(∀s',Q (.ref s.heap.objs.size) s'->R (.ok (.ret .none)) s') ->
   dN (model P w) j (.builtin "set.update.loop" ⟨[.ref s.heap.objs.size,.ref (s.heap.objs.size+1)],[]⟩) R {s with heap:=(s.heap.push (stO #[] 0 (.fresh 0 0 (!byT w)))).push {cls:=.type "tuple_iterator",data:=.fields #[.ref l,.int 0 0]}}):
  dM (model P w) A (call (.type "set") [.ref l]) Q E s:=by
 obtain⟨T,N,t⟩:=PySem.F.called_set.mro;have h:=PySem.F.called_set.made;have p:=PySem.F.called_set.sub
 refine wpAny_call (codeAny_of_tree (?_:dM _ _ (callAny (.type "set") _) _ _ _));refine wP1 ⟨Code.quiet_builtin _ (by decide+kernel),wD1 PySem.F.entry_type_call (?_:_)⟩;rw[Around.under_plain (weight_type_call_type "set" [.ref l] []) O];have W:=PySem.F.called_set.notType;have K:=PySem.F.called_set.canCreate;have S:=PySem.F.typeCall_set_1 (.ref l)
 repeat(any_goals (first|wp_step|assumption))
 refine codeAny_mono (wB (.ref l) (E:=E) (G:=λx o=>x = .ref s.heap.objs.size/\o={s with heap:=s.heap.push (stO #[] 0 (.fresh 0 0 (!byT w)))}) ⟨O,O⟩) λr o g=>?_;cases r with
 |error e=>exact g
 |ok B=>
  cases B with
  |ret x=>
   obtain⟨rfl,rfl⟩:=g;have k:(s.heap.push (stO #[] 0 (.fresh 0 0 (!byT w)))).get? s.heap.objs.size=Z (stO #[] 0 (.fresh 0 0 (!byT w))):=hS1 _ O;have z:Shared.TypeIs {s with heap:=s.heap.push (stO #[] 0 (.fresh 0 0 (!byT w)))} (.ref s.heap.objs.size) "set":=⟨_,k,O⟩;have L:=PySem.F.called_set.init.lookup;have au:=PySem.F.called_set.init.bind (.ref s.heap.objs.size)
   repeat(any_goals (first|wp_step|assumption))
   refine codeAny_mono (codeAny_call_builtin (R:=wants (λr n=>r = .none/\Q (.ref s.heap.objs.size) n) E) PySem.F.called_set.init.plain PySem.F.entry_set_init (check_set_init_1 z (?_:_))) λr2 n a=>?_
   ·obtain⟨D,f,b,m,c⟩:=H;obtain⟨V,C,X,F⟩:=D;simp only at b c;subst b;subst c;have I:(s.heap.push (stO #[] 0 (.fresh 0 0 (!byT w)))).get? l=Z {cls:=.type "tuple",dict:=C,data:=.seq its m,slots:=F}:=hP1 _ f;have U:=PySem.F.sub_tuple_set;have am:=PySem.F.sub_tuple_frozenset;have ao:(Value.type "tuple" == Value.type "dict")=J:=by decide
    have y:(s.heap.push (stO #[] 0 (.fresh 0 0 (!byT w)))).IsTuple l its:=⟨_,I,O,m,O⟩;have v:(s.heap.push (stO #[] 0 (.fresh 0 0 (!byT w)))).get? s.heap.objs.size=Z {cls:=.type "set",dict:=Y,data:=.set #[] 0 (.fresh 0 0 (!byT w)),slots:= #[]}:=k;unfold Builtin.«set.__init__» noKeywords Builtin.Frozenset.updateFrom;generalize i:pyIter=PI
    wp_walk
    subst i;refine wpAny_pyIter_tuple y (wB1 (wpAny_runValue (?_:_)));dsimp only;rw[show(s.heap.push (stO #[] 0 (.fresh 0 0 (!byT w)))).objs.size=s.heap.objs.size+1 from by rw[hZ1]];refine d A.in1.in1 (by simp) _ λs' q=>?_;exact wP1 (wP1 ⟨O,q⟩)
   ·cases r2 with
    |error e=>exact a
    |ok u=>
     cases u with
     |ret r=>
      obtain⟨rfl,q⟩:=a
      repeat(any_goals (first|wp_step|assumption))
     |_=>exact a.elim
  |_=>exact g.elim
theorem vC{l:dE}{its:Array dB}{ns:List Int}{Q:dB->dD->Prop}(n:A.handled=Y)(k:s.heap.IsTuple l its)(I:IntsAre its.toList ns)(hb:its.size+1<scanBound)(q:∀h' tk,(∀c o,s.heap.get? c=Z o->h'.get? c=Z o)->h'.SetOf (intKind P w) s.heap.objs.size (λu=>(firstMet (λi=>ns.getD i 0) its.size).any (· == u)) (firstMet (λi=>ns.getD i 0) its.size).length->Q (.ref s.heap.objs.size) {s with heap:=h',toks:=tk}):dM (model P w) A (call (.type "set") [.ref l]) Q E s:=by
 have b:l<s.heap.objs.size:=by obtain⟨o,e,_⟩:=k;exact hL1 e
 refine yF k λx z R D=>?_;have C:(s.heap.push (stO #[] 0 (.fresh 0 0 (!byT w)))).objs.size=s.heap.objs.size+1:=by rw[hZ1]
 have p:(s.heap.push (stO #[] 0 (.fresh 0 0 (!byT w)))).get? s.heap.objs.size=Z (stO #[] 0 (.fresh 0 0 (!byT w))):=hS1 _ O;have a:∀(i:Nat) (v:dB),its[i]?=Z v -> ∃t,v = .int ((λi=>ns.getD i 0) i) t:=λi v am=>PyProof.Rows.IntsAre.int_at I i v (by rw[aT1];exact am);have h:s.heap.objs.size∉[s.heap.objs.size+1,l]:=by
  simp only[aF,cM,bL,or_false,not_or];exact⟨nN1 (bC _),nG1 b⟩
 have f:x.in1.handled=Y:=by simpa using z.trans n
 refine PyProof.Rows.codeAny_set_update_loopS ((Walks.tuple f _ l (nN1 (cG b)) its).toS) s.heap.objs.size h (λi=>ns.getD i 0) a hb (its.size-0) 0 _ (by lia) (bh _) ⟨?_,?_⟩ ?_ λs' d g=>?_
 ·refine⟨{cls:=.type "tuple_iterator",data:=.fields #[.ref l,.int 0 0]},?_,O,O⟩;have this:((s.heap.push (stO #[] 0 (.fresh 0 0 (!byT w)))).push {cls:=.type "tuple_iterator",data:=.fields #[.ref l,.int 0 0]}).get? (s.heap.push (stO #[] 0 (.fresh 0 0 (!byT w)))).objs.size=Z {cls:=.type "tuple_iterator",data:=.fields #[.ref l,.int 0 0]}:=hS1 _ O;rw[C]at this;exact this
 ·obtain⟨o,e,r⟩:=k;exact⟨o,hP1 _ (hP1 _ e),r⟩
 ·exact PyProof.Rows.SetOf_congr ((PyProof.Rows.setObjOf_fresh (knd:=intKind P w) (!byT w)).setOf (hP1 _ p) (by unfold scanBound;lia)) (λ_=>rfl) O
 ·obtain⟨h',G,y,j,m⟩:=s';have F:G=s.gens:=d.gens;have H:y=s.drawn:=d.drawn;have B:m=s.os:=d.os;subst F;subst H;subst B;refine D _ (q h' j (λc o e=>d.heap c o ?_ (hP1 _ (hP1 _ e))) g);have:=hL1 e;simp only[aF,cM,bL,or_false,not_or];exact⟨nN1 this,nN1 (cG this)⟩
end
def jQ:G1:=λd S=>match d7 S d with
 |some (_,xs)=>(jt xs).bind λns=>if ns.length+1<scanBound then Z (.ref S.length,S++[.iset (ddI ns)])else Y
 |_=>Y
theorem Gv{k:Nat}(hr:fR k X.A):fj X (.type "set") (rN X.K (b1 jQ)):=by
 intro ag s σ H xs D Q I r h;have E:=h;obtain⟨x,mu,S,d,w,v,rfl,l,i,c,hc⟩:=BC h;unfold jQ at c;split at c
 ·rename_i b ys n;cases b with
  |true=>exact Ir hr ag s σ H _ D Q I r ⟨mu,S,[d],w,v,.cons l .nil,i,(by show rS d S=_;unfold rS;rw[n];exact c),hc⟩
  |false=>
  obtain⟨ns,e,c⟩:=oB1.mp c;split at c
  ·rename_i A;cases c;obtain⟨a,vs,rfl,q,t⟩:=ej l i n;cases r with
   |cons C rt=>
    cases rt;cases C;obtain⟨g,B,p,_⟩:=I.tuple q;obtain⟨hi,m⟩:=lT t B e;have f:g.toArray.size=ns.length:=by rw[sT1,hi.length]
    refine vC (its:=g.toArray) (ns:=ns) hr.hd p (by simpa using hi) (by rw[f];exact A) λh' tk y j=>?_;rw[f,ut]at j;have nd:(ddI ns).Nodup:=jw ns [] bn;have o:=lC (ddI ns);rw[o]at j;refine⟨.ref s.heap.objs.size,upd H s.heap.objs.size (.set (λk=>(ddI ns).contains k) (ddI ns).length),I.laid (λb u z=>y b u z) (nR1 _) j,O,?_⟩;exact hc _ _ (mu++[s.heap.objs.size]) (Ext.new_ I.fresh) (.ref (gf i.len _)) (i.new I.fresh ⟨d9,nd⟩)
  ·cases c
 ·cases c
section
variable{a b:Expr}{rest:List Expr}{pos:Pos}{ta tb:TE}{f g:FE}
end
def DV:G1:=λd S=>match d with
 | .ref n=>match S[n]? with
  |some (.dct kvs)=>Z (.int kvs.length,S)
  |_=>eU d S
 |_=>eU d S
section
variable{P:dF}{w:dH}{A:dG}{E:dB->dD->Prop}{b:Bool}
end
section
variable{prog:dF}{w:dH}{A:dG}{E:dB->dD->Prop}{s:dD}
theorem F3{a b:dE}{k l:Int}{t u:Tok}{g zs:List dB}{Q:Bool->dD->Prop}(ha:IsTup s.heap a (Value.int k t::g).toArray)(hb:IsTup s.heap b (Value.int l u::zs).toArray)(c:k≠l)(h:Q (decide (k<l)) s):
  dM (model prog w) A (keyLt' (tuples' M) (.ref a) (.ref b)) Q E s:=by
 rw[iZ];obtain⟨o,i,j,_,d⟩:=ha;obtain⟨n,f,m,_,e⟩:=hb;refine wB1 (listItems_at i d (wB1 (listItems_at f e ?_)));rw[bT,bK,bE];refine wB1 (wB1 ?_);dsimp only;refine wB1 (wpAny_eqBool_int ?_);rw[beq_false_of_ne c];simp only[ck,if_true];exact wB1 (oneLt_int (wP1 (wP1 (wP1 h))))
theorem F5{vs:List dB}{Q:SortKind->dD->Prop}(i:vs≠[])(h:∀ v∈vs,∃ a k t ps,v = .ref a/\IsTup s.heap a (Value.int k t::ps).toArray)(q:Q (tuples' true) s):
  dM (model prog w) A (keyKind' vs.toArray) Q E s:=by
 rw[keyKind'_eq,cm,<- bind_pure_comp];refine wB1 (wB1 (k0 (P:=λ_ r=>∃k t,r=Z (Value.int k t)) (λv j=>?_) λrs y d=>wP1 ?_))
 ·obtain⟨a,k,t,ps,rfl,⟨o,l,C,_,p⟩⟩:=h v j;refine⟨Z (.int k t),⟨k,t,O⟩,λQ q=>?_⟩;rw[ue];refine wB1 (wpAny_typeOf (T:="tuple") ⟨o,l,C⟩ ?_);rw[aj (by decide)];refine wB1 (listItems_at l p (wP1 ?_));simpa using q
 ·have u:rs.toArray.all (·.isSome)=true:=by
   rw[cp,bB];intro r g;obtain⟨v,_,k,t,e⟩:=d r g;rw[e];rfl
  rw[ak u];refine wB1 (wpAny_rule ?_);rw[oneTypeOnly'_eq];have B:rs.toArray.filterMap id=(rs.filterMap id).toArray:=by simp
  rw[B,cm,<- bind_pure_comp];refine wB1 (wB1 (wB1 (k0 (P:=λ_ t=>t=Value.type "int") (λv j=>?_) λc b m=>wP1 ?_)))
  ·obtain⟨r,g,e⟩:=aL.mp j;obtain⟨G,_,k,t,D⟩:=d r g;rw[D]at e;cases e;exact⟨_,O,λQ q=>wpAny_typeOf (T:="int") (typeIs_int s k t) q⟩
  ·cases c with
   |nil=>
    exfalso;cases rs with
    |nil=>exact i (cq.mp y.symm)
    |cons r rs=>
     obtain⟨_,_,k,t,e⟩:=d r mS1;rw[e]at b;simp at b
   |cons t c=>
    have all:∀x∈t::c,x=Value.type "int":=λx f=>by obtain⟨_,_,z⟩:=m x f;exact z
    have F:=all t mS1;subst F;have n:((Value.type "int"::c).toArray.all λx=>x == Value.type "int")=M:=by
     rw[cp,bB];intro x f;rw[all x f];rfl
    show dM _ _ (pure (if((Value.type "int"::c).toArray.all λx=>x == Value.type "int")=M then Z (Value.type "int")else Y)) _ _ _;rw[ak n];exact wP1 (wP1 q)
end
section
variable{ag:List (dE×Obj)}{σ:L2.St}{H:Hp}{s:dD}{mu:List dE}
end
section
variable{f:dE}{fd:dQ}{ps:List Str}{k n:Nat}{sp:Sp}{dvs:List V}{ds:List dB}{CX:yZ}{E:XK}{t:TA}{e:Expr}{es:List Expr}{p pos:Pos}{i:Nat}{v x:Str}
end
section
variable{prog:dF}{w:dH}{K:Type} [DecidableEq K] {knd:HeapKind prog w K}{A:dG}{E:dB->dD->Prop}{s:dD}
end
def Kv:G1:=λd S=>match d with
 | .ref n=>match S[n]? with
  |some (.dcT kvs)=>Z (.int kvs.length,S)
  |_=>DV d S
 |_=>DV d S
def jR:G2:=λd e S=>match e with
 | .ref n=>match S[n]? with
  |some (.dct [])=>match keyT d with
   |some _=>Z (.bl M,S)
   |none=>fP d e S
  |_=>fP d e S
 |_=>fP d e S
theorem Ad(l:X.A.units+64<cLine):gt X (compareOp .NotIn) (r2 X.K (b2 jR)):=by
 intro ag s σ H x y u w Q I o p h;obtain⟨mu,S,d,e,r,j,m,c,g,a,hc⟩:=oN h;have back:fP d e S=Z (r,j)->dM (model X.prog X.w) X.A (compareOp .NotIn u w) (EP X ag σ Q) X.xe s:=λa=>nU l ag s σ H x y u w Q I o p ⟨mu,S,[d,e],r,j,.cons m (.cons c .nil),g,a,hc⟩;unfold jR at a;split at a
 ·rename_i n;split at a
  ·rename_i t;split at a
   ·rename_i k v;cases a;cases c with
    |ref q=>
     cases p;obtain⟨ws,B,A⟩:=g.dct t q;cases A;obtain⟨z,C,vs,f,D⟩:=ul I.hok B;cases f;obtain⟨b,rfl,rfl,rk,E,hi⟩:=iY I m o v;have i:s.heap.DictOfH (fS X.prog X.w) _ []:=lm D;refine wpAny_notIn_heap (ii l) hi C i ?_;exact⟨.bl M,H,I.tok _,O,hc.now (.bl _) g⟩
   ·exact back a
  ·exact back a
 ·exact back a
def yn:G2:=λd e S=>match e with
 | .ref n=>match S[n]? with
  |some (.dct [])=>match keyT d with
   |some _=>Z (.bl J,S)
   |none=>gF d e S
  |_=>gF d e S
 |_=>gF d e S
theorem Hz(l:X.A.units+64<cLine):gt X (compareOp .In) (r2 X.K (b2 yn)):=by
 intro ag s σ H x y u w Q I o p h;obtain⟨mu,S,d,e,r,j,m,c,g,a,hc⟩:=oN h;have back:gF d e S=Z (r,j)->dM (model X.prog X.w) X.A (compareOp .In u w) (EP X ag σ Q) X.xe s:=λa=>mw l ag s σ H x y u w Q I o p ⟨mu,S,[d,e],r,j,.cons m (.cons c .nil),g,a,hc⟩;unfold yn at a;split at a
 ·rename_i n;split at a
  ·rename_i t;split at a
   ·rename_i k v;cases a;cases c with
    |ref q=>
     cases p;obtain⟨ws,B,A⟩:=g.dct t q;cases A;obtain⟨z,C,vs,f,D⟩:=ul I.hok B;cases f;obtain⟨b,rfl,rfl,rk,E,hi⟩:=iY I m o v;have i:s.heap.DictOfH (fS X.prog X.w) _ []:=lm D;refine wpAny_in_heap (ii l) hi C i ?_;exact⟨.bl J,H,I.tok _,O,hc.now (.bl _) g⟩
   ·exact back a
  ·exact back a
 ·exact back a
theorem Jy.fits{es:Array (Int×dB)}{t:SetTable}(h:Jy es t):t.fits es.size=M:=by
 unfold SetTable.fits SetTable.fill;rw[h.du,h.sz];have:=h.fl;simp;exact this
theorem mem_ins{α:Type}(a:Array α)(p:Nat)(x y:α):y∈(SetTable.insertAt a p x).toList↔y=x\/y∈a.toList:=by
 rw[tY,aG,aF];have:=cI p a.toList;constructor
 ·rintro(h|h|h)
  ·exact .inr (cN h)
  ·exact .inl h
  ·exact .inr (cO h)
 ·rintro(h|h)
  ·exact .inr (.inl h)
  ·rw[<- this,aG]at h;rcases h with h|h
   ·exact .inl h
   ·exact .inr (.inr h)
theorem ot{α β:Type}{f g:α->Option β}:∀l:List α,(∀a∈l,f a=g a)->l.filterMap f=l.filterMap g
 |[],_=>rfl
 |a::l,h=>by rw[aE,aE,h a mS1,ot l λb c=>h b (mC1 _ c)]
theorem live_len:∀(l:List (Option Nat)) (s:Nat),((List.range' s l.length).filterMap λj=>(l.getD (j-s) Y).map (j,·)).length=l.countP (·.isSome)
 |[],s=>rfl
 |x::l,s=>by
  rw[lC1,List.range'_succ,aE,List.countP_cons];have ih:=live_len l (s+1);have e:(List.filterMap (λj=>Option.map (λx=>(j,x)) ((x::l).getD (j-s) Y)) (List.range' (s+1) l.length))=List.filterMap (λj=>(l.getD (j-(s+1)) Y).map (j,·)) (List.range' (s+1) l.length):=by
   refine ot _ λj a=>?_;rw[List.mem_range'_1]at a;rw[show j-s=(j-(s+1))+1 by lia];rfl
  rw[e,cP];cases x with
  |none=>simpa using ih
  |some q=>simpa using ih
section
variable{prog:dF}{w:dH}{A:dG}{E:dB->dD->Prop}{s:dD}
end
theorem gQ.grows{h h':dP}(hs:∀ a o,h.get? a=some o->h'.get? a=some o):∀ {k:TK} {v:dB},gQ h k v->gQ h' k v:=fun e=>e.rec (motive_1:=fun k v _=>gQ h' k v) (motive_2:=fun k v _=>hY h' k v) .non .int
  (λ{a} _ _ _ _ c f d _ ih=>.tup (hs a _ c) f d ih) .nil (λ_ _ a b=>.cons a b)
section
variable{P:dF}{w:dH}{A:dG}{E:dB->dD->Prop}{s:dD}{p:dE}{xs:List (TK×dE×dB)}
end
section
variable{P:dF}{w:dH}{A:dG}{E:dB->dD->Prop}
end
section
variable{pos:Pos}
theorem ce{op:CmpOp}{x y:Expr}{f:FN}{a b:FE}(ho:gt X (compareOp op) (r2 X.K f))(hx:XE X x a)(hy:XE X y b)(hm:behindInMarks op y=J:=by exact Ag _):XE X (.Compare x [op] [y] pos) (m2 f a b):=BO ho hx hy hm
theorem ct{op:CmpOp}{x y:Expr}{f:FN}{a b:FE}(ho:gt X (compareOp op) (r2 X.K f))(hx:XE X x a)(hy:XE X y b)(hm:autoParam (behindInMarks op y=J) ce._auto_1):XT X (.Compare x [op] [y] pos) (mB (m2 f a b)):=qX ho hx hy hm
theorem kc{a:dS}{i:Nat}{l:List Nat}(x:Str)(r:∀i∈l,∃x,X.N[i]?=Z x/\a.names.lookup x=Z .free/\(X.env.kindOf x=Z .cell\/X.env.kindOf x=Z .free)/\(x,NameKind.cell)∉a.names)(h1:autoParam (X.N[i]?=Z x) au0)(h2:autoParam (a.names.lookup x=Z .free) au0)(c:autoParam (X.env.kindOf x=Z .cell\/X.env.kindOf x=Z .free) au0)(b:autoParam ((x,NameKind.cell)∉a.names) eu0):∀j∈i::l,∃x,X.N[j]?=Z x/\a.names.lookup x=Z .free/\(X.env.kindOf x=Z .cell\/X.env.kindOf x=Z .free)/\(x,NameKind.cell)∉a.names:=List.forall_mem_cons.mpr ⟨⟨x,h1,h2,c,b⟩,r⟩
end
structure eL (K:Fg1)(x:Str)(st:dR)(f:dE):Prop where
 ns:wN1 K dI x=some (some (.ref f))
 fn:∃fd,yX K x x st f fd
theorem Ih{K:Fg1}{x:Str}{st:dR}{f:dE}{g:dB}{h j:Option dE}{e:Array (Option dB)}{kV d i b ct:dB}(a:wN1 K dI x=Z (Z (.ref f)))(l:K.lookup f=Z ⟨g,h,.func (wF1 x x (ip st) (fB st) (ev st) .none kV d i j b ct),e⟩)(c:wC1 K b x=M)(k:wK1 K (.ref f)=M):eL K x st f:=⟨a,_,A0 l c k⟩
theorem xo{P:dF}{w:dH}{K:Fg1}{mg:Str->Option dB}{base h:dP}{x:Str}{st:dR}{f:dE}{N ps:List Str}{k n:Nat}{b:FS}(X:K.In h)(G:h.Ns dI mg)(F:eL K x st f)(S:gu N ps (ev st))(hb:∀(kV e j:dB) (l:Option dE) (a ct:dB) (g:List dB),g.length=ps.length->bindArgs (wF1 x x (ip st) (fB st) (ev st) .none kV e j l a ct) ⟨g,[]⟩=pure (ps.zip g))(d:∀(f:dE) (a:dB) (A:dG) (c:List Env) (s:dD) (H:Hp) (E:XK),fR k (A.deeper (envOfC x (ev st) s.heap.objs.size f a)) ->
   vH (mS uI P w K mg base N x (ev st) f a A c s H E).nox (fB st) b)(hn:autoParam (ps.length=n) au0):fI P w K mg base (k+1) x n (iy N.length b):=by
 obtain⟨fd,i⟩:=F.fn;exact BM i (i.binds hb) (wM1 X G F.ns) S hn (d f)
section
variable{ag:List (dE×Obj)}{σ:L2.St}{H:Hp}{s:dD}{mu:List dE}
end
section
variable{P:dF}{w:dH}{A:dG}{E:dB->dD->Prop}{s:dD}{a x:dE}{xs:List (TK×dE×dB)}{k:TK}
end
section
variable{o e:Expr}{es:List Expr}{to:TE}{t:TA}{name:Str}{apos cpos:Pos}{id:String}{r:V->List V->Hp->VK->Prop}
end
section
variable{x y z u:Expr}{pos:Pos}{f g k:FN}{a b c d:FE}{op op' op'':CmpOp}{ta tb tc td:TE}
end
structure Blt (L:List Str)(mg:Str->Option dB):Prop where
 h:∀x∈L,mg x=none
theorem bz{L:List Str}{mg:Str->Option dB}{x:Str}(B:Blt L mg)(h:autoParam (x∈L) bu0):mg x=Y:=B.h x h
theorem sk{N P:List Str}{sc:dS}(h1:autoParam (sc.kind = .function) au0)(h2:autoParam (sc.isCoroutine=J) au0)(d:autoParam (sc.isGenerator=J) au0)(e:autoParam (N.Nodup) eu0)(c:autoParam (N.take P.length=P) au0)(b:autoParam (∀x∈P,sc.names.lookup x=Z .local\/sc.names.lookup x=Z .cell) eu0)(a:autoParam (∀y∈sc.names,y.2 ≠ .free) eu0):gu N P sc:=⟨h1,h2,d,e,c,b,a⟩
def IG(K:Fg1):List Str->Prop
 |[]=>True
 |x::l=>wN1 K dI x=Z Y/\IG K l
theorem IG.blt{K:Fg1}{mg:Str->Option dB}{h:dP}(X:K.In h)(G:h.Ns dI mg):∀{L:List Str},IG K L->Blt L mg
 |[],_=>⟨λ_ m=>nomatch m⟩
 |_::_,z=>⟨λ_ m=>match m with
  | .head _=>PySem.W.mg_none_of X G z.1
  | .tail _ m=>(IG.blt X G z.2).h _ m⟩
noncomputable def IU:List Str->Bool
 |[]=>M
 |x::l=> !l.contains x&&IU l
theorem gZ:∀{l:List Str},IU l=M->l.Nodup
 |[],_=>bn
 |x::l,h=>by
  obtain⟨a,b⟩:=(bA1 _ _).mp h;exact aN.mpr ⟨λm=>(by rw[cQ.mpr m]at a;cases a),gZ b⟩
section
variable{pos:Pos}{k:Nat}{x:Str}{i:Nat}{e y:Expr}{es:List Expr}{m b:FE}{a:FA}{p:Pos}
theorem xv (hN:autoParam (X.N[i]?=Z x) au0)(hv:autoParam (Vis X.env.scope x) au0)(hd:autoParam ((x == ("__debug__":Str))=J) bu0)(hcd:autoParam ((x == ("__classdict__":Str))=J) bu0):XE X (.Name x pos) (mV i):=KG i hN hv hd hcd
theorem gq(hN:autoParam (IU X.N=M) au0)(hi:autoParam (X.N[i]?=Z x) au0)(hx:autoParam (vM X.env.scope x) au0)(hf:autoParam (X.fn x=M\/X.env.scope.names.lookup x=Z .local) au0):XG X (.Name x pos) (gN i):=qO i (gZ hN) hi hx hf
theorem sq(he:XE X e m)(hN:autoParam (IU X.N=M) au0)(hi:autoParam (X.N[i]?=Z x) au0)(hx:autoParam (vM X.env.scope x) au0)(hs:autoParam (swapsWith e (Z (.Name x p)) pos.line X.env=pure J) au0)(hf:autoParam (X.fn x=M\/X.env.scope.names.lookup x=Z .local) au0):XS X (.Assign [.Name x p] e pos) (ea m (gN i)):=qY i (gZ hN) hi hx he hs hf
theorem jq(hx:XE X e m)(hy:XE X y b)(hr:autoParam (fR k X.A) au0)(hs:nk y:=by intro _ _;rfl):XE X (.Subscript e y pos) (m2 (b2 dX) m b):=qJ (qP hr.units) hx hy hs
theorem oq{au:Prop}(o:X.A.units+64<cLine->au)(hr:autoParam (fR k X.A) au0):au:=o hr.units
theorem wn {k' n:Nat}{f:FN}(h:fI X.prog X.w X.K X.mg X.base k x n f)(ha:XA X (e::es) a)(hr:autoParam (fR k' X.A) au0)(hk:autoParam (k<=k') bu0)(hg:autoParam (Gl X x) au0)(hdb:autoParam ((x == ("__debug__":Str))=J) bu0)(he:autoParam (dJ (e::es) X.env=(J,eval e X.env)::dJ es X.env) au0)(hpl:autoParam ((backTo pos (dJ es X.env)).any (·.1)=J) au0):XE X (.Call (.Name x p) (e::es) [] pos) (mN (dZ n f) a):=qH h hr hk hg ha hdb he hpl
theorem cn {id:String}{f:FN}(hc:fj X (.builtin id) (rN X.K f))(ha:XA X (e::es) a)(hm:X.mg x=Y:=by exact bz (by assumption))(hg:autoParam (Gl X x) au0)(hv:autoParam (bootBuiltins x=Z (.builtin id)) eu0)(hn:autoParam (x≠"__name__") bu0)(hdb:autoParam ((x == ("__debug__":Str))=J) bu0)(he:autoParam (dJ (e::es) X.env=(J,eval e X.env)::dJ es X.env) au0)(hpl:autoParam ((backTo pos (dJ es X.env)).any (·.1)=J) au0):XE X (.Call (.Name x p) (e::es) [] pos) (mN f a):=qD hc hg hm hv ha hn hdb he hpl
theorem cz {T:String}{f:FN}(hc:fj X (.type T) (rN X.K f))(ha:XA X (e::es) a)(hm:autoParam (X.mg x=Y) cn._auto_1)(hg:autoParam (Gl X x) au0)(hv:autoParam (bootBuiltins x=Z (.type T)) eu0)(hn:autoParam (x≠"__name__") bu0)(hdb:autoParam ((x == ("__debug__":Str))=J) bu0)(he:autoParam (dJ (e::es) X.env=(J,eval e X.env)::dJ es X.env) au0)(hpl:autoParam ((backTo pos (dJ es X.env)).any (·.1)=J) au0):XE X (.Call (.Name x p) (e::es) [] pos) (mN f a):=qE hc hg hm hv ha hn hdb he hpl
theorem a1(h:XE X e m)(hs:autoParam (dJ [e] X.env=(J,eval e X.env)::dJ [] X.env) au0):XA X [e] (dU m dV):=qA h qN hs
theorem a2(h:XE X e m)(g:XE X y b)(hs:autoParam (dJ [e,y] X.env=(J,eval e X.env)::dJ [y] X.env) au0)(hs2:autoParam (dJ [y] X.env=(J,eval y X.env)::dJ [] X.env) au0):XA X [e,y] (dU m (dU b dV)):=qA h (a1 g hs2) hs
theorem a3{z:Expr}{c:FE}(h:XE X e m)(g:XE X y b)(l:XE X z c)(hs:autoParam (dJ [e,y,z] X.env=(J,eval e X.env)::dJ [y,z] X.env) au0)(hs2:autoParam (dJ [y,z] X.env=(J,eval y X.env)::dJ [z] X.env) au0)(a:autoParam (dJ [z] X.env=(J,eval z X.env)::dJ [] X.env) au0):XA X [e,y,z] (dU m (dU b (dU c dV))):=qA h (a2 g l hs2 a) hs
theorem ir (ha:XA X [e] a)(hm:autoParam (X.mg "range"=Y) cn._auto_1)(hg:autoParam (Gl X "range") au0)(hs:autoParam (dJ [e] X.env=[(J,eval e X.env)]) au0):XI X y (.Call (.Name "range" p) [e] [] pos) (t5 a):=uP hg hm ha hs
theorem ie {elts:List Expr}{b:Nat}{tpos:Pos}(ha:XA X [e] a)(hm:autoParam (X.mg "enumerate"=Y) cn._auto_1)(hg:autoParam (Gl X "enumerate") au0)(hs:autoParam (dJ [e] X.env=[(J,eval e X.env)]) au0):XI X (.Tuple elts b tpos) (.Call (.Name "enumerate" p) [e] [] pos) (GO a):=y3 hg hm ha hs
structure Lm (X:Cx)(name:Str)(id:String)(f:FN):Prop where
 s:Slot "list" name id
 t:typeOf (.builtin id)=pure (.type "method_descriptor")
 m:D6 X id (λx xs H Q=>rN X.K f (x::xs) H Q)
theorem ap:Lm X "append" "list.append" (b2 kl):=⟨PySem.F.slot_list_append,PySem.F.type_list_append,GW⟩
theorem lq{f:FN}{name:Str}{apos:Pos}{id:String}(s:Lm X name id f)(ho:XE X y m)(ha:XA X (e::es) a)(hbase:autoParam (attributeBase y name X.env (eval y X.env)=eval y X.env) au0)(hfew:autoParam (((backTo pos (dJ (e::es) X.env)).all (λx=> !x.1)&&(backToKw pos (keywordEach [] X.env)).all (λx=>x.1.isSome)&&decide ((e::es).length+([]:List Keyword).length+(if([]:List Keyword).isEmpty then 0 else 1)<30))=M) au0)(hline:autoParam ((apos.endLine == pos.line)=M) au0)(hs:autoParam (dJ (e::es) X.env=(J,eval e X.env)::dJ es X.env) au0)(hplain:autoParam ((backTo pos (dJ es X.env)).any (·.1)=J) au0):XS X (.Expr (.Call (.Attribute y name apos) (e::es) [] pos) p) (fM (pP f m a)):=kw (qe s.s s.t s.m ho ha hbase hfew hline hs hplain)
theorem fo{tg iter:Expr}{a:List dR}{m:FI}{g:FG}{b:FS}(hi:XI X tg iter m)(hg:XG X tg g)(hb:vH X a b)(hp:PassesOwn (model X.prog X.w) X.A X.env X.xe:=by exact PassesOwn.never)(hc:autoParam (X.calm=M) au0)(hs:autoParam (∀x,foldedSetIterable iter X.env x=pure x) du0):XS X (.For tg iter a [] pos) (hH m g b):=qW hp hc hi hg hb hs
theorem tg2{d:Expr}{g h:FG}{a:Nat}(h1:XG X e g)(h2:XG X d h)(hc:autoParam (X.calm=M) au0)(hs:autoParam ((assignEach [e,d] X.env).map (·.2)=assign e X.env::(assignEach [d] X.env).map (·.2)) au0)(hs2:autoParam ((assignEach [d] X.env).map (·.2)=assign d X.env::(assignEach [] X.env).map (·.2)) au0)(hn:autoParam ((assignEach [e,d] X.env).length=2) au0)(hst:autoParam ((assignEach [e,d] X.env).findIdx? (·.1)=Y) au0):XG X (.Tuple [e,d] a pos) (gT 2 (gCs g (gCs h gNl))):=gJ hc (eh h1 (eh h2 gb hs2) hs) hn hst
noncomputable def IV(x:Str):List (Str×NameKind)->Bool
 |[]=>M
 |(y,.cell)::l=> !(y == x)&&IV x l
 |_::l=>IV x l
omit k i in
theorem Ak:∀{l:List (Str×NameKind)},IV x l=M->(x,NameKind.cell)∉l
 |[],_,m=>nomatch m
 |(y,c)::l,h,m=>by
  rcases aF.mp m with e|a
  ·cases e;have h:=((bA1 _ _).mp h).1;rw[beq_self_eq_true]at h;cases h
  ·cases c with
   |cell=>exact Ak ((bA1 _ _).mp h).2 a
   |_=>exact Ak (l:=l) h a
theorem kz{a:dS}{l:List Nat}(r:∀i∈l,∃x,X.N[i]?=Z x/\a.names.lookup x=Z .free/\(X.env.kindOf x=Z .cell\/X.env.kindOf x=Z .free)/\(x,NameKind.cell)∉a.names)(h1:autoParam (X.N[i]?=Z x) au0)(h2:autoParam (a.names.lookup x=Z .free) au0)(c:autoParam (X.env.kindOf x=Z .cell\/X.env.kindOf x=Z .free) au0)(b:autoParam (IV x a.names=M) au0):∀j∈i::l,∃x,X.N[j]?=Z x/\a.names.lookup x=Z .free/\(X.env.kindOf x=Z .cell\/X.env.kindOf x=Z .free)/\(x,NameKind.cell)∉a.names:=kc x r h1 h2 c (Ak b)
def Kz(X:Cx)(sc:dS):List (Str×dE):=(jx X.env.cells sc.names []).getD []
theorem fk{elt tg iter:Expr}{ifs:List Expr}{scope:dS}(T:List Str){keep:List Nat}{m:FI}{g:FG}{t:FT}{e:FE}(hi:XI X tg iter m)(hb:∀ {s H f},Jd (cxC X scope (Kz X scope) T keep s H f) X.K tg ifs elt g t e)(c:∀i∈keep,∃x,X.N[i]?=Z x/\scope.names.lookup x=Z .free/\(X.env.kindOf x=Z .cell\/X.env.kindOf x=Z .free)/\(x,NameKind.cell)∉scope.names:=by repeat first|exact cR _|refine kz ?_)(hc:autoParam (X.calm=M) au0)(b:autoParam (scope.kind = .function) au0)(a:autoParam (∀x∈scope.names,x.2 = .local->scope.names.lookup x.1=Z .local) eu0)(d:autoParam (jx X.env.cells scope.names []=Z (Kz X scope)) au0)(hs:autoParam (∀x,foldedSetIterable iter X.env x=pure x) du0):XE X (.ListComp elt [⟨tg,iter,ifs,0⟩] scope pos) (eQ T.length keep m g t (eJ e)):=qZ hc ⟨b,a,c⟩ d hi (λ_ _ _=>hb) hs
end
theorem xq{P:dF}{w:dH}{K:Fg1}{mg:Str->Option dB}{base h:dP}{x:Str}{st:dR}{f:dE}{k n:Nat}{b:FS}(N:List Str)(X:K.In h)(G:h.Ns dI mg)(F:eL K x st f)(d:∀{f:dE} {a:dB} {A:dG} {c:List Env} {s:dD} {H:Hp} {E:XK},fR k (A.deeper (envOfC x (ev st) s.heap.objs.size f a)) ->
   vH (mS uI P w K mg base N x (ev st) f a A c s H E).nox (fB st) b)(S:gu N (N.take n) (ev st):=by exact sk)(hb:∀(kV i l:dB) (m:Option dE) (a ct:dB) (g:List dB),g.length=(N.take n).length->bindArgs (wF1 x x (ip st) (fB st) (ev st) .none kV i l m a ct) ⟨g,[]⟩=pure ((N.take n).zip g):=by
   intro _ _ _ _ _ _ g e;first|exact Kt e λ_=>rfl|exact Ks e λ_ _=>rfl|exact Kr e λ_ _ _=>rfl|exact Kq e λ_ _ _ _=>rfl)(hn:autoParam ((N.take n).length=n) au0):fI P w K mg base (k+1) x n (iy N.length b):=xo X G F S hb (λ_ _ _ _ _ _ _ j=>d j) hn
open AutoSeq1 (wpAny_loadPart')
mutual
noncomputable def pl:D->Bool
 | .non=>M
 | .bl _=>M
 | .int _=>M
 | .str _=>M
 | .tup xs=>m4 xs
 |_=>J
noncomputable def m4:List D->Bool
 |[]=>M
 |x::xs=>pl x&&m4 xs
end
section
variable{ag:List (dE×Obj)}{σ:L2.St}{H:Hp}{s:dD}{mu:List dE}{S:Sto}
mutual
theorem we(I:Inv X ag σ H s):∀{d d':D} {v:V},pl d=M->pl d'=M->eO X.K H mu d v->eO X.K H mu d' v->d=d'
 | .non,d',_,_,h,.non,r=>by cases r;rfl
 | .bl b,d',_,_,h,.bl _,r=>by cases r;rfl
 | .int i,d',_,_,h,.int _,r=>by cases r;rfl
 | .str x,d',_,_,h,.str _,r=>by cases r;rfl
 | .tup xs,d',_,g,h,.tup q t,r=>by
  cases r with
  |tup a c=>
   have e:=I.tuple_inj q a;subst e;rw[pl]at g h;rw[sZ I g h t c]
  |rol _ _=>cases h
  |ref _=>cases h
  |fn _=>cases h
 | .rol _,_,_,g,_,_,_=>by cases g
 | .ref _,_,_,g,_,_,_=>by cases g
 | .fn _,_,_,g,_,_,_=>by cases g
theorem sZ(I:Inv X ag σ H s):∀{ds a:List D} {vs:List V},m4 ds=M->m4 a=M->d5 X.K H mu ds vs->d5 X.K H mu a vs->ds=a
 |[],_,_,_,_,.nil,r=>by cases r;rfl
 |d::ds,_,_,g,h,.cons r t,z=>by
  cases z with
  |cons c b=>
   rw[m4,bA1]at g h;rw[we I g.1 h.1 r c,sZ I g.2 h.2 t b]
end
end
noncomputable def ju:D->Option Bool
 | .tup (.int _::_)=>Z M
 | .tup (.tup _::_)=>Z J
 |_=>Y
def JO(a b:D):Bool:=ku [] 51 a b == Z M
def ye(a:D):List D->List D
 |[]=>[a]
 |b::l=>if JO a b=M then a::b::l else b::ye a l
def kF:List D->List D
 |[]=>[]
 |a::l=>ye a (kF l)
def pS(a b:D):Bool:=ku [] 51 a b == Z M&&ku [] 51 b a == Z J
def mi:List D->Bool
 |[]=>M
 |a::l=>l.all (pS a)&&mi l
theorem kN:∀{l:List D} {i j:Nat} {a b:D},mi l=M->l[i]?=Z a->l[j]?=Z b->i<j->pS a b=M
 |[],i,j,a,b,_,h,_,_=>by simp at h
 |x::l,0,j+1,a,b,h,h1,h2,_=>by
  rw[mi,bA1,bB]at h;simp at h1 h2;subst h1;exact h.1 b (gM1 h2)
 |x::l,i+1,j+1,a,b,h,h1,h2,hij=>by
  rw[mi,bA1]at h;exact kN h.2 (by simpa using h1) (by simpa using h2) (by lia)
 |x::l,i,0,a,b,_,_,_,hij=>by lia
abbrev Tr:=D×V×dB
def yc(a:Tr):List Tr->List Tr
 |[]=>[a]
 |b::l=>if JO a.1 b.1=M then a::b::l else b::yc a l
def sP:List Tr->List Tr
 |[]=>[]
 |a::l=>yc a (sP l)
theorem pY(a:Tr):∀l:List Tr,(yc a l).Perm (a::l)
 |[]=>.refl _
 |b::l=>by
  rw[yc];split
  ·exact .refl _
  ·exact((pY a l).cons b).trans (.swap _ _ _)
theorem nw:∀l:List Tr,(sP l).Perm l
 |[]=>.refl _
 |a::l=>(pY a _).trans ((nw l).cons a)
theorem tZ(a:Tr):∀l:List Tr,(yc a l).map (·.1)=ye a.1 (l.map (·.1))
 |[]=>rfl
 |b::l=>by
  rw[yc,mP1,ye];split
  ·rfl
  ·rw[mP1,tZ a l]
theorem pu:∀l:List Tr,(sP l).map (·.1)=kF (l.map (·.1))
 |[]=>rfl
 |a::l=>by rw[sP,mP1,kF,tZ,pu l]
section
variable{prog:dF}{w:dH}{A:dG}{E:dB->dD->Prop}{s:dD}
theorem C0{a b:dE}{k l:Int}{t u:Tok}{g zs:List dB}{c:Bool}{Q:Bool->dD->Prop}(ha:IsTup s.heap a (Value.int k t::g).toArray)(hb:IsTup s.heap b (Value.int l u::zs).toArray)(f:k≠l/\c=decide (k<l)\/k=l/\uH A s g zs c)(h:Q c s):
  dM (model prog w) A (keyLt' (tuples' M) (.ref a) (.ref b)) Q E s:=by
 rcases f with⟨f,rfl⟩|⟨rfl,L⟩
 ·exact F3 ha hb f h
 rw[iZ];obtain⟨o,B,C,_,r⟩:=ha;obtain⟨F,y,D,_,v⟩:=hb;refine wB1 (listItems_at B r (wB1 (listItems_at y v ?_)));rw[bT,bK,bE];refine wB1 (wB1 ?_);dsimp only;refine wB1 (wpAny_eqBool_int ?_);simp only[beq_self_eq_true,b5,bF1,if_false];refine wP1 ?_;refine wpAny_mono (wpAny_forIn_list _ (λrest b s'=>s'=s/\b=(Y,()) /\ ∃(i:Nat) (vs ws:List dB),rest=(vs.zip ws).zipIdx (i+1)/\uH A s vs ws c/\vs.length+zs.length=ws.length+g.length)
  (λb s'=>s'=s/\(b=(Z c,())\/(b=(Y,())/\c=decide (g.length<zs.length)))) ?_ ?_ _ _ ⟨O,O,0,g,zs,O,L,by lia⟩) ?_ λ_ _ e=>e
 ·rintro x rest b s' ⟨rfl,rfl,i,vs,ws,d,m,j⟩;cases m with
  |nn=>simp at d
  |nc _ _=>simp at d
  |cn _ _=>simp at d
  | @eq p q ps n _ e t=>
   rw[bT,bK]at d;cases d;refine wB1 (e.of_in1 prog w E _ ?_);simp only[b5,bF1,if_false];exact wP1 ⟨O,O,i+1,ps,n,O,t,by simp at j;lia⟩
  | @lt p q ps n _ e t=>
   rw[bT,bK]at d;cases d;refine wB1 (e.of_in1 prog w E _ ?_);simp only[ck,if_true];rw[show(M&&(i+1 == 0))=J from rfl];exact wB1 (z8 t (wP1 ⟨O,.inl O⟩))
 ·rintro b s' ⟨rfl,rfl,i,vs,ws,d,m,j⟩;refine⟨O,.inr ⟨O,?_⟩⟩;cases m with
  |nn=>simp at j;rw[ai (by lia)]
  |nc _ _=>simp at j;rw[ah (by lia)]
  |cn _ _=>simp at j;rw[ai (by lia)]
  |eq _ _=>simp at d
  |lt _ _=>simp at d
 ·rintro b s' ⟨rfl,z⟩;rcases z with rfl|⟨rfl,z⟩
  ·exact wP1 h
  ·refine wP1 ?_;rw[sT1,sT1,lC1,lC1,show decide (g.length+1<zs.length+1)=c by rw[z];congr 1;simp];exact h
end
section
variable{ag:List (dE×Obj)}{σ:L2.St}{H:Hp}{s:dD}{mu:List dE}{S:Sto}
theorem F8(I:Inv X ag σ H s)(hs:Sim X.K H mu S){A:dG}(P:A.units+60<cLine){f:Bool}{d e:D}{v w:V}{u z:dB}{b:Bool}(F:eO X.K H mu d v)(y:eO X.K H mu e w)(B:d8 v u)(G:d8 w z)(hd:ju d=Z f)(he:ju e=Z f)(h:ku S 51 d e=Z b){E:dB->dD->Prop}{Q:Bool->dD->Prop}(q:Q b s):dM (model X.prog X.w) A (keyLt' (tuples' f) u z) Q E s:=by
 have C:∀{xs ys:List D} {vs ws:List V} {us zs:List dB} {b:Bool},d5 X.K H mu xs vs->d5 X.K H mu ys ws->eE vs us->eE ws zs->oY (ga S 50) (ku S 50) xs ys=Z b->uH A s us zs b:=
  λi c j g h=>AB I hs (A:=A) (n:=50) (by lia) (λam r2 L N h=>vk I hs 50 (A:=A.in1) (by show A.units+1+50<cLine;lia) am r2 L N h) i c j g h
 unfold ju at hd he;split at hd
 ·rename_i k _;cases hd;split at he
  ·rename_i l _;cases F with
   |tup r i=>
   cases y with
   |tup o c=>
   obtain⟨t,j,p,_⟩:=I.tuple r;obtain⟨m,g,x,_⟩:=I.tuple o;cases B;cases G;cases i with
   |cons a1 i=>
   cases c with
   |cons a2 c=>
   cases a1;cases a2;cases j with
   |cons au j=>
   cases g with
   |cons K g=>
   obtain⟨tk,rfl⟩:=au;obtain⟨ao,rfl⟩:=K;refine C0 p x ?_ q;have h:oY (ga S 50) (ku S 50) (.int k::_) (.int l::_)=Z b:=h;rw[oY]at h;by_cases a:k=l
   ·subst a;exact .inr ⟨rfl,C i c j g (by
     have e:ga S 50 (.int k) (.int k)=Z M:=by show Z (decide (k=k))=_;simp
     rw[e]at h;exact h)⟩
   ·refine .inl ⟨a,?_⟩;have e:ga S 50 (.int k) (.int l)=Z J:=by show Z (decide (k=l))=_;simp[a]
    rw[e]at h;have h:Z (decide (k<l))=Z b:=h;exact(Option.some.inj h).symm
  ·cases he
  ·cases he
 ·cases hd;split at he
  ·cases he
  ·cases F with
   |tup r i=>
   cases y with
   |tup o c=>
   obtain⟨t,j,p,_⟩:=I.tuple r;obtain⟨m,g,x,_⟩:=I.tuple o;cases B;cases G;exact F2 p x (C i c j g h) q
  ·cases he
 ·cases hd
theorem Ex(I:Inv X ag σ H s)(hs:Sim X.K H mu S){A:dG}(hu:A.units+60<cLine){f:Bool}{ds:List D}{vs:List V}{its:List dB}(r:d5 X.K H mu ds vs)(rv:eE vs its)(hp:m4 ds=true)(hk:∀d∈ds,ju d=some f)(hr:mi (kF ds)=true):
  ∃(am:List V) (ws:List dB),d5 X.K H mu (kF ds) am/\eE am ws/\its.Perm ws/\am.length=vs.length /\
   ∀c:dP,(∀b o,s.heap.get? b=Z o->c.get? b=Z o)->l6 X.prog X.w A {s with heap:=c} (tuples' f) ws (pairsOf its) /\
    (its≠[] -> ∀(E:dB->dD->Prop) (Q:SortKind->dD->Prop),Q (tuples' f) {s with heap:=c}->dM (model X.prog X.w) A (keyKind' its.toArray) Q E {s with heap:=c}):=by
 have p:∀{l:List D},m4 l=M -> ∀d∈l,pl d=M:=by
  intro l
  induction l with
  |nil=>intro _ d h;cases h
  |cons x l ih=>
   intro h d L;rw[m4,bA1]at h;rcases aF.mp L with rfl|z
   ·exact h.1
   ·exact ih h.2 d z
 have und:∀n,(∀d:D,pl d=M->d.und n=M) /\ ∀l:List D,m4 l=M->D.unds n l=M:=λn=>by
  refine⟨λd=>?_,λl=>?_⟩
  ·exact D.rec (motive_1:=λd=>pl d=M->d.und n=M) (motive_2:=λl=>m4 l=M->D.unds n l=M) (λ_=>rfl) (λ_ _=>rfl) (λ_ _=>rfl) (λ_ _=>rfl) (λxs ih h=>by rw[pl]at h;rw[D.und];exact ih h) (λ_ _ h=>by cases h) (λ_ h=>by cases h) (λ_ h=>by cases h) (λ_=>rfl) (λx xs h1 h2 h=>by rw[m4,bA1]at h;rw[D.unds,h1 h.1,h2 h.2];rfl) d
  ·exact D.rec_1 (motive_1:=λd=>pl d=M->d.und n=M) (motive_2:=λl=>m4 l=M->D.unds n l=M) (λ_=>rfl) (λ_ _=>rfl) (λ_ _=>rfl) (λ_ _=>rfl) (λxs ih h=>by rw[pl]at h;rw[D.und];exact ih h) (λ_ _ h=>by cases h) (λ_ h=>by cases h) (λ_ h=>by cases h) (λ_=>rfl) (λx xs h1 h2 h=>by rw[m4,bA1]at h;rw[D.unds,h1 h.1,h2 h.2];rfl) l
 have tri:∃aq:List Tr,aq.map (·.1)=ds/\aq.map (·.2.1)=vs/\aq.map (·.2.2)=its /\ ∀y∈aq,eO X.K H mu y.1 y.2.1/\d8 y.2.1 y.2.2:=by
  clear hk hr hp
  induction ds generalizing vs its with
  |nil=>cases r;cases rv;exact⟨[],O,O,O,λy h=>by cases h⟩
  |cons d ds ih=>
   cases r with
   |cons B t=>
   cases rv with
   |cons ao tt=>
   obtain⟨aq,K,G,w,ok⟩:=ih t tt;refine⟨(d,_,_)::aq,by rw[mP1,K],by rw[mP1,G],by rw[mP1,w],λy m=>?_⟩;rcases aF.mp m with rfl|z
   ·exact⟨B,ao⟩
   ·exact ok y z
 obtain⟨aq,rfl,rfl,rfl,ok⟩:=tri;have N:=nw aq;have em:=pu aq;rw[<- em]at hr ⊢;generalize hZ:sP aq=wq at *
 have g:∀y∈wq,y∈aq:=λy m=>N.mem_iff.mp m;refine⟨wq.map (·.2.1),wq.map (·.2.2),?_,?_,(N.map _).symm,by rw[lM1,lM1,N.length_eq],λc keep=>⟨⟨?_,?_,?_⟩,λP E Q q=>?_⟩⟩
 ·clear hr hZ em N
  induction wq with
  |nil=>exact .nil
  |cons y wq ih=>exact .cons (ok y (g y mS1)).1 (ih λz hz=>g z (mC1 _ hz))
 ·clear hr hZ em N
  induction wq with
  |nil=>exact .nil
  |cons y wq ih=>exact .cons (ok y (g y mS1)).2 (ih λz hz=>g z (mC1 _ hz))
 ·refine cu.mpr fun i j hi hj T e=>?_;rw [lM1] at hi hj;rw [List.getElem_map,List.getElem_map] at e;have F:=g _ (bS hi);have C:=g _ (bS hj);have hl:=kN hr (i:=i) (j:=j) (a:=wq[i].1) (b:=wq[j].1) (by rw [gP1,gG1 hi];rfl) (by rw [gP1,gG1 hj];rfl) T;obtain ⟨B,ao⟩:=ok _ F;obtain ⟨r2,q2⟩:=ok _ C;have h1:=hk wq[i].1 (cf.mpr ⟨_,F,rfl⟩);have h2:=hk wq[j].1 (cf.mpr ⟨_,C,rfl⟩);have isT:∀ {d:D} {v:V} {u:dB},ju d=some f->eO X.K H mu d v->d8 v u -> ∃ a,v = .ref a/\u = .ref a:=fun {d v u} L rd ru=>by
   cases rd with
   |tup _ _=>cases ru;exact⟨_,O,O⟩
   |_=>cases L
  obtain⟨a1,K,G⟩:=isT h1 B ao;obtain⟨a2,w,e4⟩:=isT h2 r2 q2;rw[G,e4]at e;cases e;rw[K]at B;rw[w]at r2;have e:=we I (p hp _ (cf.mpr ⟨_,F,O⟩)) (p hp _ (cf.mpr ⟨_,C,O⟩)) B r2;unfold pS at hl;rw[e,bA1,beq_iff_eq,beq_iff_eq]at hl;rw[hl.1]at hl;cases hl.2
 ·rw[pairsOf_toList];have:(aq.map (·.2.2) |>.zip (aq.map (·.2.2))).map (·.1)=aq.map (·.2.2):=List.map_fst_zip (nR1 _);rw[this];exact(N.map _).symm
 ·intro x y i j hx m T E Q q;rw[gP1]at hx m;obtain⟨yi,R,rfl⟩:=oM1.mp hx;obtain⟨yj,U,rfl⟩:=oM1.mp m;have F:=g _ (gM1 R);have C:=g _ (gM1 U);have au:Inv X ag σ H {s with heap:=c}:=I.kept (t':=s.toks) keep;have ki:(wq.map (·.1))[i]?=Z yi.1:=by rw[gP1,R];rfl
  have kj:(wq.map (·.1))[j]?=Z yj.1:=by rw[gP1,U];rfl
  have pi:=(und 0).1 _ (p hp _ (cf.mpr ⟨_,F,O⟩));have pj:=(und 0).1 _ (p hp _ (cf.mpr ⟨_,C,O⟩));refine F8 au hs hu (ok _ F).1 (ok _ C).1 (ok _ F).2 (ok _ C).2 (hk _ (cf.mpr ⟨_,F,O⟩)) (hk _ (cf.mpr ⟨_,C,O⟩)) ?_ q;rw[wE pi pj];by_cases z:i<j
  ·have:=kN hr ki kj z;unfold pS at this;simp only[bA1,beq_iff_eq]at this;rw[ah z];exact this.1
  ·have:=kN hr kj ki (by lia);unfold pS at this;simp only[bA1,beq_iff_eq]at this;rw[ai z];exact this.2
 ·have au:Inv X ag σ H {s with heap:=c}:=I.kept (t':=s.toks) keep;have L:∀ y∈aq,∃ a xs,y.2.2 = .ref a/\IsTup c a xs/\(if f=true then ∃ k t ps,xs=(Value.int k t::ps).toArray else ∃ b ps qs,xs=(Value.ref b::ps).toArray/\IsTup c b qs):=fun y m=>by
   have h1:=hk y.1 (cf.mpr ⟨_,m,O⟩);obtain⟨B,ao⟩:=ok y m;obtain⟨d,v,u⟩:=y;dsimp only at *
   unfold ju at h1;split at h1
   ·cases h1;cases B with
    |tup q t=>
    obtain⟨is,W,i1,_⟩:=au.tuple q;cases t with
    |cons a1 t=>
    cases a1;cases W with
    |cons w1 W=>
    obtain⟨tk,rfl⟩:=w1;cases ao;exact⟨_,_,O,i1,by rw[ak O];exact⟨_,_,_,O⟩⟩
   ·cases h1;cases B with
    |tup q t=>
    obtain⟨is,W,i1,_⟩:=au.tuple q;cases t with
    |cons a1 t=>
    cases a1 with
    |tup q2 t2=>
    obtain⟨is2,v2,i2,_⟩:=au.tuple q2;cases W with
    |cons w1 W=>
    cases w1;cases ao;exact⟨_,_,O,i1,by rw[aj aK];exact⟨_,_,_,O,i2⟩⟩
   ·cases h1
  cases f with
  |true=>
   refine F5 P (λv hv=>?_) q;obtain⟨y,m,rfl⟩:=cf.mp hv;obtain⟨a,xs,K,G,w⟩:=L y m;rw[ak O]at w;obtain⟨k,t,ps,rfl⟩:=w;exact⟨a,k,t,ps,K,G⟩
  |false=>
   refine F4 P (λv hv=>?_) q;obtain⟨y,m,rfl⟩:=cf.mp hv;obtain⟨a,xs,K,G,w⟩:=L y m;rw[aj aK]at w;obtain⟨b,ps,qs,rfl,e4⟩:=w;exact⟨a,_,ps,b,qs,K,G,O,e4⟩
end
section
variable{prog:dF}{w:dH}{A:dG}{E:dB->dD->Prop}{s:dD}
end
def n6(l:List D):Option Bool:=match l with
 |[]=>Z M
 |d::l=>match ju d with
  |some f=>if(l.all λe=>ju e == Z f)=M then Z f else Y
  |none=>Y
theorem vq:∀{l:List D} {f:Bool},n6 l=Z f -> ∀d∈l,ju d=Z f
 |[],_,_,d,h=>by cases h
 |x :: l,f,h,d,hd=>by
  rw[n6]at h;cases hx:ju x with
  |none=>rw[hx]at h;cases h
  |some g=>
   rw[hx]at h;dsimp only at h;split at h
   ·rename_i a;cases h;rcases aF.mp hd with rfl|z
    ·exact hx
    ·have:=bB.mp a d z
     rwa [beq_iff_eq]at this
   ·cases h
mutual
theorem pl_tk:∀k:TK,pl (tkD k)=M
 | .non=>rfl
 | .int _=>rfl
 | .tup xs=>by rw[tkD,pl];exact zR xs
theorem zR:∀ks:List TK,m4 (ja ks)=M
 |[]=>rfl
 |k::ks=>by rw[ja,m4,pl_tk k,zR ks];rfl
end
noncomputable def GP:Bool->Keyed->Array Keyed->Nat->Nat->Nat->StateT SortSt Sem (Option Nat):=sortPriv%PySem.Builtin.gallop
abbrev rk(ws:List dB)(p:Keyed):Nat:=rkV ws p.1
section
variable{prog:dF}{w:dH}{A:dG}{E:dB->dD->Prop}{s:dD}{κ:SortKind}{ws:List dB}{a₀:Array Keyed}
theorem l6.lt2(C:l6 prog w A s κ ws a₀){st:SortSt}{p q:Keyed}{Q:Option Bool->SortSt->Prop}(hk:kindOf st=κ)(hp:p∈a₀)(b:q∈a₀)(a:rk ws p≠rk ws q)(h:Q (Z (decide (rk ws p<rk ws q))) st):wpS (model prog w) A E s (lt' p q) Q st:=by
 have at_:∀{p:Keyed},p∈a₀->ws[rk ws p]?=Z p.1:=λ{p} hp=>zD (C.keys.mem_iff.mp (cf.mpr ⟨_,cg.mpr hp,O⟩));rw[lt'_eq];refine wpS_bind (wpS_get ?_);rw[hk];exact wpS_bind (wpS_lift (wpAny_attempt (C.lt p.1 q.1 _ _ (at_ hp) (at_ b) a _ _ ⟨O,wpS_pure h⟩)))
noncomputable def bey(l:Bool)(key:Keyed)(arr:Array Keyed)(b i:Nat):StateT SortSt Sem (Option Bool):=elem' arr (b+i) >>= λx=>if l=M then lt' x key else lt' key x >>= λr=>pure (r.map λz=> !z)
theorem Iv(C:l6 prog w A s κ ws a₀){st:SortSt}{l:Bool}{key p:Keyed}{arr:Array Keyed}{b i:Nat}{Q:Option Bool->SortSt->Prop}(hk:kindOf st=κ)(a:key∈a₀)(hp:arr[b+i]?=Z p)(hm:p∈a₀)(c:rk ws p≠rk ws key)(q:Q (Z (decide (rk ws p<rk ws key))) st):wpS (model prog w) A E s (bey l key arr b i) Q st:=by
 unfold bey;rw[elem'_eq,hp];refine wpS_bind (wpS_pure ?_);cases l with
 |true=>exact C.lt2 hk hm a c q
 |false=>
  refine wpS_bind (C.lt2 hk a hm (Ne.symm c) (wpS_pure ?_));have e:(!decide (rk ws key<rk ws p))=decide (rk ws p<rk ws key):=by rw[bQ];simp;lia
  show Q (Z (!decide (rk ws key<rk ws p))) st;rw[e];exact q
theorem wT(C:l6 prog w A s κ ws a₀){st:SortSt}{l:Bool}{key:Keyed}{arr:Array Keyed}{b n h:Nat}{R:Nat->Nat}{Q:Option Nat->SortSt->Prop}(hk:kindOf st=κ)(am:key∈a₀)(au:h<n)(B:∀i,i<n -> ∃p,arr[b+i]?=Z p/\p∈a₀/\rk ws p=R i/\R i≠rk ws key)(a:∀i j,i<j->j<n->R i<R j)(q:∀k,k<=n->(∀i,i<k->R i<rk ws key)->(∀i,k<=i->i<n->rk ws key<R i)->Q (Z k) st):wpS (model prog w) A E s (GP l key arr b n h) Q st:=by
 have N:∀i,i<n -> ∀{Q:Option Bool->SortSt->Prop},Q (Z (decide (R i<rk ws key))) st->wpS (model prog w) A E s (bey l key arr b i) Q st:=λi hi Q L=>by
  obtain⟨p,h1,h2,H,y⟩:=B i hi;rw[<- H]at L y;exact Iv C hk am h1 h2 y L
 have ne:∀i,i<n->R i≠rk ws key:=λi hi=>by obtain⟨p,_,_,_,h⟩:=B i hi;exact h
 have ao:∀ lo hi,lo<=hi->hi<=n->(∀ i,i<lo->R i<rk ws key)->(∀ i,hi<=i->i<n->rk ws key<R i) -> ∀ {f:Nat->Option (Option Nat)×Nat×Nat->StateT SortSt Sem (ForInStep (Option (Option Nat)×Nat×Nat))} {S:Option (Option Nat)×Nat×Nat->SortSt->Prop},
   (∀x c,f x c=(if c.2.1>=c.2.2 then pure (ForInStep.done (Y,c.2.1,c.2.2))else bey l key arr b (c.2.1+(c.2.2-c.2.1)/2) >>= λr=>match r with
    |some m=>if m=M then pure (ForInStep.yield (Y,c.2.1+(c.2.2-c.2.1)/2+1,c.2.2))else pure (ForInStep.yield (Y,c.2.1,c.2.1+(c.2.2-c.2.1)/2))
    |_=>pure (ForInStep.done (Z Y,c.2.1,c.2.2))))->(∀k c,k<=n->(∀i,i<k->R i<rk ws key)->(∀i,k<=i->i<n->rk ws key<R i)->c.1=Y->c.2.2=k->S c st)->wpS (model prog w) A E s (forIn [0:n] (Y,lo,hi) f) S st:=λlo hi h1 h2 H y f S W L=>by
  refine wpS_forRange (λx c st'=>st'=st /\ ∃lo hi,c=(Y,lo,hi)/\lo<=hi/\hi<=n/\hi-lo<=n-x/\(∀i,i<lo->R i<rk ws key) /\ ∀i,hi<=i->i<n->rk ws key<R i) ?_ ?_ ⟨O,lo,hi,O,h1,h2,by lia,H,y⟩
  ·rintro x c st' _ T ⟨rfl,lo,hi,rfl,I,g,o,d,D⟩;rw[W];dsimp only;by_cases z:lo>=hi
   ·rw[ak z];have e:lo=hi:=by lia
    subst e;exact wpS_pure (L lo _ g d D O O)
   ·rw[aj z];have hm:lo+(hi-lo)/2<hi:=by lia
    generalize aq:lo+(hi-lo)/2=m at *
    refine wpS_bind (N m (by lia) ?_);by_cases u:R m<rk ws key
    ·simp only[u,decide_true,if_true];refine wpS_pure ⟨O,m+1,hi,O,by lia,g,by lia,λi X=>?_,D⟩;by_cases v:i=m
     ·rw[v];exact u
     ·exact bg (a i m (by lia) (by lia)) u
    ·simp only[u,decide_false,bF1,if_false];have F:rk ws key<R m:=by have:=ne m (by lia);lia
     refine wpS_pure ⟨O,lo,m,O,by lia,by lia,by lia,d,λi t G=>?_⟩;by_cases v:i=m
     ·rw[v];exact F
     ·exact bg F (a m i (by lia) G)
  ·rintro c st' ⟨rfl,lo,hi,rfl,I,g,o,d,D⟩;have e:lo=hi:=by lia
   subst e;exact L lo _ g d D O O
 unfold GP;refine wpS_bind (N h au ?_);by_cases z:R h<rk ws key
 ·simp only[z,decide_true,if_true];refine wpS_bind (wpS_mono (wpS_forRange (λx c st'=>st'=st /\ ∃lo of,c=(Y,lo,of)/\x+1<=of/\lo<of/\h+lo<n/\R (h+lo)<rk ws key) (Q:=λc st'=>st'=st /\ ∃lo of,c=(Y,lo,of)/\lo<of/\h+lo<n/\R (h+lo)<rk ws key /\ ∀i,h+min of (n-h)<=i->i<n->rk ws key<R i) ?_ ?_ ⟨O,0,1,O,by lia,by lia,au,z⟩) ?_)
  ·rintro x c st' _ T ⟨rfl,lo,of,rfl,I,g,o,d⟩;dsimp only;by_cases K:of>=n-h
   ·rw[ak K];exact wpS_pure ⟨O,lo,of,O,g,o,d,λi t G=>by lia⟩
   ·rw[aj K];refine wpS_bind (N (h+of) (by lia) ?_);by_cases u:R (h+of)<rk ws key
    ·simp only[u,decide_true,b5,bF1,if_false];exact wpS_pure ⟨O,of,2*of+1,O,by lia,by lia,by lia,u⟩
    ·simp only[u,decide_false,ck,if_true];have F:rk ws key<R (h+of):=by have:=ne (h+of) (by lia);lia
     refine wpS_pure ⟨O,lo,of,O,g,o,d,λi t G=>?_⟩;by_cases v:i=h+of
     ·rw[v];exact F
     ·exact bg F (a (h+of) i (by lia) G)
  ·rintro c st' ⟨rfl,lo,of,rfl,I,g,o,d⟩;exact⟨O,lo,of,O,g,o,d,λi t G=>by lia⟩
  ·rintro c st' ⟨rfl,lo,of,rfl,g,o,d,D⟩;dsimp only;refine wpS_bind (ao (h+lo+1) (h+min of (n-h)) (by lia) (by lia) (λi hi=>?_) D (λx c=>rfl) λk c h1 h2 H y t=>?_)
   ·by_cases v:i=h+lo
    ·rw[v];exact d
    ·exact bg (a i (h+lo) (by lia) o) d
   ·obtain⟨wq,U,P⟩:=c;dsimp only at y t;subst y;subst t;exact wpS_pure (q P h1 h2 H)
 ·simp only[z,decide_false,bF1,if_false];have V:rk ws key<R h:=by have:=ne h au;lia
  refine wpS_bind (wpS_mono (wpS_forRange (λx c st'=>st'=st /\ ∃lo of,c=(Y,lo,of)/\x+1<=of/\lo<of/\lo<=h/\rk ws key<R (h-lo)) (Q:=λc st'=>st'=st /\ ∃lo of,c=(Y,lo,of)/\lo<of/\lo<=h/\rk ws key<R (h-lo) /\ ∀i,i<h+1-min of (h+1)->R i<rk ws key) ?_ ?_ ⟨O,0,1,O,by lia,by lia,by lia,V⟩) ?_)
  ·rintro x c st' _ T ⟨rfl,lo,of,rfl,I,g,o,d⟩;dsimp only;by_cases K:of>=h+1
   ·rw[ak K];exact wpS_pure ⟨O,lo,of,O,g,o,d,λi t=>by lia⟩
   ·rw[aj K];refine wpS_bind (N (h-of) (by lia) ?_);by_cases u:R (h-of)<rk ws key
    ·simp only[u,decide_true,if_true];refine wpS_pure ⟨O,lo,of,O,g,o,d,λi t=>?_⟩;by_cases v:i=h-of
     ·rw[v];exact u
     ·exact bg (a i (h-of) (by lia) (by lia)) u
    ·simp only[u,decide_false,bF1,if_false];have F:rk ws key<R (h-of):=by have:=ne (h-of) (by lia);lia
     exact wpS_pure ⟨O,of,2*of+1,O,by lia,by lia,by lia,F⟩
  ·rintro c st' ⟨rfl,lo,of,rfl,I,g,o,d⟩;exact⟨O,lo,of,O,g,o,d,λi t=>by lia⟩
  ·rintro c st' ⟨rfl,lo,of,rfl,g,o,d,D⟩;dsimp only;refine wpS_bind (ao (h+1-min of (h+1)) (h-lo) (by lia) (by lia) D (λi t G=>?_) (λx c=>rfl) λk c h1 h2 H y t=>?_)
   ·by_cases v:i=h-lo
    ·rw[v];exact d
    ·exact bg d (a (h-lo) i (by lia) G)
   ·obtain⟨wq,U,P⟩:=c;dsimp only at y t;subst y;subst t;exact wpS_pure (q P h1 h2 H)
end
noncomputable def Jw:Nat->StateT SortSt Sem Unit:=sortPriv%PySem.Builtin.setMinGallop
noncomputable def Kn:Array Keyed->Array Keyed->StateT SortSt Sem (Array Keyed):=sortPriv%PySem.Builtin.mergeLo
noncomputable def Ko:Array Keyed->Array Keyed->StateT SortSt Sem (Array Keyed):=sortPriv%PySem.Builtin.mergeHi
structure Sm (st st':SortSt):Prop where
 k:kindOf st'=kindOf st
 a:arrOf st'=arrOf st
 p:pendingOf st'=pendingOf st
 f:failedOf st'=failedOf st
theorem Sm.rfl{st:SortSt}:Sm st st:=⟨_root_.rfl,_root_.rfl,_root_.rfl,_root_.rfl⟩
theorem Sm.g{st st':SortSt}(h:Sm st st')(g:Nat):Sm st (SortSt.mk' (kindOf st') (arrOf st') (pendingOf st') g (failedOf st')):=⟨h.k,h.a,h.p,h.f⟩
def Srt(ws:List dB)(xs:List Keyed):Prop:=xs.Pairwise λp q=>rk ws p<rk ws q
def mK(ws:List dB)(xs ys:List Keyed):Prop:=∀x∈xs,∀y∈ys,rk ws x<rk ws y
section
variable{ws:List dB}{a b out xs ys zs:List Keyed}{i j k:Nat}
theorem Srt.app(h1:Srt ws xs)(h2:Srt ws ys)(h:mK ws xs ys):Srt ws (xs++ys):=cA.mpr ⟨h1,h2,h⟩
theorem mK.app(h1:mK ws xs zs)(h2:mK ws ys zs):mK ws (xs++ys) zs:=λx b y a=>(aG.mp b).elim (λh=>h1 x h y a) λh=>h2 x h y a
theorem mK.of(h:mK ws xs ys){a ys':List Keyed}(h1:∀x∈a,x∈xs)(h2:∀y∈ys',y∈ys):mK ws a ys':=λx b y c=>h x (h1 x b) y (h2 y c)
theorem Srt.split(h:Srt ws a)(i:Nat):mK ws (a.take i) (a.drop i):=by
 have:=h;unfold Srt at this;rw[<- cI i a]at this;exact(cA.mp this).2.2
structure J0 (ws:List dB)(a b out:List Keyed)(i j:Nat):Prop where
 la:i<=a.length
 lb:j<=b.length
 len:out.length=i+j
 pm:(out++(a.drop i++b.drop j)).Perm (a++b)
 so:Srt ws out
 ba:mK ws out (a.drop i)
 bb:mK ws out (b.drop j)
theorem J0.mvA(h:J0 ws a b out i j)(f:Srt ws a)(hk:i+k<=a.length)(hb:mK ws ((a.drop i).take k) (b.drop j)):J0 ws a b (out++(a.drop i).take k) (i+k) j:=by
 have e:a.drop i=(a.drop i).take k++a.drop (i+k):=by rw[<- bD,cI]
 have c:Srt ws (a.drop i):=f.sublist (cC _ _);refine⟨hk,h.lb,?_,?_,h.so.app (c.sublist (aT _ _)) (h.ba.of (λ_ h=>h) λ_ h=>cN h),?_,h.bb.app hb⟩
 ·rw[lA1,h.len,aQ,aU];lia
 ·have:=h.pm;rw[e,bG]at this;rw[bG];exact this
 ·refine mK.app (h.ba.of (λ_ h=>h) λy d=>?_) ?_
  ·rw[e];exact mA1 _ d
  ·have:=c.split k
   rwa [bD]at this
theorem J0.swap(h:J0 ws a b out i j):J0 ws b a out j i:=⟨h.lb,h.la,by rw[h.len,Nat.add_comm],(List.Perm.append_left _ cS).trans (h.pm.trans cS),h.so,h.bb,h.ba⟩
theorem J0.mvB(h:J0 ws a b out i j)(c:Srt ws b)(hk:j+k<=b.length)(hb:mK ws ((b.drop j).take k) (a.drop i)):J0 ws a b (out++(b.drop j).take k) i (j+k):=(h.swap.mvA c hk hb).swap
theorem v3{x:Keyed}(h:a[i]?=Z x):(a.drop i).take 1=[x]:=by
 have b:=(gE1.mp h).1;rw[bU b,cT,cU,(gE1.mp h).2]
def Mgd(ws:List dB)(a b r:List Keyed):Prop:=r.Perm (a++b)/\Srt ws r
theorem J0.dn(h:J0 ws a b out i j)(d:Srt ws a)(c:j=b.length):Mgd ws a b (out++a.drop i++b.drop j):=by
 have e:b.drop j=[]:=by rw[c,List.drop_length]
 refine⟨by rw[bG];exact h.pm,?_⟩;rw[e,aM];exact h.so.app (d.sublist (cC _ _)) h.ba
theorem J0.ls(h:J0 ws a b out i j)(d:Srt ws a)(c:Srt ws b)(hb:mK ws (b.drop j) (a.drop i)):Mgd ws a b (out++b.drop j++a.drop i):=by
 refine⟨by rw[bG];exact(List.Perm.append_left _ cS).trans h.pm,?_⟩;exact(h.so.app (c.sublist (cC _ _)) h.bb).app (d.sublist (cC _ _)) (h.ba.app hb)
theorem Srt.drop_gt(h:Srt ws a){x:Keyed}(hx:a[i]?=Z x):∀y∈a.drop i,rk ws x<=rk ws y:=λy b=>by
 have d:=(gE1.mp hx).1;rw[bU d,(gE1.mp hx).2]at b;have c:Srt ws (a.drop i):=h.sublist (cC _ _);rw[bU d,(gE1.mp hx).2]at c;rcases aF.mp b with rfl|b
 ·exact nR1 _
 ·exact aD ((cb.mp c).1 y b)
end
section
variable{prog:dF}{w:dH}{A:dG}{E:dB->dD->Prop}{s:dD}{κ:SortKind}{ws:List dB}{a₀:Array Keyed}
theorem qM{st:SortSt}{g:Nat}{Q:Unit->SortSt->Prop}(h:Q () (SortSt.mk' (kindOf st) (arrOf st) (pendingOf st) g (failedOf st))):wpS (model prog w) A E s (Jw g) Q st:=wpS_modify h
theorem fu{st:SortSt}{arr:Array Keyed}{i:Nat}{p:Keyed}{Q:Keyed->SortSt->Prop}(h:arr[i]?=Z p)(q:Q p st):wpS (model prog w) A E s (elem' arr i) Q st:=by
 rw[elem'_eq,h];exact wpS_pure q
structure MC (ws:List dB)(a₀ a b:Array Keyed):Prop where
 ma:∀p∈a,p∈a₀
 mb:∀p∈b,p∈a₀
 sa:Srt ws a.toList
 sb:Srt ws b.toList
 ne:∀p∈a,∀q∈b,rk ws p≠rk ws q
 pa:0<a.size
 pb:0<b.size
 last:∀x,a[a.size-1]?=some x -> ∀q∈b,rk ws q<rk ws x
 head:∀x,b[0]?=some x -> ∀q∈a,rk ws x<rk ws q
theorem MC.galA(C:l6 prog w A s κ ws a₀){a b:Array Keyed}(ao:MC ws a₀ a b){st:SortSt}{l:Bool}{ia ib:Nat}{y:Keyed}{Q:Option Nat->SortSt->Prop}(hk:kindOf st=κ)(hy:b[ib]? = Z y)(h:ia<a.size)(q:∀k,ia+k<=a.size->(∀x∈(a.toList.drop ia).take k,rk ws x<rk ws y)->(∀x∈a.toList.drop (ia+k),rk ws y<rk ws x)->Q (Z k) st):wpS (model prog w) A E s (GP l y a ia (a.size-ia) 0) Q st:=by
 have d:y∈b:=ci hy;refine wT (R:=λi=>(a[ia+i]?.map (rk ws)).getD 0) C hk (ao.mb y d) (by lia) (λi hi=>?_) (λi j m o=>?_) λk h1 h2 n=>q k (by lia) (λx g=>?_) λx g=>?_
 ·have c:ia+i<a.size:=by lia
  refine⟨a[ia+i],aG1 c,ao.ma _ (cV c),by rw[aG1 c];rfl,?_⟩;rw[aG1 c];exact ao.ne _ (cV c) _ d
 ·have c:ia+i<a.size:=by lia
  have f:ia+j<a.size:=by lia
  rw[aG1 c,aG1 f];have:=cu.mp ao.sa (ia+i) (ia+j) (by simpa using c) (by simpa using f) (by lia);simpa using this
 ·obtain⟨i,hi⟩:=bo g;have e:i<k:=by have:=(gE1.mp hi).1;rw[aQ]at this;lia
  rw[aS e,cB,aT1]at hi;have:=h2 i e;rw[hi]at this;exact this
 ·obtain⟨i,hi⟩:=bo g;rw[cB,aT1]at hi;have c:=(Array.getElem?_eq_some_iff.mp hi).1;have:=n (k+i) (by lia) (by lia);rw[<- bj,hi]at this;exact this
theorem MC.galB(C:l6 prog w A s κ ws a₀){a b:Array Keyed}(ao:MC ws a₀ a b){st:SortSt}{l:Bool}{ia ib:Nat}{y:Keyed}{Q:Option Nat->SortSt->Prop}(hk:kindOf st=κ)(hy:a[ia]? = Z y)(h:ib<b.size)(q:∀k,ib+k<=b.size->(∀x∈(b.toList.drop ib).take k,rk ws x<rk ws y)->(∀x∈b.toList.drop (ib+k),rk ws y<rk ws x)->Q (Z k) st):wpS (model prog w) A E s (GP l y b ib (b.size-ib) 0) Q st:=by
 have d:y∈a:=ci hy;refine wT (R:=λi=>(b[ib+i]?.map (rk ws)).getD 0) C hk (ao.ma y d) (by lia) (λi hi=>?_) (λi j m o=>?_) λk h1 h2 n=>q k (by lia) (λx g=>?_) λx g=>?_
 ·have c:ib+i<b.size:=by lia
  refine⟨b[ib+i],aG1 c,ao.mb _ (cV c),by rw[aG1 c];rfl,?_⟩;rw[aG1 c];exact(ao.ne _ d _ (cV c)).symm
 ·have c:ib+i<b.size:=by lia
  have f:ib+j<b.size:=by lia
  rw[aG1 c,aG1 f];have:=cu.mp ao.sb (ib+i) (ib+j) (by simpa using c) (by simpa using f) (by lia);simpa using this
 ·obtain⟨i,hi⟩:=bo g;have e:i<k:=by have:=(gE1.mp hi).1;rw[aQ]at this;lia
  rw[aS e,cB,aT1]at hi;have:=h2 i e;rw[hi]at this;exact this
 ·obtain⟨i,hi⟩:=bo g;rw[cB,aT1]at hi;have c:=(Array.getElem?_eq_some_iff.mp hi).1;have:=n (k+i) (by lia) (by lia);rw[<- bj,hi]at this;exact this
end
theorem ll(a:Array Keyed)(i:Nat):(a.extract i a.size).toList=a.toList.drop i:=by
 rw[cy,cW,b8 (by simp)]
theorem uf(a:Array Keyed)(i k:Nat):(a.extract i (i+k)).toList=(a.toList.drop i).take k:=by
 rw[cy,cW,br]
section
variable{prog:dF}{w:dH}{A:dG}{E:dB->dD->Prop}{s:dD}{κ:SortKind}{ws:List dB}{a₀:Array Keyed}
theorem Ja{j i g l τ:Type}{A G:Prop}{f:j->i->g->l->τ}{R:j->i->g->l->Prop}{x:τ}(h:A /\ ∃a b c d,x=f a b c d/\R a b c d)(k:A -> ∀a b c d,x=f a b c d->R a b c d->G):G:=by
 obtain⟨h,a,b,c,d,e,r⟩:=h;exact k h a b c d e r
theorem I9{l i m g j τ:Type}{A G:Prop}{f:l->i->m->g->j->τ}{R:l->i->m->g->j->Prop}{x:τ}(h:A /\ ∃a b c d e,x=f a b c d e/\R a b c d e)(k:A -> ∀a b c d e,x=f a b c d e->R a b c d e->G):G:=by
 obtain⟨h,a,b,c,d,e,n,r⟩:=h;exact k h a b c d e n r
theorem I7{n l o j m i τ:Type}{A G:Prop}{f:n->l->o->j->m->i->τ}{R:n->l->o->j->m->i->Prop}{x:τ}(h:A /\ ∃a b c d e g,x=f a b c d e g/\R a b c d e g)(k:A -> ∀a b c d e g,x=f a b c d e g->R a b c d e g->G):G:=by
 obtain⟨h,a,b,c,d,e,g,p,r⟩:=h;exact k h a b c d e g p r
theorem HK(C:l6 prog w A s κ ws a₀){a b:Array Keyed}(ao:MC ws a₀ a b){st:SortSt}{Q:Array Keyed->SortSt->Prop}(hk:kindOf st=κ)(q:∀r st',Sm st st'->Mgd ws a.toList b.toList r.toList->Q r st'):wpS (model prog w) A E s (Kn a b) Q st:=by
 have dn:∀{out:Array Keyed} {ia ib:Nat},J0 ws a.toList b.toList out.toList ia ib->ib=b.size->Mgd ws a.toList b.toList (out++a.extract ia a.size++b.extract ib b.size).toList:=λ{out ia ib} h e=>by
  rw[cv,cv,ll,ll];exact h.dn ao.sa (by rw[e];simp)
 have lastX:∀{ia:Nat},ia+1=a.size -> ∀y∈a.toList.drop ia,∀q∈b,rk ws q<rk ws y:=λ{ia} e y K q hq=>by
  have hl:ia<a.toList.length:=by rw[aJ];lia
  rw[bU hl,List.drop_of_length_le (by rw[aJ];lia)]at K;have:y=a.toList[ia]:=by simpa using K
  exact ao.last y (by rw[this,show a.size-1=ia by lia];simp) q hq
 have ls:∀{out:Array Keyed} {ia ib:Nat},J0 ws a.toList b.toList out.toList ia ib->ia+1=a.size->Mgd ws a.toList b.toList (out++b.extract ib b.size++a.extract ia a.size).toList:=λ{out ia ib} h e=>by
  rw[cv,cv,ll,ll];exact h.ls ao.sa ao.sb λx D y K=>lastX e y K x (cg.mp (cO D))
 have R:∀{i:Nat},i<a.size -> ∃x,a[i]?=Z x/\x∈a/\a.toList[i]?=Z x:=λ{i} h=>⟨a[i],aG1 h,cV h,by rw[aT1,aG1 h]⟩;have W:∀{i:Nat},i<b.size -> ∃x,b[i]?=Z x/\x∈b/\b.toList[i]?=Z x:=λ{i} h=>⟨b[i],aG1 h,cV h,by rw[aT1,aG1 h]⟩;have am:∀{out:Array Keyed} {ia ib:Nat} {y:Keyed},J0 ws a.toList b.toList out.toList ia ib->b.toList[ib]?=Z y->(∀x∈a.toList.drop ia,rk ws y<rk ws x)->J0 ws a.toList b.toList (out.push y).toList ia (ib+1):=λ{out ia ib y} h K hb=>by
  have:=h.mvB (k:=1) ao.sb (by have:=(gE1.mp K).1;lia) (by rw[v3 K];intro x D z hz;rw[cM.mp D];exact hb z hz)
  rwa [v3 K,<- cw]at this
 have S:∀{out:Array Keyed} {ia ib:Nat} {y:Keyed},J0 ws a.toList b.toList out.toList ia ib->a.toList[ia]?=Z y->(∀x∈b.toList.drop ib,rk ws y<rk ws x)->J0 ws a.toList b.toList (out.push y).toList (ia+1) ib:=λ{out ia ib y} h K hb=>by
  have:=h.mvA (k:=1) ao.sa (by have:=(gE1.mp K).1;lia) (by rw[v3 K];intro x D z hz;rw[cM.mp D];exact hb z hz)
  rwa [v3 K,<- cw]at this
 refine Exists.elim (W ao.pb) λb0 d=>?_;have hb0:=d.1;have mb0:=d.2.1;have lb0:=d.2.2;clear d
 unfold Kn;refine wpS_bind (wpS_lift (wpAny_rule ⟨O,?_⟩));refine wpS_bind (fu hb0 ?_);have j0:J0 ws a.toList b.toList (#[]:Array Keyed).toList 0 0:=⟨bh _,bh _,O,.refl _,.nil,λx D=>(by cases D),λx D=>(by cases D)⟩;have j1:J0 ws a.toList b.toList (#[b0]:Array Keyed).toList 0 (0+1):=am j0 lb0 λx D=>ao.head b0 hb0 x (cg.mp (cO D));clear j0;by_cases z:1=b.size
 ·rw[ak (by simpa using z)];exact wpS_pure (q _ _ .rfl (dn j1 z))
 rw[aj (by simpa using z)];by_cases z2:0+1=a.size
 ·rw[ak (by simpa using z2)];exact wpS_pure (q _ _ .rfl (ls j1 z2))
 rw[aj (by simpa using z2)];have hpa:=ao.pa;have hpb:=ao.pb;refine wpS_bind (wpS_get ?_);refine wpS_bind (wpS_mono (wpS_forRange (λx c st'=>Sm st st' /\ ∃out ia ib g,c=(Y,out,ia,ib,g)/\J0 ws a.toList b.toList out.toList ia ib/\ia+1<a.size/\ib<b.size/\x+1<=out.toList.length)
  (Q:=λc st'=>Sm st st' /\ ∃r,c.1=Z r/\Mgd ws a.toList b.toList r.toList) ?_ ?_ ⟨.rfl,_,_,_,_,O,j1,by lia,by lia,nR1 _⟩) ?_)
 ·intro x c st' _ D l;refine Ja l ?_;clear l;intro hs out ia ib g p d;subst p;have F:=d.1;have n:=d.2.1;have m:=d.2.2.1;have hn:=d.2.2.2;clear d
  dsimp only;refine wpS_bind (wpS_mono (wpS_forRange (λy c B=>Sm st B /\ ∃f ia ib au P,c=(Y,f,ia,ib,au,P)/\J0 ws a.toList b.toList f.toList ia ib/\ia+1<a.size/\ib<b.size/\out.toList.length+y<=f.toList.length)
   (Q:=λc B=>Sm st B/\((∃r,c.1=Z r/\Mgd ws a.toList b.toList r.toList) \/ ∃f ia ib au P,c=(Y,f,ia,ib,au,P)/\J0 ws a.toList b.toList f.toList ia ib/\ia+1<a.size/\ib<b.size/\out.toList.length+1<=f.toList.length)) ?_ ?_ ⟨hs,_,_,_,_,_,O,F,n,m,nR1 _⟩) ?_)
  ·intro y c B _ K l;refine I9 l ?_;clear l;intro t f ia ib au P p d;subst p;have F:=d.1;have n:=d.2.1;have m:=d.2.2.1;have hn2:=d.2.2.2;clear d
   dsimp only;refine Exists.elim (W m) λu d=>?_;have hu:=d.1;have mu:=d.2.1;have lu:=d.2.2;clear d
   refine Exists.elim (R (show ia<a.size by lia)) λv d=>?_;have hv:=d.1;have mv:=d.2.1;have lv:=d.2.2;clear d
   refine wpS_bind (fu hu (wpS_bind (fu hv (wpS_bind (C.lt2 (t.k.trans hk) (ao.mb u mu) (ao.ma v mv) (ao.ne v mv u mu).symm ?_)))));by_cases z3:rk ws u<rk ws v
   ·simp only[z3,decide_true,if_true];refine wpS_bind (fu hu ?_);have I:=am F lu λx D=>nL1 z3 (ao.sa.drop_gt lv x D);have hl:(f.push u).toList.length=f.toList.length+1:=by simp
    by_cases H:ib+1=b.size
    ·rw[ak (by simpa using H)];exact wpS_pure ⟨t,.inl ⟨_,O,dn I H⟩⟩
    ·rw[aj (by simpa using H)];split
     ·exact wpS_pure ⟨t,.inr ⟨_,_,_,_,_,O,I,n,by lia,by lia⟩⟩
     ·exact wpS_pure ⟨t,_,_,_,_,_,O,I,n,by lia,by lia⟩
   ·simp only[z3,decide_false,bF1,if_false];have z5:rk ws v<rk ws u:=by have:=ao.ne v mv u mu;lia
    refine wpS_bind (fu hv ?_);have I:=S F lv λx D=>nL1 z5 (ao.sb.drop_gt lu x D);have hl:(f.push v).toList.length=f.toList.length+1:=by simp
    by_cases H:ia+1+1=a.size
    ·rw[ak (by simpa using H)];exact wpS_pure ⟨t,.inl ⟨_,O,ls I H⟩⟩
    ·rw[aj (by simpa using H)];split
     ·exact wpS_pure ⟨t,.inr ⟨_,_,_,_,_,O,I,by lia,m,by lia⟩⟩
     ·exact wpS_pure ⟨t,_,_,_,_,_,O,I,by lia,m,by lia⟩
  ·intro c B l;refine I9 l ?_;clear l;intro t f ia ib au P p d;subst p;have F:=d.1;have n:=d.2.1;have m:=d.2.2.1;have hn2:=d.2.2.2;clear d
   exfalso;have:=F.len;lia
  ·rintro c B ⟨t,⟨r,X,hm⟩|⟨f,ia,ib,au,P,rfl,F,n,m,hn2⟩⟩
   ·obtain⟨c1,c2⟩:=c;dsimp only at X;subst X;exact wpS_pure ⟨t,r,O,hm⟩
   dsimp only;refine wpS_bind (wpS_lift (wpAny_rule ⟨O,?_⟩));refine wpS_bind (wpS_mono (wpS_forRange (λy c B=>Sm st B /\ ∃j ia ib g au P,c=(Y,j,ia,ib,g,au,P)/\J0 ws a.toList b.toList j.toList ia ib/\ia+1<a.size/\ib<b.size/\f.toList.length+y<=j.toList.length)
    (Q:=λc B=>Sm st B/\((∃r,c.1=Z r/\Mgd ws a.toList b.toList r.toList) \/ ∃j ia ib g au P,c=(Y,j,ia,ib,g,au,P)/\J0 ws a.toList b.toList j.toList ia ib/\ia+1<a.size/\ib<b.size/\f.toList.length<=j.toList.length)) ?_ ?_ ⟨t,_,_,_,_,_,_,O,F,n,m,nR1 _⟩) ?_)
   ·intro y c N _ K l;refine I7 l ?_;clear l;intro L j ia ib g au P p d;subst p;have F:=d.1;have n:=d.2.1;have m:=d.2.2.1;have hn3:=d.2.2.2;clear d
    dsimp only;refine Exists.elim (W m) λu d=>?_;have hu:=d.1;have mu:=d.2.1;have lu:=d.2.2;clear d
    refine(λ(wq:∀g':Nat,(?T:Nat->Prop) g')=>?go) ?mn
    case go=>
     by_cases hg:g>1
     ·rw[ak hg];generalize g-1=g';exact wq g'
     ·rw[aj hg];exact wq g
    intro g';refine wpS_bind (qM (wpS_bind (fu hu (wpS_bind (ao.galA (ia:=ia) C (L.k.trans hk) hu (by lia) λk h1 h2 h3=>?_)))));have G:=L.g g';generalize SortSt.mk' (kindOf N) (arrOf N) (pendingOf N) g' (failedOf N)=st4 at *
    dsimp only;refine(λ(T:∀(o:Array Keyed) (i:Nat),J0 ws a.toList b.toList o.toList i ib->i+1<a.size->(∀x∈a.toList.drop i,rk ws u<rk ws x)->f.toList.length+y<=o.toList.length->(?T2:Array Keyed->Nat->Prop) o i)=>?go2) ?mn2
    case go2=>
     by_cases V:k>0
     ·rw [if_pos V];have I:=F.mvA (k:=k) ao.sa (by rw [aJ];exact h1) fun x D z hz=>nL1 (h2 x D) (ao.sb.drop_gt lu z hz);rw [<- uf,<- cv] at I;have hlt:ia+k≠a.size:=fun e=>by
       refine Exists.elim (R (show a.size-1<a.size by lia)) λv d=>?_;have hv:=d.1;have mv:=d.2.1;have lv:=d.2.2;clear d
       have h4:=ao.last v hv u mu;have h5:=h2 v (gM1 (i:=a.size-1-ia) (by rw[aS (by lia),cB,show ia+(a.size-1-ia)=a.size-1 by lia];exact lv));lia
      have hl2:f.toList.length+y<=(j++a.extract ia (ia+k)).toList.length:=by rw[cv,lA1];lia
      by_cases H:ia+k+1=a.size
      ·rw[ak (by simpa using H)];exact wpS_pure ⟨G,.inl ⟨_,O,ls I H⟩⟩
      ·rw[aj (by simpa using H),aj (by simpa using hlt)];have h6:ia+k+1<a.size:=by lia
       generalize j++a.extract ia (ia+k)=o at I hl2 ⊢;have h8:=h3;generalize ia+k=i at I h6 h8 ⊢;exact T o i I h6 h8 hl2
     ·rw[aj V];have e:k=0:=by lia
      subst e;exact T j ia F n h3 hn3
    intro o i I hi hgt hlo;refine wpS_bind (fu hu ?_);have j2:=am I lu hgt;have hl2:(o.push u).toList.length=o.toList.length+1:=by simp
    by_cases H:ib+1=b.size
    ·rw[ak (by simpa using H)];exact wpS_pure ⟨G,.inl ⟨_,O,dn j2 H⟩⟩
    rw[aj (by simpa using H)];refine Exists.elim (R (show i<a.size by lia)) λv d=>?_;have hv:=d.1;have mv:=d.2.1;have lv:=d.2.2;clear d
    refine wpS_bind (fu hv (wpS_bind (ao.galB (ib:=ib+1) C (G.k.trans hk) hv (by lia) λaq e1 e2 e3=>?_)));dsimp only;generalize o.push u=o1 at *
    generalize ib+1=j1' at *
    refine(λ(U:∀(o3:Array Keyed) (jb:Nat),J0 ws a.toList b.toList o3.toList i jb->jb<b.size->(∀x∈b.toList.drop jb,rk ws v<rk ws x)->o1.toList.length<=o3.toList.length->(?T3:Array Keyed->Nat->Prop) o3 jb)=>?go3) ?mn3
    case go3=>
     by_cases V:aq>0
     ·rw[ak V];have j3:=j2.mvB (k:=aq) ao.sb (by rw[aJ];exact e1) λx D z hz=>nL1 (e2 x D) (ao.sa.drop_gt lv z hz);rw[<- uf,<- cv]at j3;have hl3:o1.toList.length<=(o1++b.extract j1' (j1'+aq)).toList.length:=by rw[cv,lA1];lia
      by_cases z5:j1'+aq=b.size
      ·rw[ak (by simpa using z5)];exact wpS_pure ⟨G,.inl ⟨_,O,dn j3 z5⟩⟩
      ·rw[aj (by simpa using z5)];have h7:j1'+aq<b.size:=by lia
       generalize o1++b.extract j1' (j1'+aq)=o3 at j3 hl3 ⊢;have h8:=e3;generalize j1'+aq=jb at j3 h7 h8 ⊢;exact U o3 jb j3 h7 h8 hl3
     ·rw[aj V];have e:aq=0:=by lia
      subst e;exact U o1 j1' j2 (by have:=j2.lb;rw[aJ]at this;lia) e3 (nR1 _)
    intro o3 jb j3 hjb hgt3 hl3;refine wpS_bind (fu hv ?_);have j4:=S j3 lv hgt3;have hl4:(o3.push v).toList.length=o3.toList.length+1:=by simp
    by_cases z6:i+1+1=a.size
    ·rw[ak (by simpa using z6)];exact wpS_pure ⟨G,.inl ⟨_,O,ls j4 z6⟩⟩
    rw[aj (by simpa using z6)];split
    ·exact wpS_pure ⟨G,.inr ⟨_,_,_,_,_,_,O,j4,by lia,hjb,by lia⟩⟩
    ·exact wpS_pure ⟨G,_,_,_,_,_,_,O,j4,by lia,hjb,by lia⟩
   ·intro c N l;refine I7 l ?_;clear l;intro L j ia ib g au P p d;subst p;have F:=d.1;have n:=d.2.1;have m:=d.2.2.1;have hn3:=d.2.2.2;clear d
    exfalso;have:=F.len;lia
   ·rintro c N ⟨L,⟨r,X,hm⟩|⟨j,ia,ib,g,au,P,rfl,F,n,m,hn3⟩⟩
    ·obtain⟨c1,c2⟩:=c;dsimp only at X;subst X;exact wpS_pure ⟨L,r,O,hm⟩
    dsimp only;refine wpS_bind (qM (wpS_pure ⟨L.g _,_,_,_,_,O,F,n,m,by lia⟩))
 ·intro c st' l;refine Ja l ?_;clear l;intro hs out ia ib g p d;subst p;have F:=d.1;have n:=d.2.1;have m:=d.2.2.1;have hn:=d.2.2.2;clear d
  exfalso;have:=F.len;lia
 ·rintro c st' ⟨hs,r,X,hm⟩;obtain⟨c1,c2⟩:=c;dsimp only at X;subst X;exact wpS_pure (q r _ hs hm)
end
section
variable{ws:List dB}{a b out xs ys zs:List Keyed}{i j k t:Nat}
theorem mK.to(h1:mK ws xs ys)(h2:mK ws xs zs):mK ws xs (ys++zs):=λx a y b=>(aG.mp b).elim (λh=>h1 x a y h) λh=>h2 x a y h
structure K0 (ws:List dB)(a b out:List Keyed)(i j:Nat):Prop where
 la:i<=a.length
 lb:j<=b.length
 len:out.length+(i+j)=a.length+b.length
 pm:(a.take i++b.take j++out.reverse).Perm (a++b)
 so:Srt ws out.reverse
 ba:mK ws (a.take i) out
 bb:mK ws (b.take j) out
theorem K0.swap(h:K0 ws a b out i j):K0 ws b a out j i:=⟨h.lb,h.la,by have:=h.len;lia,((cS).append_right _).trans (h.pm.trans cS),h.so,h.bb,h.ba⟩
theorem K0.mvA(h:K0 ws a b out i j)(k:Srt ws a)(hk:t<=i)(hb:mK ws (b.take j) ((a.take i).drop t)):K0 ws a b (out++((a.take i).drop t).reverse) t j:=by
 have e:a.take i=a.take t++(a.take i).drop t:=by
  have:=(cI t (a.take i)).symm
  rwa [List.take_take,bA hk]at this
 have g:Srt ws (a.take i):=k.sublist (aT _ _);have l:=h.la;have len:=h.len;have sp:=g.split t;rw[List.take_take,bA hk]at sp;refine⟨by lia,h.lb,?_,?_,?_,?_,?_⟩
 ·rw[lA1,List.length_reverse,aU,aQ];lia
 ·rw[List.reverse_append,List.reverse_reverse];refine List.Perm.trans ?_ h.pm;generalize (a.take i).drop t=c at e;rw[e,bG,bG,bG];refine List.Perm.append_left _ ?_;rw[<- bG,<- bG];exact List.perm_append_comm.append_right _
 ·rw[List.reverse_append,List.reverse_reverse];exact Srt.app (g.sublist (cC _ _)) h.so λx d y f=>h.ba x (cO d) y (cX.mp f)
 ·exact(h.ba.of (λx d=>by rw[e];exact aH _ d) λ_ h=>h).to λx d y f=>sp x d y (cX.mp f)
 ·exact h.bb.to λx d y f=>hb x d y (cX.mp f)
theorem K0.mvB(h:K0 ws a b out i j)(c:Srt ws b)(hk:t<=j)(hb:mK ws (a.take i) ((b.take j).drop t)):K0 ws a b (out++((b.take j).drop t).reverse) i t:=(h.swap.mvA c hk hb).swap
theorem DY{x:Keyed}(h:a[i]?=Z x):(a.take (i+1)).drop i=[x]:=by
 have b:=(gE1.mp h).1;rw[cF,h,List.drop_append_of_le_length (by rw[aQ];lia),List.drop_of_length_le (by rw[aQ];lia)];rfl
theorem K0.dn(h:K0 ws a b out i j)(d:Srt ws b)(hi:i=0):Mgd ws a b (a.take i++b.take j++out.reverse):=by
 refine⟨h.pm,?_⟩;rw[hi,cU,cY];exact Srt.app (d.sublist (aT _ _)) h.so λx c y e=>h.bb x c y (cX.mp e)
theorem K0.fs(h:K0 ws a b out i j)(f:Srt ws a)(e:Srt ws b)(hb:mK ws (b.take j) (a.take i)):Mgd ws a b (b.take j++a.take i++out.reverse):=by
 refine⟨(List.perm_append_comm.append_right _).trans h.pm,?_⟩;exact(Srt.app (e.sublist (aT _ _)) (f.sublist (aT _ _)) hb).app h.so (mK.app (λx c y d=>h.bb x c y (cX.mp d)) λx c y d=>h.ba x c y (cX.mp d))
theorem Srt.take_lt(h:Srt ws a){x:Keyed}(hx:a[i]?=Z x):∀y∈a.take (i+1),rk ws y<=rk ws x:=λy b=>by
 rw[cF,hx]at b;rcases aG.mp b with b|b
 ·have c:=(gE1.mp hx).1;exact aD (h.split i y b x (by rw[bU c,(gE1.mp hx).2];exact mS1))
 ·have:y=x:=by simpa using b
  rw[this];exact nR1 _
end
theorem wX(a:Array Keyed)(i:Nat):(a.extract 0 i).toList=a.toList.take i:=by
 rw[cy,cW,bX,Nat.sub_zero]
theorem DW{a:Array Keyed}{i t:Nat}(h:t<=i):(a.extract t i).reverse.toList=((a.toList.take i).drop t).reverse:=by
 rw[cZ,cy,cW,List.drop_take]
section
variable{prog:dF}{w:dH}{A:dG}{E:dB->dD->Prop}{s:dD}{κ:SortKind}{ws:List dB}{a₀:Array Keyed}
theorem Ia(C:l6 prog w A s κ ws a₀){a:Array Keyed}{st:SortSt}{l:Bool}{n:Nat}{y:Keyed}{Q:Option Nat->SortSt->Prop}(hk:kindOf st=κ)(g:∀ p∈a,p∈a₀)(h:Srt ws a.toList)(hy:y∈a₀)(f:∀ p∈a,rk ws p≠rk ws y)(hn:0<n)(r:n<=a.size)(q:∀k,k<=n->(∀x∈a.toList.take k,rk ws x<rk ws y)->(∀x∈(a.toList.take n).drop k,rk ws y<rk ws x)->Q (Z k) st):wpS (model prog w) A E s (GP l y a 0 n (n-1)) Q st:=by
 refine wT (R:=λi=>(a[0+i]?.map (rk ws)).getD 0) C hk hy (by lia) (λi hi=>?_) (λi j m t=>?_) λk h1 h2 o=>q k h1 (λx e=>?_) λx e=>?_
 ·have b:0+i<a.size:=by lia
  refine⟨a[0+i],aG1 b,g _ (cV b),by rw[aG1 b];rfl,?_⟩;rw[aG1 b];exact f _ (cV b)
 ·have b:0+i<a.size:=by lia
  have d:0+j<a.size:=by lia
  rw[aG1 b,aG1 d];have:=cu.mp h (0+i) (0+j) (by simpa using b) (by simpa using d) (by lia);simpa using this
 ·obtain⟨i,hi⟩:=bo e;have c:i<k:=by have:=(gE1.mp hi).1;rw[aQ]at this;lia
  rw[aS c,aT1]at hi;have:=h2 i c;rw[bN,hi]at this;exact this
 ·obtain⟨i,hi⟩:=bo e;have b:=(gE1.mp hi).1;rw[aU,aQ,aJ]at b;rw[cB,aS (by lia),aT1]at hi;have:=o (k+i) (by lia) (by lia);rw[bN,hi]at this;exact this
theorem HL(C:l6 prog w A s κ ws a₀){a b:Array Keyed}(ao:MC ws a₀ a b){st:SortSt}{Q:Array Keyed->SortSt->Prop}(hk:kindOf st=κ)(q:∀r st',Sm st st'->Mgd ws a.toList b.toList r.toList->Q r st'):wpS (model prog w) A E s (Ko a b) Q st:=by
 have dn:∀{out:Array Keyed} {na nb:Nat},K0 ws a.toList b.toList out.toList na nb->na=0->Mgd ws a.toList b.toList (a.extract 0 na++b.extract 0 nb++out.reverse).toList:=λ{out na nb} h e=>by
  rw[cv,cv,wX,wX,cZ];exact h.dn ao.sb e
 have firstX:∀{nb:Nat},nb=1 -> ∀y∈b.toList.take nb,∀q∈a,rk ws y<rk ws q:=λ{nb} e y au q hq=>by
  subst e;have hl:0<b.toList.length:=by rw[aJ];exact ao.pb
  have:b.toList.take 1=[b.toList[0]]:=by
   conv=>lhs;rw[cF,cU,gG1 hl]
   rfl
  rw[this]at au;rw[cM.mp au];exact ao.head _ (by simp) q hq
 have fs:∀{out:Array Keyed} {na nb:Nat},K0 ws a.toList b.toList out.toList na nb->nb=1->Mgd ws a.toList b.toList (b.extract 0 nb++a.extract 0 na++out.reverse).toList:=λ{out na nb} h e=>by
  rw[cv,cv,wX,wX,cZ];exact h.fs ao.sa ao.sb λx G y au=>firstX e x G y (cg.mp (cN au))
 have U:∀{i:Nat},i<a.size -> ∃x,a[i]?=Z x/\x∈a/\a.toList[i]?=Z x:=λ{i} h=>⟨a[i],aG1 h,cV h,by rw[aT1,aG1 h]⟩;have getB:∀{i:Nat},i<b.size -> ∃x,b[i]?=Z x/\x∈b/\b.toList[i]?=Z x:=λ{i} h=>⟨b[i],aG1 h,cV h,by rw[aT1,aG1 h]⟩;have pushB:∀{out:Array Keyed} {na nb:Nat} {y:Keyed},K0 ws a.toList b.toList out.toList na nb->0<nb->b.toList[nb-1]?=Z y->(∀x∈a.toList.take na,rk ws x<rk ws y)->K0 ws a.toList b.toList (out.push y).toList na (nb-1):=λ{out na nb y} h h0 au hb=>by
  have e:=DY au;rw[show nb-1+1=nb by lia]at e;have:=h.mvB (t:=nb-1) ao.sb (by lia) (by rw[e];intro x G z hz;rw[cM.mp hz];exact hb x G);rw[e,List.reverse_singleton,<- cw]at this;exact this
 have L:∀{out:Array Keyed} {na nb:Nat} {y:Keyed},K0 ws a.toList b.toList out.toList na nb->0<na->a.toList[na-1]?=Z y->(∀x∈b.toList.take nb,rk ws x<rk ws y)->K0 ws a.toList b.toList (out.push y).toList (na-1) nb:=λ{out na nb y} h h0 au hb=>by
  have e:=DY au;rw[show na-1+1=na by lia]at e;have:=h.mvA (t:=na-1) ao.sa (by lia) (by rw[e];intro x G z hz;rw[cM.mp hz];exact hb x G);rw[e,List.reverse_singleton,<- cw]at this;exact this
 have W:∀{out:Array Keyed} {na nb:Nat},K0 ws a.toList b.toList out.toList na nb->out.toList.length+(na+nb)=a.size+b.size:=λ{out na nb} h=>by have:=h.len;rwa [aJ (xs:=a),aJ (xs:=b)]at this
 have hpa:=ao.pa;have hpb:=ao.pb;refine Exists.elim (U (show a.size-1<a.size by lia)) λa1 d=>?_;have ha1:=d.1;have ma1:=d.2.1;have la1:=d.2.2;clear d
 have upA:∀{n:Nat} {v:Keyed},0<n->a.toList[n-1]?=Z v -> ∀x∈a.toList.take n,rk ws x<=rk ws v:=λ{n v} h hv x G=>ao.sa.take_lt hv x (by rw[show n-1+1=n by lia];exact G);have upB:∀{n:Nat} {v:Keyed},0<n->b.toList[n-1]?=Z v -> ∀x∈b.toList.take n,rk ws x<=rk ws v:=λ{n v} h hv x G=>ao.sb.take_lt hv x (by rw[show n-1+1=n by lia];exact G);unfold Ko;refine wpS_bind (wpS_lift (wpAny_rule ⟨O,?_⟩));refine wpS_bind (fu ha1 ?_);have j0:K0 ws a.toList b.toList (#[]:Array Keyed).toList a.size b.size:=⟨by simp,by simp,by simp,by rw[<- aJ,<- aJ,bY,bY];simp,.nil,λx G y au=>(by cases au),λx G y au=>(by cases au)⟩;have j1:K0 ws a.toList b.toList (#[a1]:Array Keyed).toList (a.size-1) b.size:=L j0 ao.pa la1 λx G=>ao.last a1 ha1 x (cg.mp (cN G));clear j0;by_cases z:a.size-1=0
 ·rw[ak (by simpa using z)];exact wpS_pure (q _ _ .rfl (dn j1 z))
 rw[aj (by simpa using z)];by_cases z2:b.size=1
 ·rw[ak (by simpa using z2)];exact wpS_pure (q _ _ .rfl (fs j1 z2))
 rw[aj (by simpa using z2)];refine wpS_bind (wpS_get ?_);refine wpS_bind (wpS_mono (wpS_forRange (λx c st'=>Sm st st' /\ ∃na nb out g,c=(Y,na,nb,out,g)/\K0 ws a.toList b.toList out.toList na nb/\0<na/\1<nb/\x+1<=out.toList.length)
  (Q:=λc st'=>Sm st st' /\ ∃r,c.1=Z r/\Mgd ws a.toList b.toList r.toList) ?_ ?_ ⟨.rfl,_,_,_,_,O,j1,by lia,by lia,nR1 _⟩) ?_)
 ·intro x c st' _ G l;refine Ja l ?_;clear l;intro hs na nb out g D d;subst D;have H:=d.1;have m:=d.2.1;have B:=d.2.2.1;have hn:=d.2.2.2;clear d
  dsimp only;refine wpS_bind (wpS_mono (wpS_forRange (λy c I=>Sm st I /\ ∃na nb f S T,c=(Y,na,nb,f,S,T)/\K0 ws a.toList b.toList f.toList na nb/\0<na/\1<nb/\out.toList.length+y<=f.toList.length)
   (Q:=λc I=>Sm st I/\((∃r,c.1=Z r/\Mgd ws a.toList b.toList r.toList) \/ ∃na nb f S T,c=(Y,na,nb,f,S,T)/\K0 ws a.toList b.toList f.toList na nb/\0<na/\1<nb/\out.toList.length+1<=f.toList.length)) ?_ ?_ ⟨hs,_,_,_,_,_,O,H,m,B,nR1 _⟩) ?_)
  ·intro y c I _ au l;refine I9 l ?_;clear l;intro F na nb f S T D d;subst D;have H:=d.1;have m:=d.2.1;have B:=d.2.2.1;have hn2:=d.2.2.2;clear d
   dsimp only;have lna:=H.la;have lnb:=H.lb;rw[aJ]at lna lnb;refine Exists.elim (getB (show nb-1<b.size by lia)) λu d=>?_;have hu:=d.1;have mu:=d.2.1;have lu:=d.2.2;clear d
   refine Exists.elim (U (show na-1<a.size by lia)) λv d=>?_;have hv:=d.1;have mv:=d.2.1;have lv:=d.2.2;clear d
   refine wpS_bind (fu hu (wpS_bind (fu hv (wpS_bind (C.lt2 (F.k.trans hk) (ao.mb u mu) (ao.ma v mv) (ao.ne v mv u mu).symm ?_)))));by_cases z3:rk ws u<rk ws v
   ·simp only[z3,decide_true,if_true];refine wpS_bind (fu hv ?_);have am:=L H m lv λx G=>bH (upB (by lia) lu x G) z3;have hl:(f.push v).toList.length=f.toList.length+1:=by simp
    by_cases N:na-1=0
    ·rw[ak (by simpa using N)];exact wpS_pure ⟨F,.inl ⟨_,O,dn am N⟩⟩
    ·rw[aj (by simpa using N)];split
     ·exact wpS_pure ⟨F,.inr ⟨_,_,_,_,_,O,am,by lia,B,by lia⟩⟩
     ·exact wpS_pure ⟨F,_,_,_,_,_,O,am,by lia,B,by lia⟩
   ·simp only[z3,decide_false,bF1,if_false];have z5:rk ws v<rk ws u:=by have:=ao.ne v mv u mu;lia
    refine wpS_bind (fu hu ?_);have am:=pushB H (by lia) lu λx G=>bH (upA m lv x G) z5;have hl:(f.push u).toList.length=f.toList.length+1:=by simp
    by_cases N:nb-1=1
    ·rw[ak (by simpa using N)];exact wpS_pure ⟨F,.inl ⟨_,O,fs am N⟩⟩
    ·rw[aj (by simpa using N)];split
     ·exact wpS_pure ⟨F,.inr ⟨_,_,_,_,_,O,am,m,by lia,by lia⟩⟩
     ·exact wpS_pure ⟨F,_,_,_,_,_,O,am,m,by lia,by lia⟩
  ·intro c I l;refine I9 l ?_;clear l;intro F na nb f S T D d;subst D;have H:=d.1;have m:=d.2.1;have B:=d.2.2.1;have hn2:=d.2.2.2;clear d
   exfalso;have:=W H;lia
  ·rintro c I ⟨F,⟨r,hr,hm⟩|⟨na,nb,f,S,T,rfl,H,m,B,hn2⟩⟩
   ·obtain⟨c1,c2⟩:=c;dsimp only at hr;subst hr;exact wpS_pure ⟨F,r,O,hm⟩
   dsimp only;refine wpS_bind (wpS_lift (wpAny_rule ⟨O,?_⟩));refine wpS_bind (wpS_mono (wpS_forRange (λy c I=>Sm st I /\ ∃na nb j g S T,c=(Y,na,nb,j,g,S,T)/\K0 ws a.toList b.toList j.toList na nb/\0<na/\1<nb/\f.toList.length+y<=j.toList.length)
    (Q:=λc I=>Sm st I/\((∃r,c.1=Z r/\Mgd ws a.toList b.toList r.toList) \/ ∃na nb j g S T,c=(Y,na,nb,j,g,S,T)/\K0 ws a.toList b.toList j.toList na nb/\0<na/\1<nb/\f.toList.length<=j.toList.length)) ?_ ?_ ⟨F,_,_,_,_,_,_,O,H,m,B,nR1 _⟩) ?_)
   ·intro y c R _ au l;refine I7 l ?_;clear l;intro P na nb j g S T D d;subst D;have H:=d.1;have m:=d.2.1;have B:=d.2.2.1;have hn3:=d.2.2.2;clear d
    dsimp only;have lna:=H.la;have lnb:=H.lb;rw[aJ]at lna lnb;refine Exists.elim (getB (show nb-1<b.size by lia)) λu d=>?_;have hu:=d.1;have mu:=d.2.1;have lu:=d.2.2;clear d
    refine(λ(main:∀g':Nat,(?T:Nat->Prop) g')=>?go) ?mn
    case go=>
     by_cases hg:g>1
     ·rw[ak hg];generalize g-1=g';exact main g'
     ·rw[aj hg];exact main g
    intro g';refine wpS_bind (qM (wpS_bind (fu hu (wpS_bind (Ia (n:=na) C (P.k.trans hk) ao.ma ao.sa (ao.mb u mu) (λp hp=>ao.ne p hp u mu) m lna λk h1 h2 h3=>?_)))));have K:=P.g g';generalize SortSt.mk' (kindOf R) (arrOf R) (pendingOf R) g' (failedOf R)=st4 at *
    dsimp only;generalize hac:na-k=acc;refine(λ(X:∀(o:Array Keyed) (i:Nat),K0 ws a.toList b.toList o.toList i nb->0<i->(∀x∈a.toList.take i,rk ws x<rk ws u)->f.toList.length+y<=o.toList.length->(?T2:Array Keyed->Nat->Prop) o i)=>?go2) ?mn2
    case go2=>
     by_cases wq:acc>0
     ·rw[ak wq];have am:=H.mvA (t:=k) ao.sa h1 λx G z hz=>bH (upB (by lia) lu x G) (h3 z hz);rw[<- DW h1,<- cv]at am;have hl2:f.toList.length+y<=(j++(a.extract k na).reverse).toList.length:=by rw[cv,lA1];lia
      by_cases N:k=0
      ·rw[ak (by simpa using N)];exact wpS_pure ⟨K,.inl ⟨_,O,dn am N⟩⟩
      ·rw[aj (by simpa using N)];generalize j++(a.extract k na).reverse=o at am hl2 ⊢;have V:=h2;have h9:0<k:=by lia
       generalize k=i at am V h9 ⊢;exact X o i am h9 V hl2
     ·rw[aj wq];have e:k=na:=by lia
      have V:=h2;rw[e]at V;exact X j na H m V hn3
    intro o i am hi hgt hlo;refine wpS_bind (fu hu ?_);have j2:=pushB am (by lia) lu hgt;have hl2:(o.push u).toList.length=o.toList.length+1:=by simp
    by_cases N:nb-1=1
    ·rw[ak (by simpa using N)];exact wpS_pure ⟨K,.inl ⟨_,O,fs j2 N⟩⟩
    rw[aj (by simpa using N)];have li:=am.la;rw[aJ]at li;refine Exists.elim (U (show i-1<a.size by lia)) λv d=>?_;have hv:=d.1;have mv:=d.2.1;have lv:=d.2.2;clear d
    refine wpS_bind (fu hv (wpS_bind (Ia (n:=nb-1) C (K.k.trans hk) ao.mb ao.sb (ao.ma v mv) (λp hp=>(ao.ne v mv p hp).symm) (by lia) (by lia) λk2 e1 e2 e3=>?_)));dsimp only;generalize o.push u=o1 at *
    have hnb:0<nb-1:=by lia
    generalize nb-1=j1' at *
    generalize hac2:j1'-k2=acc2;refine(λ(aq:∀(o3:Array Keyed) (jb:Nat),K0 ws a.toList b.toList o3.toList i jb->1<jb->(∀x∈b.toList.take jb,rk ws x<rk ws v)->o1.toList.length<=o3.toList.length->(?T3:Array Keyed->Nat->Prop) o3 jb)=>?go3) ?mn3
    case go3=>
     by_cases wq:acc2>0
     ·rw[ak wq];have j3:=j2.mvB (t:=k2) ao.sb e1 λx G z hz=>bH (upA hi lv x G) (e3 z hz);rw[<- DW e1,<- cv]at j3;have hl3:o1.toList.length<=(o1++(b.extract k2 j1').reverse).toList.length:=by rw[cv,lA1];lia
      by_cases z5:k2=1
      ·rw[ak (by simpa using z5)];exact wpS_pure ⟨K,.inl ⟨_,O,fs j3 z5⟩⟩
      ·have h0:k2≠0:=fun e=>by
        subst e;refine Exists.elim (getB ao.pb) λb0 d=>?_;have hb0:=d.1;have mb0:=d.2.1;have lb0:=d.2.2;clear d
        have:=e3 b0 (gM1 (i:=0) (by rw[cB,aS (by lia)];exact lb0));have:=ao.head b0 hb0 v mv;lia
       rw[aj (by simpa using z5),aj (by simpa using h0)];generalize o1++(b.extract k2 j1').reverse=o3 at j3 hl3 ⊢;have V:=e2;have h9:1<k2:=by lia
       generalize k2=jb at j3 V h9 ⊢;exact aq o3 jb j3 h9 V hl3
     ·rw[aj wq];have e:k2=j1':=by lia
      have V:=e2;rw[e]at V;exact aq o1 j1' j2 (by lia) V (nR1 _)
    intro o3 jb j3 hjb hgt3 hl3;refine wpS_bind (fu hv ?_);have j4:=L j3 hi lv hgt3;have hl4:(o3.push v).toList.length=o3.toList.length+1:=by simp
    by_cases z6:i-1=0
    ·rw[ak (by simpa using z6)];exact wpS_pure ⟨K,.inl ⟨_,O,dn j4 z6⟩⟩
    rw[aj (by simpa using z6)];split
    ·exact wpS_pure ⟨K,.inr ⟨_,_,_,_,_,_,O,j4,by lia,hjb,by lia⟩⟩
    ·exact wpS_pure ⟨K,_,_,_,_,_,_,O,j4,by lia,hjb,by lia⟩
   ·intro c R l;refine I7 l ?_;clear l;intro P na nb j g S T D d;subst D;have H:=d.1;have m:=d.2.1;have B:=d.2.2.1;have hn3:=d.2.2.2;clear d
    exfalso;have:=W H;lia
   ·rintro c R ⟨P,⟨r,hr,hm⟩|⟨na,nb,j,g,S,T,rfl,H,m,B,hn3⟩⟩
    ·obtain⟨c1,c2⟩:=c;dsimp only at hr;subst hr;exact wpS_pure ⟨P,r,O,hm⟩
    dsimp only;refine wpS_bind (qM (wpS_pure ⟨P.g _,_,_,_,_,O,H,m,B,by lia⟩))
 ·intro c st' l;refine Ja l ?_;clear l;intro hs na nb out g D d;subst D;have H:=d.1;have m:=d.2.1;have B:=d.2.2.1;have hn:=d.2.2.2;clear d
  exfalso;have:=W H;lia
 ·rintro c st' ⟨hs,r,hr,hm⟩;obtain⟨c1,c2⟩:=c;dsimp only at hr;subst hr;exact wpS_pure (q r _ hs hm)
end
theorem sG(c:Nat):∀ (m:List Keyed) (k:Nat) (arr:Array Keyed) (pre old b:List Keyed),arr.toList=pre++(old++b)->pre.length=c+k->old.length=m.length ->
  ((m.zipIdx k).foldl (λa (x:Keyed×Nat)=>a.setIfInBounds (c+x.2) x.1) arr).toList=pre++(m++b)
 |[],k,arr,pre,old,b,h1,h2,h3=>by
  have:old=[]:=cq.mp h3;subst this;exact h1
 |x::m,k,arr,pre,[],b,h1,h2,h3=>by simp at h3
 |x::m,k,arr,pre,o::old,b,h1,h2,h3=>by
  rw[bK,b9];have:=sG c m (k+1) (arr.setIfInBounds (c+k) x) (pre++[x]) old b (by
   rw[Array.toList_setIfInBounds,h1,<- h2,c4 _ _ (nR1 _),cP];simp) (by rw[lA1,h2];rfl) (by simpa using h3)
  rw[this];simp
def fT:Nat->List (List Keyed)->List (Nat×Nat×Nat)->Prop
 |_,[],[]=>True
 |s,r::rs,(t,n,_)::p=>t=s/\n=r.length/\fT (s+r.length) rs p
 |_,_,_=>False
theorem wm:∀ {s:Nat} {rs:List (List Keyed)} {p:List (Nat×Nat×Nat)},fT s rs p -> ∀ {i:Nat} {r1 r2:List Keyed},rs[i]? = some r1->rs[i+1]? = some r2 ->
  ∃d c,p[i]?=Z (s+(rs.take i).flatten.length,r1.length,d)/\p[i+1]?=Z (s+(rs.take i).flatten.length+r1.length,r2.length,c) /\
   fT s (rs.take i++(r1++r2)::rs.drop (i+2)) ((p.set i (s+(rs.take i).flatten.length,r1.length+r2.length,d)).eraseIdx (i+1))
 |s,[],p,h,i,r1,r2,h1,_=>by simp at h1
 |s,r::rs,[],h,i,r1,r2,_,_=>by cases h
 |s,r::rs,(t,n,d)::p,⟨e1,e2,h⟩,0,r1,r2,h1,h2=>by
  have k:r=r1:=by simpa using h1
  subst k
  match rs,p,h,h2 with
  |r2'::rs,(t2,n2,c)::p,⟨e,g,h⟩,h2=>
   have j:r2'=r2:=by simpa using h2
   subst j;subst e1;subst e2;subst e;subst g;refine⟨d,c,by simp,by simp,?_⟩;simp only[cU,List.flatten_nil,bd,Nat.add_zero,cY,List.drop_succ_cons,bX,c5,List.eraseIdx_cons_succ,List.eraseIdx_cons_zero];exact⟨O,by rw[lA1],by rw[lA1,<- bj];exact h⟩
 |s,r::rs,(t,n,d)::p,⟨e1,e2,h⟩,i+1,r1,r2,h1,h2=>by
  obtain⟨a,b,e,g,l⟩:=wm h (i:=i) (by simpa using h1) (by simpa using h2);have f:s+((r::rs).take (i+1)).flatten.length=s+r.length+(rs.take i).flatten.length:=by rw[cT,c6,lA1,bj]
  refine⟨a,b,by rw[f,gC1];exact e,by rw[f,gC1];exact g,?_⟩;rw[f,cT,bi,c7,List.eraseIdx_cons_succ,List.drop_succ_cons];exact⟨e1,e2,l⟩
structure SR (ws:List dB)(κ:SortKind)(a₀:Array Keyed)(rs:List (List Keyed))(rest:List Keyed)(st:SortSt):Prop where
 k:kindOf st=κ
 f:failedOf st=none
 pm:(arrOf st).Perm a₀
 ar:(arrOf st).toList=rs.flatten++rest
 so:∀r∈rs,Srt ws r/\r≠[]
 pe:fT 0 rs (pendingOf st).toList
section
variable{prog:dF}{w:dH}{A:dG}{E:dB->dD->Prop}{s:dD}{κ:SortKind}{ws:List dB}{a₀:Array Keyed}
theorem l6.unlike(C:l6 prog w A s κ ws a₀){xs:Array Keyed}(p:xs.Perm a₀):xs.toList.Pairwise λu v=>rk ws u≠rk ws v:=by
 refine cu.mpr λi j hi a b e=>?_;rw[aJ]at hi a;have:=C.inj p (i:=i) (j:=j) (by rw[<- p.size_eq];exact hi) (by rw[<- p.size_eq];exact a) (by unfold kR;rw[aG1 hi,aG1 a];simpa using e);lia
theorem EC{σ:Type}{ao:Model}{st a:σ}{Q:Unit->σ->Prop}(h:Q () a):wpS ao A E s (set a:StateT σ Sem PUnit) Q st:=wpS_modify (f:=λ_=>a) h
theorem A6(xs:Array (Nat×Nat×Nat))(i:Nat):(xs.eraseIdxIfInBounds i).toList=xs.toList.eraseIdx i:=by
 unfold Array.eraseIdxIfInBounds;split
 ·rw[Array.toList_eraseIdx]
 ·rename_i h;rw[List.eraseIdx_of_length_le (by rw[aJ];lia)]
theorem pI:∀{A B:List (List Keyed)} {r b:List Keyed} {s:Nat} {p:List (Nat×Nat×Nat)},fT s (A++r::B) p->r.length=b.length->fT s (A++b::B) p
 |[],B,r,b,s,[],h,_=>by cases h
 |[],B,r,b,s,(t,n,pw)::p,h,e=>by
  obtain⟨h1,h2,c⟩:=(show t=s/\n=r.length/\fT (s+r.length) B p from h);exact⟨h1,by rw[<- e];exact h2,by rw[<- e];exact c⟩
 |a::A,B,r,b,s,[],h,_=>by cases h
 |a::A,B,r,b,s,(t,n,pw)::p,h,e=>by
  obtain⟨h1,h2,c⟩:=(show t=s/\n=a.length/\fT (s+a.length) (A++r::B) p from h);exact⟨h1,h2,pI c e⟩
theorem Ew{rs:List (List Keyed)}{i:Nat}{c r2:List Keyed}(h1:rs[i]?=Z c)(h2:rs[i+1]?=Z r2):rs=rs.take i++c::r2::rs.drop (i+2):=by
 have b:=(gE1.mp h1);have a:=(gE1.mp h2);have:=(cI i rs).symm;rw[bU b.1,bU a.1,b.2,a.2]at this;exact this
theorem H9(C:l6 prog w A s κ ws a₀){st:SortSt}{l:Bool}{key:Keyed}{X:Array Keyed}{pre r a:List Keyed}{h:Nat}{Q:Option Nat->SortSt->Prop}(hk:kindOf st=κ)(n:X.toList=pre++(r++a))(hm:∀ x∈X,x∈a₀)(b:key∈a₀)(p:Srt ws r)(f:∀ x∈r,rk ws x≠rk ws key)(o:h<r.length)(q:∀k,k<=r.length->(∀x∈r.take k,rk ws x<rk ws key)->(∀x∈r.drop k,rk ws key<rk ws x)->Q (Z k) st):wpS (model prog w) A E s (GP l key X pre.length r.length h) Q st:=by
 have at_:∀i,i<r.length->X[pre.length+i]?=r[i]?:=λi hi=>by
  rw[<- aT1,n,gR1 (bq _ _),br,gL1 hi]
 refine wT (R:=λi=>(r[i]?.map (rk ws)).getD 0) C hk b o (λi hi=>?_) (λi j g m=>?_) λk h1 h2 t=>q k h1 (λx d=>?_) λx d=>?_
 ·have e:=at_ i hi;rw[gG1 hi]at e;refine⟨r[i],e,hm _ (ci e),by rw[gG1 hi];rfl,?_⟩;rw[gG1 hi];exact f _ (bS hi)
 ·rw[gG1 (show i<r.length by lia),gG1 m];exact cu.mp p i j (by lia) m g
 ·obtain⟨i,hi⟩:=bo d;have c:i<k:=by have:=(gE1.mp hi).1;rw[aQ]at this;lia
  rw[aS c]at hi;have:=h2 i c;rw[hi]at this;exact this
 ·obtain⟨i,hi⟩:=bo d;rw[cB]at hi;have:=t (k+i) (by lia) (gE1.mp hi).1;rw[hi]at this;exact this
theorem SR.merge(C:l6 prog w A s κ ws a₀){rs:List (List Keyed)}{rest:List Keyed}{st:SortSt}{i:Nat}{a r2:List Keyed}{Q:Bool->SortSt->Prop}(h:SR ws κ a₀ rs rest st)(h1:rs[i]? = Z a)(h2:rs[i+1]? = Z r2)(q:∀r st',SR ws κ a₀ (rs.take i++r::rs.drop (i+2)) rest st'->Q M st'):wpS (model prog w) A E s (mergeAt' i) Q st:=by
 obtain⟨W,pw2,p1,p2,p3⟩:=wm h.pe h1 h2;rw[aT1,bN]at p1 p2;rw[bN]at p3;have aq:=Ew h1 h2;obtain⟨K,n1⟩:=h.so a (gM1 h1);obtain⟨am,n2⟩:=h.so r2 (gM1 h2);have others:∀r∈rs.take i,Srt ws r/\r≠[]:=λr g=>h.so r (cN g);have others2:∀r∈rs.drop (i+2),Srt ws r/\r≠[]:=λr g=>h.so r (cO g);have l1:0<a.length:=c8.mpr n1;have l2:0<r2.length:=c8.mpr n2;have t:(arrOf st).toList=(rs.take i).flatten++(a++(r2++((rs.drop (i+2)).flatten++rest))):=by
  rw[h.ar]
  conv=>lhs;rw[aq]
  simp
 generalize au:(rs.take i).flatten=pre at *
 generalize H:(rs.drop (i+2)).flatten++rest=post at *
 have f:∀x∈arrOf st,x∈a₀:=λx c=>h.pm.mem_iff.mp c;have un:=C.unlike h.pm;have N:∀x∈a,x∈arrOf st:=λx c=>by rw[<- cg,t];simp[c]
 have R:∀x∈r2,x∈arrOf st:=λx c=>by rw[<- cg,t];simp[c]
 have o:∀x∈a,∀y∈r2,rk ws x≠rk ws y:=λx c y D=>by
  rw[t]at un;exact(cA.mp (cA.mp un).2.1).2.2 x c y (aH _ D)
 have hs:∀{st':SortSt} {r:List Keyed},kindOf st'=kindOf st->failedOf st'=failedOf st->(pendingOf st').toList=((pendingOf st).toList.set i (pre.length,a.length+r2.length,W)).eraseIdx (i+1)->(arrOf st').toList=pre++(r++post)->r.Perm (a++r2)->Srt ws r->Q M st':=λ{st' r} j n g3 g4 U g6=>by
  refine q r st' ⟨j.trans h.k,n.trans h.f,?_,?_,?_,?_⟩
  ·refine Array.Perm.trans ?_ h.pm;rw[cc,g4,t,<- bG a];exact List.Perm.append_left _ (U.append_right _)
  ·rw[g4,c9,c6,au,bG,bG,H]
  ·intro x c;rcases aG.mp c with c|c
   ·exact others x c
   ·rcases aF.mp c with rfl|c
    ·exact⟨g6,λe=>by rw[e]at U;have:=U.length_eq;rw[lA1,bd]at this;lia⟩
    ·exact others2 x c
  ·rw[g3];exact pI p3 (by rw[lA1,U.length_eq,lA1])
 obtain⟨u,T⟩:∃u,r2[0]?=some u:=⟨_,gG1 l2⟩;have mu:=gM1 T;obtain⟨v,S⟩:∃v,a[a.length-1]?=some v:=⟨_,gG1 (by lia)⟩;have mv:=gM1 S;have hXu:(arrOf st)[pre.length+a.length]?=Z u:=by
  rw[<- aT1,t,gR1 (bq _ _),br,gR1 (nR1 _),cP,gL1 l2];exact T
 have hXv:(arrOf st)[pre.length+a.length-1]?=Z v:=by
  rw[<- aT1,t,gR1 (by lia),show pre.length+a.length-1-pre.length=a.length-1 by lia,gL1 (by lia)];exact S
 have L:(arrOf st).toList=(pre++a)++(r2++post):=by rw[t,bG]
 unfold mergeAt';refine wpS_bind (wpS_get ?_);dsimp only;rw[show(pendingOf st)[i]?=_ from p1,show(pendingOf st)[i+1]?=_ from p2];dsimp only;refine wpS_bind (EC ?_);refine wpS_bind (fu hXu ?_);refine wpS_bind (H9 (pre:=pre) (r:=a) C h.k t f (f u (R u mu)) K (λx c=>o x c u mu) l1 λk e1 V e3=>?_);dsimp only;have l:(((pendingOf st).setIfInBounds i (pre.length,a.length+r2.length,W)).eraseIdxIfInBounds (i+1)).toList=((pendingOf st).toList.set i (pre.length,a.length+r2.length,W)).eraseIdx (i+1):=by rw[A6,Array.toList_setIfInBounds]
 generalize ((pendingOf st).setIfInBounds i (pre.length,a.length+r2.length,W)).eraseIdxIfInBounds (i+1)=P at *
 have G:∀x∈r2,rk ws u<=rk ws x:=λx c=>am.drop_gt (i:=0) T x (by rw[bX];exact c);by_cases z:a.length-k=0
 ·rw[ak (by simpa using z)];have ek:k=a.length:=by lia
  subst ek;rw[bY]at V;exact wpS_pure (hs (r:=a++r2) O O l (by rw[bG];exact t) (.refl _) (K.app am λx c y D=>nL1 (V x c) (G y D)))
 rw[aj (by simpa using z),show pre.length+k+(a.length-k)-1=pre.length+a.length-1 by lia];refine wpS_bind (fu hXv ?_);rw[show pre.length+a.length=(pre++a).length by rw[lA1]];refine wpS_bind (H9 (pre:=pre++a) (r:=r2) C h.k L f (f v (N v mv)) am (λx c=>(o v mv x c).symm) (show r2.length-1<r2.length by lia) λk2 f1 f2 f3=>?_);dsimp only;have huv:rk ws u<rk ws v:=e3 v (gM1 (i:=a.length-1-k) (by rw[cB,show k+(a.length-1-k)=a.length-1 by lia];exact S));have hk2:k2≠0:=λe=>by
  subst e;have:=f3 u (by rw[bX];exact mu);lia
 rw[aj (by simpa using hk2)];have ex:((arrOf st).extract (pre.length+k) (pre++a).length).toList=a.drop k:=by
  rw[cy,cW,t,<- bD,List.drop_left,List.drop_append_of_le_length e1,lA1,show pre.length+a.length-(pre.length+k)=(a.drop k).length by rw[aU];lia,da]
 have I:((arrOf st).extract (pre++a).length ((pre++a).length+k2)).toList=r2.take k2:=by
  rw[cy,cW,L,List.drop_left,br,List.take_append_of_le_length f1]
 generalize c:(arrOf st).extract (pre.length+k) (pre++a).length=x at *
 generalize D:(arrOf st).extract (pre++a).length ((pre++a).length+k2)=y at *
 have lx:x.size=a.length-k:=by rw[<- aJ,ex,aU]
 have ly:y.size=k2:=by rw[<- aJ,I,aQ];lia
 have ao:MC ws a₀ x y:=by
  refine⟨λp d=>?_,λp d=>?_,?_,?_,λp d r g=>?_,by lia,by lia,λp d r g=>?_,λp d r g=>?_⟩
  ·rw[<- cg,ex]at d;exact f p (N p (cO d))
  ·rw[<- cg,I]at d;exact f p (R p (cN d))
  ·rw[ex];exact K.sublist (cC _ _)
  ·rw[I];exact am.sublist (aT _ _)
  ·rw[<- cg,ex]at d;rw[<- cg,I]at g;exact o p (cO d) r (cN g)
  ·rw[<- cg,I]at g;rw[<- aT1,ex,cB,lx,show k+(a.length-k-1)=a.length-1 by lia,S]at d;cases d;exact f2 r g
  ·rw[<- cg,ex]at g;rw[<- aT1,I,aS (by lia),T]at d;cases d;exact e3 r g
 refine(λ(B:∀(m:Array Keyed) (b:SortSt),Sm (SortSt.mk' (kindOf st) (arrOf st) P (gallopOf st) (failedOf st)) b->Mgd ws x.toList y.toList m.toList->(?T:Array Keyed->SortSt->Prop) m b)=>?go) ?mn
 case go=>
  by_cases z2:a.length-k<=k2
  ·rw[ak z2];refine wpS_bind (HK C ao h.k λm b j n=>?_);exact B m b j n
  ·rw[aj z2];refine wpS_bind (HL C ao h.k λm b j n=>?_);exact B m b j n
 intro m b j n;refine wpS_bind (wpS_modify (wpS_bind (wpS_get ?_)));dsimp only;have hf:failedOf b=Y:=j.f.trans h.f;rw[show(failedOf b).isNone=M by rw[hf];rfl];rw[ex,I]at n;have ml:m.toList.length=(a.drop k++r2.take k2).length:=n.1.length_eq;have wr:=sG (pre.length+k) m.toList 0 (arrOf b) (pre++a.take k) (a.drop k++r2.take k2) (r2.drop k2++post) (by
  rw[j.a];show(arrOf st).toList=_;rw[t]
  conv=>lhs;rw[<- cI k a,<- cI k2 r2]
  simp only[bG]) (by rw[lA1,aQ,Nat.add_zero];lia) ml.symm
 have bx:∀y∈m.toList,y∈a.drop k\/y∈r2.take k2:=λy D=>aG.mp (n.1.mem_iff.mp D);have sp1:=K.split k;have wq:=am.split k2;have X:∀y∈a,rk ws y<=rk ws v:=λy D=>K.take_lt S y (by rw[show a.length-1+1=a.length by lia,bY];exact D);refine wpS_pure (hs (r:=a.take k++(m.toList++r2.drop k2)) j.k j.f (by rw[show pendingOf (SortSt.mk' (kindOf b) _ (pendingOf b) (gallopOf b) (failedOf b))=pendingOf b from rfl,j.p];exact l) ?_ ?_ ?_)
 ·refine wr.trans ?_;simp only[bG]
 ·conv=>rhs;rw[<- cI k a,<- cI k2 r2]
  rw[bG];refine List.Perm.append_left _ ?_;rw[<- bG];exact n.1.append_right _
 ·refine Srt.app (K.sublist (aT _ _)) (Srt.app n.2 (am.sublist (cC _ _)) λp d r g=>?_) (mK.to (λp d r g=>?_) λp d r g=>?_)
  ·rcases bx p d with F|F
   ·exact bH (X p (cO F)) (f3 r g)
   ·exact wq p F r g
  ·rcases bx r g with F|F
   ·exact sp1 p d r F
   ·exact nL1 (V p d) (G r (cN F))
  ·exact nL1 (V p d) (G r (cO g))
end
def kO(ws:List dB)(lo:Nat)(xs:Array Keyed)(i:Nat):Nat:=kR ws xs (lo+i)
def xu(ws:List dB)(lo:Nat)(xs:Array Keyed)(k:Nat):Prop:=∀i j,i<j->j<k->kO ws lo xs i<kO ws lo xs j
def IJ(ws:List dB)(lo:Nat)(xs:Array Keyed)(k:Nat):Prop:=∀i j,i<j->j<k->kO ws lo xs j<kO ws lo xs i
structure SoL (κ:SortKind)(a₀:Array Keyed)(lo:Nat)(st0 st:SortSt):Prop where
 perm:(arrOf st).Perm a₀
 kind:kindOf st=κ
 failed:failedOf st=failedOf st0
 pend:pendingOf st=pendingOf st0
 pre:∀i,i<lo->(arrOf st)[i]?=(arrOf st0)[i]?
theorem SoL.arr{κ:SortKind}{a₀:Array Keyed}{lo:Nat}{st0 st:SortSt}(b:SoL κ a₀ lo st0 st){xs:Array Keyed}(p:xs.Perm (arrOf st))(hp:∀i,i<lo->xs[i]?=(arrOf st)[i]?):SoL κ a₀ lo st0 (setArr st xs):=⟨p.trans b.perm,b.kind,b.failed,b.pend,λi hi=>(hp i hi).trans (b.pre i hi)⟩
section
variable{prog:dF}{w:dH}{A:dG}{E:dB->dD->Prop}{s:dD}{κ:SortKind}{ws:List dB}{a₀:Array Keyed}{lo:Nat}{st0:SortSt}
theorem l6.cmpL(C:l6 prog w A s κ ws a₀){st:SortSt}{i j:Nat}{Q:Option Bool->SortSt->Prop}(b:SoL κ a₀ lo st0 st)(hi:i<a₀.size)(d:j<a₀.size)(c:i≠j)(h:Q (Z (decide (kR ws (arrOf st) i<kR ws (arrOf st) j))) st):wpS (model prog w) A E s (ltAt' i j) Q st:=by
 obtain⟨x,q,k,g⟩:=C.at_ b.perm hi;obtain⟨y,r,f,e⟩:=C.at_ b.perm d;have a:kR ws (arrOf st) i≠kR ws (arrOf st) j:=λz=>c (C.inj b.perm hi d z);rw[ltAt'_eq];refine wpS_bind (wpS_get ?_);show wpS _ _ _ _ (do let x<-elem' (arrOf st) i;let y<-elem' (arrOf st) j;lt' x y) Q st;rw[elem'_eq,elem'_eq,k,f];refine wpS_bind (wpS_pure (wpS_bind (wpS_pure ?_)));rw[lt'_eq];refine wpS_bind (wpS_get ?_);rw[b.kind];exact wpS_bind (wpS_lift (wpAny_attempt (C.lt x y _ _ g e a _ _ ⟨O,wpS_pure h⟩)))
theorem xu.one{xs:Array Keyed}:xu ws lo xs 1:=λi j h1 h2=>by lia
theorem xu.snoc{xs:Array Keyed}{n:Nat}(u:xu ws lo xs n)(h:kO ws lo xs (n-1)<kO ws lo xs n):xu ws lo xs (n+1):=λi j h1 h2=>by
 by_cases z:j<n
 ·exact u i j h1 z
 ·have b:j=n:=by lia
  subst b;by_cases a:i=j-1
  ·rw[a];exact h
  ·exact bg (u i (j-1) (by lia) (by lia)) h
theorem IJ.snoc{xs:Array Keyed}{n:Nat}(u:IJ ws lo xs n)(h:kO ws lo xs n<kO ws lo xs (n-1)):IJ ws lo xs (n+1):=λi j h1 h2=>by
 by_cases z:j<n
 ·exact u i j h1 z
 ·have b:j=n:=by lia
  subst b;by_cases a:i=j-1
  ·rw[a];exact h
  ·exact bg h (u i (j-1) (by lia) (by lia))
theorem AK(C:l6 prog w A s κ ws a₀){xs:Array Keyed}(p:xs.Perm a₀){i j:Nat}(hi:lo+i<a₀.size)(a:lo+j<a₀.size)(b:i≠j):kO ws lo xs i≠kO ws lo xs j:=λe=>by
 have:=C.inj p hi a e;lia
theorem run_W(C:l6 prog w A s κ ws a₀){st:SortSt}{l:Nat}{Q:Option Nat->SortSt->Prop}(hn:lo+l<=a₀.size)(h1:1<=l)(b:SoL κ a₀ lo st0 st)(h:∀m st',SoL κ a₀ lo st0 st'->1<=m->m<=l->xu ws lo (arrOf st') m->Q (Z m) st'):wpS (model prog w) A E s (countRun' lo l) Q st:=by
 have o:∀ {st:SortSt} {a:Nat} {f:Nat->Option (Option Nat)×Nat->StateT SortSt Sem (ForInStep (Option (Option Nat)×Nat))} {Q:Option (Option Nat)×Nat->SortSt->Prop},SoL κ a₀ lo st0 st->1<=a->a<=l->xu ws lo (arrOf st) a ->
   (∀x c,f x c=(ltAt' (lo+c.2) (lo+c.2-1) >>= λr=>match r with
    |some z=>if z=M then pure (ForInStep.done (Y,c.2))else pure (ForInStep.yield (Y,c.2+1))
    |_=>pure (ForInStep.done (Z Y,c.2)))) ->
   (∀n,a<=n->n<=l->xu ws lo (arrOf st) n->(n=l\/kO ws lo (arrOf st) n<kO ws lo (arrOf st) (n-1))->Q (Y,n) st)->wpS (model prog w) A E s (forIn [a:l] (Y,a) f) Q st:=λ{st a f Q} b R q u ao F=>by
  refine wpS_forRange (λx c st'=>st'=st/\c=(Y,x)/\xu ws lo (arrOf st) x) ?_ ?_ ⟨O,O,u⟩
  ·rintro x c st' v y ⟨rfl,rfl,t⟩;rw[ao];dsimp only;refine wpS_bind (C.cmpL b (by lia) (by lia) (by lia) ?_);have e:kR ws (arrOf st') (lo+x-1)=kO ws lo (arrOf st') (x-1):=by unfold kO;congr 1;lia
   rw[e];by_cases z:kO ws lo (arrOf st') x<kO ws lo (arrOf st') (x-1)
   ·rw[show decide (kR ws (arrOf st') (lo+x)<kO ws lo (arrOf st') (x-1))=M from ah z];exact wpS_pure (F x v (by lia) t (.inr z))
   ·rw[show decide (kR ws (arrOf st') (lo+x)<kO ws lo (arrOf st') (x-1))=J from ai z];have:=AK C b.perm (lo:=lo) (i:=x) (j:=x-1) (by lia) (by lia) (by lia);exact wpS_pure ⟨O,O,t.snoc (by lia)⟩
  ·rintro c st' ⟨rfl,rfl,t⟩;rw[Nat.max_eq_right q]at t ⊢;exact F l q (nR1 _) t (.inl O)
 rw[countRun'_eq];refine wpS_bind (o b (nR1 1) h1 .one (λx c=>rfl) λn h2 D u or=>?_);dsimp only;by_cases z:n=l
 ·rw[ak (by simpa using z)];exact wpS_pure (h n st b h2 D u)
 rw[aj (by simpa using z)];have au:=or.resolve_left z;by_cases H:n>1
 ·rw[ak H];have L:=u 0 (n-1) (by lia) (by lia);refine wpS_bind (C.cmpL b (by lia) (by lia) (by lia) ?_);have e:kR ws (arrOf st) (lo+n-1)=kO ws lo (arrOf st) (n-1):=by unfold kO;congr 1;lia
  rw[e,show decide (kR ws (arrOf st) lo<kO ws lo (arrOf st) (n-1))=M from ah L];exact wpS_pure (h n st b h2 D u)
 rw[aj H];have e:n=1:=by lia
 subst e;refine wpS_bind (wpS_lift (wpAny_rule ⟨O,?_⟩));refine wpS_bind (wpS_mono (wpS_forRange (λx c st'=>st'=st/\c=(Y,x,0)/\IJ ws lo (arrOf st) x) (Q:=λc st'=>st'=st /\ ∃m,c=(Y,m,0)/\2<=m/\m<=l/\IJ ws lo (arrOf st) m) ?_ ?_ ⟨O,O,λi j v y=>?_⟩) ?_)
 ·rintro x c st' v y ⟨rfl,rfl,p⟩;dsimp only;have e:kR ws (arrOf st') (lo+x-1)=kO ws lo (arrOf st') (x-1):=by unfold kO;congr 1;lia
  have ne:=AK C b.perm (lo:=lo) (i:=x) (j:=x-1) (by lia) (by lia) (by lia);refine wpS_bind (C.cmpL b (by lia) (by lia) (by lia) ?_);rw[e];by_cases z:kO ws lo (arrOf st') x<kO ws lo (arrOf st') (x-1)
  ·rw[show decide (kR ws (arrOf st') (lo+x)<kO ws lo (arrOf st') (x-1))=M from ah z];exact wpS_pure ⟨O,O,p.snoc z⟩
  ·rw[show decide (kR ws (arrOf st') (lo+x)<kO ws lo (arrOf st') (x-1))=J from ai z];refine wpS_bind (C.cmpL b (by lia) (by lia) (by lia) ?_);rw[e,show decide (kO ws lo (arrOf st') (x-1)<kR ws (arrOf st') (lo+x))=M from ah (by show kO ws lo (arrOf st') (x-1)<kO ws lo (arrOf st') x;lia)];exact wpS_pure ⟨O,x,O,by lia,by lia,p⟩
 ·rintro c st' ⟨rfl,rfl,p⟩;rw[Nat.max_eq_right (by lia)]at p ⊢;exact⟨O,l,O,by lia,nR1 _,p⟩
 ·have N:i=0:=by lia
  have am:j=1:=by lia
  subst N;subst am;exact au
 ·rintro c st' ⟨rfl,m,rfl,m1,m2,d⟩;dsimp only;rw[aj (by lia)];have B:lo+m<=(arrOf st').size:=by rw[b.perm.size_eq];lia
  have I:∀k,(mirror (arrOf st') lo (lo+m) ((lo+m-lo)/2))[k]?=if lo<=k/\k<lo+m then(arrOf st')[lo+(lo+m)-1-k]? else(arrOf st')[k]?:=λk=>getElem?_mirror_all B k
  have G:SoL κ a₀ lo st0 (setArr st' (mirror (arrOf st') lo (lo+m) ((lo+m-lo)/2))):=b.arr (mirror_perm _ _ _ _) λk K=>by rw[I,aj (by lia)]
  have g:∀k,k<m->kO ws lo (mirror (arrOf st') lo (lo+m) ((lo+m-lo)/2)) k=kO ws lo (arrOf st') (m-1-k):=λk K=>k9 (by
   rw[I,ak (by lia)]
   congr 1;lia)
  refine wpS_bind (wpS_reverse (wpS_bind (o G (by lia) m2 (λi j D P=>?_) (λx c=>rfl) λn v y u _=>wpS_pure (h n _ G (by lia) y u))));show kO ws lo (mirror (arrOf st') lo (lo+m) ((lo+m-lo)/2)) i<kO ws lo (mirror (arrOf st') lo (lo+m) ((lo+m-lo)/2)) j;rw[g i (by lia),g j P];exact d _ _ (by lia) (by lia)
theorem HS(C:l6 prog w A s κ ws a₀){st:SortSt}{n ok:Nat}{Q:Bool->SortSt->Prop}(hn:lo+n<=a₀.size)(H:ok<=n)(b:SoL κ a₀ lo st0 st)(u:xu ws lo (arrOf st) ok)(h:∀st',SoL κ a₀ lo st0 st'->xu ws lo (arrOf st') n->Q M st'):wpS (model prog w) A E s (binarySort' lo n ok) Q st:=by
 rw[binarySort'_eq];refine wpS_bind (wpS_mono (wpS_forRange (λk c st'=>c=(Y,())/\SoL κ a₀ lo st0 st'/\xu ws lo (arrOf st') (min k n)) (Q:=λc st'=>c=(Y,())/\SoL κ a₀ lo st0 st'/\xu ws lo (arrOf st') n) ?_ ?_ ⟨O,b,λi j h1 h2=>?_⟩) ?_)
 ·rintro k c st' G am ⟨rfl,f,d⟩;rw[bA (by lia)]at d;have q:lo+k<(arrOf st').size:=by rw[f.perm.size_eq];lia
  refine wpS_bind (wpS_mono (wpS_forRange (λx c a=>a=st' /\ ∃l r,c=(Y,l,r)/\l<=r/\r<=k/\r-l<=k-x/\(∀i,i<l->kO ws lo (arrOf st') i<kO ws lo (arrOf st') k) /\ ∀i,r<=i->i<k->kO ws lo (arrOf st') k<kO ws lo (arrOf st') i)
   (Q:=λc a=>a=st' /\ ∃l r,c=(Y,l,r)/\l<=k/\(∀i,i<l->kO ws lo (arrOf st') i<kO ws lo (arrOf st') k) /\ ∀i,l<=i->i<k->kO ws lo (arrOf st') k<kO ws lo (arrOf st') i) ?_ ?_ ⟨O,0,k,O,by lia,by lia,by lia,λi h1=>by lia,λi h1 h2=>by lia⟩) ?_)
  ·rintro x c a _ K ⟨rfl,l,r,rfl,h1,h2,v,p,o⟩;dsimp only;by_cases z:l>=r
   ·rw[ak z];have e:l=r:=by lia
    subst e;exact wpS_pure ⟨O,l,l,O,h2,p,o⟩
   ·rw[aj z];have L:(l+r)/2<k:=by lia
    refine wpS_bind (C.cmpL f (by lia) (by lia) (by lia) ?_);by_cases m:kO ws lo (arrOf a) k<kO ws lo (arrOf a) ((l+r)/2)
    ·rw[show decide (kR ws (arrOf a) (lo+k)<kR ws (arrOf a) (lo+(l+r)/2))=M from ah m];refine wpS_pure ⟨O,l,(l+r)/2,O,by lia,by lia,by lia,p,λi I F=>?_⟩;by_cases t:(l+r)/2=i
     ·rw[<- t];exact m
     ·exact bg m (d _ i (by lia) F)
    ·rw [show decide (kR ws (arrOf a) (lo+k)<kR ws (arrOf a) (lo+(l+r)/2))=false from decide_eq_false m];refine wpS_pure ⟨rfl,(l+r)/2+1,r,rfl,by lia,by lia,by lia,fun i I=>?_,o⟩;have y:kO ws lo (arrOf a) ((l+r)/2)<kO ws lo (arrOf a) k:=by
      have:=AK C f.perm (lo:=lo) (i:=k) (j:=(l+r)/2) (by lia) (by lia) (by lia);lia
     by_cases t:i=(l+r)/2
     ·rw[t];exact y
     ·exact bg (d i _ (by lia) (by lia)) y
  ·rintro c a ⟨rfl,l,r,rfl,h1,h2,v,p,o⟩;have e:l=r:=by lia
   subst e;exact⟨O,l,l,O,h2,p,o⟩
  ·rintro c a ⟨rfl,l,r,rfl,h1,h2,v⟩;show wpS _ _ _ _ (do moveDown' (lo+k) (lo+l);pure (ForInStep.yield (none,()))) _ _;rw [moveDown'_eq];have D:∀ i,(bubble (arrOf a) (lo+k) (lo+k-(lo+l)))[i]? = if i=lo+l then (arrOf a)[lo+k]? else if lo+l<i/\i<=lo+k then (arrOf a)[i-1]? else (arrOf a)[i]?:=fun i=>by
    have e:=getElem?_bubble q (lo+k-(lo+l)) (by lia) i;rw[show lo+k-(lo+k-(lo+l))=lo+l by lia]at e;exact e
   refine wpS_bind (wpS_modify (wpS_pure ⟨O,f.arr (bubble_perm _ _ _) λi hi=>by rw[D,aj (by lia),aj (by lia)],?_⟩));rw[bA (by lia)];have g:∀i,kO ws lo (bubble (arrOf a) (lo+k) (lo+k-(lo+l))) i=if i=l then kO ws lo (arrOf a) k else if l<i/\i<=k then kO ws lo (arrOf a) (i-1)else kO ws lo (arrOf a) i:=λi=>by
    have e:=D (lo+i);by_cases B:i=l
    ·rw[ak (by lia)]at e;rw[ak B];exact k9 e
    ·rw[aj (by lia)]at e;rw[aj B];by_cases m:l<i/\i<=k
     ·rw[ak (by lia)]at e;rw[ak m];refine k9 (e.trans ?_)
      congr 1;lia
     ·rw[aj (by lia)]at e;rw[aj m];exact k9 e
   intro i j p o;show kO ws lo (bubble (arrOf a) (lo+k) (lo+k-(lo+l))) i<kO ws lo (bubble (arrOf a) (lo+k) (lo+k-(lo+l))) j;rw[g,g]
   repeat' split
   all_goals first
    |(exfalso;lia)
    |exact h2 _ (by lia)
    |exact v _ (by lia) (by lia)
    |exact d _ _ (by lia) (by lia)
 ·rintro c st' ⟨hc,f,d⟩;refine⟨hc,f,?_⟩
  rwa [show min (max (max ok 1) n) n=n by lia]at d
 ·by_cases z:ok=0
  ·lia
  ·exact u i j h1 (by lia)
 ·rintro c st' ⟨rfl,f,d⟩;exact wpS_pure (h st' f d)
end
theorem nQ:∀{s:Nat} {rs:List (List Keyed)} {p:List (Nat×Nat×Nat)},fT s rs p->p.length=rs.length
 |_,[],[],_=>rfl
 |_,[],_::_,h=>by cases h
 |_,_::_,[],h=>by cases h
 |s,r::rs,(t,n,pw)::p,⟨_,_,h⟩=>by rw[lC1,lC1,nQ h]
theorem pH:∀{s:Nat} {rs:List (List Keyed)} {p:List (Nat×Nat×Nat)} {r:List Keyed} {pw:Nat},fT s rs p->fT s (rs++[r]) (p++[(s+rs.flatten.length,r.length,pw)])
 |_,[],[],_,_,_=>⟨by simp,O,trivial⟩
 |_,[],_::_,_,_,h=>by cases h
 |_,_::_,[],_,_,h=>by cases h
 |s,r::rs,(t,n,pw)::p,r',pw',⟨e1,e2,h⟩=>by
  refine⟨e1,e2,?_⟩;have:=pH (r:=r') (pw:=pw') h
  rwa [bj,<- lA1,<- c6]at this
theorem s9{g:Nat×Nat×Nat->Nat×Nat×Nat}(hg:∀x,(g x).1=x.1/\(g x).2.1=x.2.1):∀{s:Nat} {rs:List (List Keyed)} {p:List (Nat×Nat×Nat)} {k:Nat},fT s rs p->fT s rs (p.modify k g)
 |_,[],[],k,_=>by cases k<;>exact trivial
 |_,[],_::_,_,h=>by cases h
 |_,_::_,[],_,h=>by cases h
 |s,r::rs,(t,n,pw)::p,0,⟨e1,e2,h⟩=>by
  obtain⟨a,b⟩:=hg (t,n,pw);show fT s (r::rs) (g (t,n,pw)::p);exact⟨a.trans e1,b.trans e2,h⟩
 |s,r::rs,(t,n,pw)::p,k+1,⟨e1,e2,h⟩=>⟨e1,e2,s9 hg h⟩
section
variable{prog:dF}{w:dH}{A:dG}{E:dB->dD->Prop}{s:dD}{κ:SortKind}{ws:List dB}{a₀:Array Keyed}{rs:List (List Keyed)}{rest:List Keyed}{st st':SortSt}
theorem SR.size(h:SR ws κ a₀ rs rest st):rs.flatten.length+rest.length=a₀.size:=by
 have:=congrArg List.length h.ar;rw[aJ,h.pm.size_eq,lA1]at this;exact this.symm
theorem SR.many(h:SR ws κ a₀ rs rest st):rs.length<=rs.flatten.length:=by
 have:∀{l:List (List Keyed)},(∀r∈l,r≠[])->l.length<=l.flatten.length:=by
  intro l
  induction l with
  |nil=>intro _;exact nR1 _
  |cons r l ih=>
   intro a;have h1:=ih λx b=>a x (mC1 _ b);have h2:0<r.length:=c8.mpr (a r mS1);rw[lC1,c6,lA1];lia
 exact this λr a=>(h.so r a).2
theorem SoL.sr(h:SR ws κ a₀ rs rest st)(b:SoL κ a₀ rs.flatten.length st st'):SR ws κ a₀ rs ((arrOf st').toList.drop rs.flatten.length) st':=by
 refine⟨b.kind,b.failed.trans h.f,b.perm,?_,h.so,by rw[b.pend];exact h.pe⟩;have:(arrOf st').toList.take rs.flatten.length=rs.flatten:=by
  have e:(arrOf st).toList.take rs.flatten.length=rs.flatten:=by rw[h.ar,da]
  rw[<- e];refine bZ λi=>?_;by_cases hi:i<rs.flatten.length
  ·rw[e,aS hi,<- e,aS hi,aT1,aT1];exact b.pre i hi
  ·rw[e,b4 (by rw[aQ];lia),b4 (by lia)]
 conv=>lhs;rw[<- cI rs.flatten.length (arrOf st').toList,this]
theorem vV{lo n:Nat}(hp:(arrOf st').Perm a₀)(hn:lo+n<=a₀.size)(u:xu ws lo (arrOf st') n):Srt ws (((arrOf st').toList.drop lo).take n):=by
 refine cu.mpr λi j hi b a=>?_;rw[aQ,aU]at hi b;have:=u i j a (by lia);have c:=hp.size_eq;rw[aJ]at hi b;unfold kO kR at this;rw[aG1 (show lo+i<(arrOf st').size by lia),aG1 (show lo+j<(arrOf st').size by lia)]at this;simpa using this
theorem Iy(C:l6 prog w A s κ ws a₀){Q:Unit->SortSt->Prop}(h0:SR ws κ a₀ [] a₀.toList st)(h2:2<=a₀.size)(q:∀st',(arrOf st').Perm a₀->failedOf st'=Y->Srt ws (arrOf st').toList->Q () st'):wpS (model prog w) A E s sortRuns' Q st:=by
 rw[sortRuns'_eq];refine wpS_bind (wpS_get ?_);dsimp only;generalize minRun' (arrOf st).size (arrOf st).size 0=mr;rw[h0.pm.size_eq];refine wpS_bind (wpS_mono (wpS_forRange (λx c st'=>∃rs rest,SR ws κ a₀ rs rest st'/\c=(Y,rs.flatten.length)/\x<=rs.flatten.length)
  (Q:=λc st'=>∃rs lo,SR ws κ a₀ rs [] st'/\c=(Y,lo)) ?_ ?_ ⟨[],a₀.toList,h0,O,nR1 _⟩) ?_)
 ·rintro x c st' _ V ⟨rs,rest,h,rfl,au⟩;have B:=h.size;dsimp only;by_cases z:rs.flatten.length>=a₀.size
  ·rw[ak z];have e:rest=[]:=cq.mp (by lia);subst e;exact wpS_pure ⟨rs,_,h,O⟩
  rw[aj z];refine wpS_bind (run_W (lo:=rs.flatten.length) (st0:=st') C (by lia) (by lia) ⟨h.pm,h.k,O,O,λ_ _=>rfl⟩ λm st2 b m1 m2 u=>?_);dsimp only;have D:=b.sr h;have wq:=D.size;refine(λ(t:∀(n:Nat) (j:SortSt) (a:List Keyed),SR ws κ a₀ rs a j->Srt ws (a.take n)->1<=n->n<=a.length->(?T:Nat->SortSt->Prop) n j)=>?go) ?mn
  case go=>
   by_cases U:m<mr
   ·rw[ak U];refine wpS_bind (wpS_lift (wpAny_rule ⟨O,?_⟩));refine wpS_bind (HS (lo:=rs.flatten.length) (st0:=st') C (n:=min (a₀.size-rs.flatten.length) mr) (by lia) (by lia) b u λj b3 u3=>?_);simp only[b5,bF1,if_false];have G:=b3.sr h;have hsz3:=G.size;have l:=vV b3.perm (by lia) u3;have S:1<=min (a₀.size-rs.flatten.length) mr:=by lia
    have F:min (a₀.size-rs.flatten.length) mr<=((arrOf j).toList.drop rs.flatten.length).length:=by lia
    generalize min (a₀.size-rs.flatten.length) mr=n at l S F ⊢;exact t n j _ G l S F
   ·rw[aj U];have l:=vV b.perm (by lia) u;have F:m<=((arrOf st2).toList.drop rs.flatten.length).length:=by lia
    generalize hst:st2=j at D l F ⊢;generalize hmn:m=n at l m1 F ⊢;exact t n j _ D l m1 F
  intro n j a N hs n1 K;refine wpS_bind (wpS_get ?_);have R:=N.size;refine(λ(p:∀(f:List (List Keyed)) (d:SortSt),SR ws κ a₀ f a d->(?T2:SortSt->Prop) d)=>?go2) ?mn2
  case go2=>
   cases hb:(pendingOf j).back? with
   |none=>
    dsimp only;exact p rs j N
   |some q1=>
    obtain⟨W,v,pw1⟩:=q1;dsimp only;generalize power' a₀.size (2*W+v) (2*W+v+v+n) a₀.size=pv;refine wpS_bind (wpS_mono (wpS_forRange (λx c d=>c=(Y,()) /\ ∃f,SR ws κ a₀ f a d) (Q:=λc d=>c=(Y,()) /\ ∃f,SR ws κ a₀ f a d) ?_ (λ_ _ h=>h) ⟨O,rs,N⟩) ?_)
    ·rintro x c d _ V ⟨rfl,f,k⟩;have y:=nQ k.pe;rw[aJ]at y;refine wpS_bind (wpS_get ?_);by_cases T:(pendingOf d).size>1
     ·rw[ak T,aG1 (show(pendingOf d).size-2<(pendingOf d).size by lia)];generalize (pendingOf d)[(pendingOf d).size-2]'(by lia)=pq;obtain⟨pa,pb,pc⟩:=pq;dsimp only;by_cases aq:pc<=pv
      ·rw[ak aq];exact wpS_pure ⟨O,f,k⟩
      ·rw[aj aq];refine wpS_bind (k.merge C (i:=(pendingOf d).size-2) (gG1 (by lia)) (gG1 (by lia)) λr o H=>?_);simp only[b5,bF1,if_false];exact wpS_pure ⟨O,_,H⟩
     ·rw[aj T];exact wpS_pure ⟨O,f,k⟩
    ·rintro c d ⟨rfl,f,k⟩;dsimp only;refine wpS_bind (wpS_modify ?_);refine p f _ ⟨k.k,k.f,k.pm,k.ar,k.so,?_⟩;show fT 0 f ((pendingOf d).modify ((pendingOf d).size-1) _).toList;rw[Array.toList_modify];exact s9 (g:=λx=>(x.1,x.2.1,pv)) (λx=>⟨O,O⟩) k.pe
  intro f d k;have X:=k.size;have I:rs.flatten.length=f.flatten.length:=by lia
  refine wpS_bind (wpS_modify (wpS_pure ⟨f++[a.take n],a.drop n,⟨k.k,k.f,k.pm,?_,?_,?_⟩,?_,?_⟩))
  ·refine k.ar.trans ?_;rw[c9,bG];simp
  ·intro r L;rcases aG.mp L with am|am
   ·exact k.so r am
   ·rw[cM.mp am];exact⟨hs,λe=>by have:=congrArg List.length e;rw[aQ,bd]at this;lia⟩
  ·show fT 0 _ ((pendingOf d).push (rs.flatten.length,n,0)).toList;rw[cw,I];have:=pH (r:=a.take n) (pw:=0) k.pe
   rwa [bN,aQ,bA K]at this
  ·rw[c9,lA1,I,List.flatten_singleton,aQ,bA K]
  ·rw[c9,lA1,List.flatten_singleton,aQ,bA K];lia
 ·rintro c st' ⟨rs,rest,h,rfl,au⟩;have B:=h.size;have e:rest=[]:=cq.mp (by lia);subst e;exact⟨rs,_,h,O⟩
 ·rintro c st' ⟨rs,lo,h,rfl⟩;dsimp only;have B:=h.size;rw[bd,Nat.add_zero]at B;have ao:=h.many;refine wpS_bind (wpS_mono (wpS_forRange (λx c st2=>c=(Y,()) /\ ∃rs,SR ws κ a₀ rs [] st2/\rs.length+x<=a₀.size) (Q:=λc st2=>c=(Y,()) /\ ∃rs,SR ws κ a₀ rs [] st2/\rs.length<=1) ?_ ?_ ⟨O,rs,h,by lia⟩) ?_)
  ·rintro x c st2 _ V ⟨rfl,rs,h,P⟩;have y:=nQ h.pe;rw[aJ]at y;refine wpS_bind (wpS_get ?_);by_cases z:(pendingOf st2).size<=1
   ·rw[ak z];exact wpS_pure ⟨O,rs,h,by lia⟩
   rw[aj z];have mg:∀i,i+1<rs.length -> ∀{Q:Bool->SortSt->Prop},(∀r o,SR ws κ a₀ r [] o->r.length+1=rs.length->Q M o)->wpS (model prog w) A E s (mergeAt' i) Q st2:=λi hi Q hq=>
    h.merge C (i:=i) (gG1 (by lia)) (gG1 hi) λr o H=>hq _ o H (by rw[lA1,lC1,aQ,aU];lia)
   refine wpS_bind (mg _ ?_ λr o H hl5=>?_)
   ·split<;>lia
   ·simp only[b5,bF1,if_false];exact wpS_pure ⟨O,r,H,by lia⟩
  ·rintro c st2 ⟨rfl,rs,h,P⟩;exact⟨O,rs,h,by lia⟩
  ·rintro c st2 ⟨rfl,rs,h,P⟩;refine wpS_pure (q st2 h.pm h.f ?_);rw[h.ar,aM]
   match rs,P,h.so with
   |[],_,_=>exact .nil
   |[r],_,so=>simpa using(so r (by simp)).1
end
theorem Eu{ws:List dB}{xs a₀:Array Keyed}(p:xs.Perm a₀)(h:Srt ws xs.toList):Up ws xs a₀.size:=λi j a b=>by
 have c:=p.size_eq;have:=cu.mp h i j (by rw[aJ];lia) (by rw[aJ];lia) a;unfold kR;rw[aG1 (show i<xs.size by lia),aG1 (show j<xs.size by lia)];simpa using this
section
variable{prog:dF}{w:dH}{A:dG}{E:dB->dD->Prop}{s:dD}
theorem zo {a:dE}{vs ws:List dB}{n:Nat}{κ:SortKind}{P:Fin->dD->Prop}(ho:s.heap.get? a=some (seqObj "list" vs.toArray n))(v:vs.length<=dL)(hp:vs.Perm ws)
  (t:∀h',(∀b o,b≠a->s.heap.get? b=Z o->h'.get? b=Z o)->2<=vs.length->l6 prog w A {s with heap:=h'} κ ws (pairsOf vs) /\ ∀Q:SortKind->dD->Prop,Q κ {s with heap:=h'}->dM (model prog w) A (keyKind' vs.toArray) Q E {s with heap:=h'})
  (h:P (.done (.ret .none)) {s with heap:=sortedHeap s.heap a vs ws.toArray}):dM (model prog w) A (Builtin.«list.sort» ⟨[.ref a],[]⟩) P E s:=by
 rw[list_sort_plain];have u:a<s.heap.objs.size:=hL1 ho;refine wB1 (listItems_at ho O ?_);refine wB1 (listUpdate_at ho O ?_);obtain⟨i,g⟩:∃i,(s.heap.update a (Obj.mapSeq λ_=> #[])).get? a=some (seqObj "list" #[] i):=⟨_,get?_update_seq ho (λ_=> #[])⟩;refine wB1 (seqEpoch_at g O (wB1 (wpAny_newTuple (wB1 (wpAny_newList (wpAny_holding ?_))))));have keep:∀b o,b≠a->s.heap.get? b=Z o->(((s.heap.update a (Obj.mapSeq λ_=> #[])).push (seqObj "tuple" vs.toArray 0)).push (seqObj "list" #[] 0)).get? b=Z o:=λb o m e=>
  hP1 _ (hP1 _ (by rw[hU1 _ _ _ _ m];exact e))
 have c:(((s.heap.update a (Obj.mapSeq λ_=> #[])).push (seqObj "tuple" vs.toArray 0)).push (seqObj "list" #[] 0)).get? a=Z (seqObj "list" #[] i):=hP1 _ (hP1 _ g);show dM (model prog w) A _ P E {s with heap:=((s.heap.update a (Obj.mapSeq λ_=> #[])).push (seqObj "tuple" vs.toArray 0)).push (seqObj "list" #[] 0)};dsimp only;have p:vs.toArray.size=vs.length:=by simp
 have d:=hp.length_eq;have f:∀xs:Array Keyed,xs.map (·.2)=ws.toArray->P (.done (.ret .none)) {s with heap:=sortedHeap s.heap a vs (xs.map (·.2))}:=λxs e=>by rw[e];exact h
 by_cases h2:vs.toArray.size<2
 ·rw [if_pos h2,if_pos h2];refine wB1 (wP1 ?_);rw [StateT.run_pure];refine wB1 (wP1 (wB1 (seqEpoch_at c rfl ?_)));have e:((vs.toArray.zip vs.toArray).map (·.2):Array dB)=ws.toArray:=by
   have:vs=ws:=by
    match vs,ws,hp,h2 with
    |[],ws,hp,_=>exact(List.nil_perm.mp hp).symm
    |[x],ws,hp,_=>exact(List.singleton_perm.mp hp).symm ▸ rfl
    |_::_::_,_,_,h2=>simp at h2;lia
   subst this;apply Array.ext';simp;exact List.map_snd_zip (nR1 _)
  refine wB1 (listUpdate_at c O ?_ (hsz2:=by
   show(Array.map (·.2) (vs.toArray.zip vs.toArray)).size<=_;rw[e,sT1,<- d];lia))
  simp only[bne_self_eq_false,bF1,if_false];exact wP1 (f _ e)
 ·rw [if_neg h2,if_neg h2];obtain ⟨C,K⟩:=t _ keep (by lia);refine wB1 (K _ ?_);refine wB1 (wpAny_mono (Iy C (st:=SortSt.mk' κ (vs.toArray.zip vs.toArray) #[] 7 none)
   (Q:=λ_ st'=>(arrOf st').Perm (pairsOf vs)/\failedOf st'=Y/\Srt ws (arrOf st').toList) ⟨O,O,Array.Perm.refl _,O,(λr k=>by cases k),trivial⟩ (by rw[pairsOf_size];lia) λst' a1 a2 a3=>⟨a1,a2,a3⟩) ?_ λ_ _ e=>e)
  rintro⟨⟨⟩,st'⟩ s' ⟨rfl,j,q,l⟩;have e:=Ey C j (Eu j l);refine wB1 (seqEpoch_at c O ?_);refine wB1 (listUpdate_at c O ?_ (hsz2:=by
   show(Array.map (·.2) (arrOf st')).size<=_;rw[e,sT1,<- d];lia))
  rw[q];simp only[bne_self_eq_false,bF1,if_false];exact wP1 (f _ e)
theorem u4 {v:dB}{vs ws:List dB}{κ:SortKind}{Q:dB->dD->Prop}(k:vs.length<=dL)(f:vs.Perm ws)
  (d:∀(E:dB->dD->Prop) (Q:List dB->dD->Prop),(∀h',(∀b u,s.heap.get? b=Z u->h'.get? b=Z u)->s.heap.objs.size<=h'.objs.size->Q vs {s with heap:=h'})->dM (model prog w) A.in1 (collect v) Q E s)
  (o:∀a:dP,(∀b u,s.heap.get? b=Z u->a.get? b=Z u)->l6 prog w A.in1.in1 {s with heap:=a} κ ws (pairsOf vs) /\
   (vs≠[] -> ∀(E:dB->dD->Prop) (Q:SortKind->dD->Prop),Q κ {s with heap:=a}->dM (model prog w) A.in1.in1 (keyKind' vs.toArray) Q E {s with heap:=a}))
  (h:∀(a:dP) (L:dE) (n:Nat),(∀b u,s.heap.get? b=Z u->a.get? b=Z u)->s.heap.objs.size<=L->a.get? L=Z (seqObj "list" ws.toArray n)->Q (.ref L) {s with heap:=a}):
  dM (model prog w) A (call (.builtin "sorted") [v]) Q E s:=by
 refine Calls.call_function_entry kind_sorted plain_sorted entry_sorted (args_sorted1 _) ?_;unfold Builtin.«sorted»;refine wB1 (m:=checkCount "sorted" 1 1 _) (wP1 ?_);refine wB1 (d _ _ λh' keep i=>?_);refine wB1 (wpAny_newList (hsz:=k) ?_);have c:(h'.push (seqObj "list" vs.toArray 0)).get? h'.objs.size=Z (seqObj "list" vs.toArray 0):=hS1 _ O;show dM _ _ _ _ _ {s with heap:=h'.push (seqObj "list" vs.toArray 0)};refine wB1 (wpAny_holding (wE1 slot_list_sort ⟨_,c,O⟩ entry_list_sort (zo (s:={s with heap:=h'.push (seqObj "list" vs.toArray 0)}) (κ:=κ) (ws:=ws) c k f (λa l h2=>?_) ⟨_,O,?_⟩) (args_list_sort _)))
 ·have:=o a λb u e=>l b u (nN1 (hL1 (keep b u e))) (hP1 _ (keep b u e));exact⟨this.1,this.2 (λz=>by rw[z]at h2;simp at h2) _⟩
 ·obtain⟨n,g⟩:=sortedHeap_at (out:=ws.toArray) c;refine wP1 ⟨_,O,h _ h'.objs.size n (λb u e=>?_) i g⟩;have j:b<h'.objs.size:=hL1 (keep b u e);show(sortedHeap (h'.push (seqObj "list" vs.toArray 0)) h'.objs.size vs ws.toArray).get? b=Z u;rw[sortedHeap_old (nN1 j) (by rw[hZ1];exact cG j)];exact hP1 _ (keep b u e)
end
def og:G1:=λd S=>match d7 S d with
 |some (M,xs)=>(n6 xs).bind λ_=>if(m4 xs&&(mi (kF xs)&&decide (xs.length<=100000)))=M then Z (.ref S.length,S++[.lst (kF xs)])else Y
 |_=>Y
theorem Ds(P:X.A.units+64<cLine):fj X (.builtin "sorted") (rN X.K (b1 og)):=by
 intro ag s σ H xs V Q I r h;obtain⟨x,mu,S,d,U,T,rfl,B,m,g,hc⟩:=BC h;unfold og at g;split at g
 ·rename_i ds K;obtain⟨f,am,g⟩:=oB1.mp g;split at g
  ·rename_i c;cases g;rw[bA1,bA1,al]at c;obtain⟨a,vs,rfl,q,t⟩:=ej B m K;obtain⟨u,rfl,r2⟩:=je r;cases r2;obtain⟨k,p,F,R⟩:=I.list q;have j:k.length=ds.length:=by rw[<- p.length,<- t.length]
   have i:k.length<=dL:=by rw[j,sizeLine_eq];lia
   obtain⟨w,zs,G,z,au,D,ao⟩:=Ex I m (A:=X.A.in1.in1) (by show X.A.units+1+1+60<cLine;lia) (f:=f) t p c.1 (vq am) c.2.1;refine u4 i au (λE Q q=>?_) ao (λN L n keep y v=>?_)
   ·refine collect_list F.isList (q _ (λb u e=>?_) ?_) i
    ·have C:b<s.heap.objs.size:=hL1 e;rw[hU1 _ _ _ _ (nN1 C)];exact hP1 _ e
    ·rw[Heap.size_update,hZ1];exact aW _
   ·have l:H L=Y:=I.hok.fresh y;refine⟨.ref L,_,I.laid (t':=s.toks) (o:=.lst w) keep y ⟨?_,zs,n,z,v⟩,O,hc _ _ (mu++[L]) (Ext.new_ l) (.ref (gf m.len _)) (m.newL G l)⟩;rw[D,p.length];exact i
  ·cases g
 ·cases g
theorem qc:entryFor table "dict.update.loop"=Z Builtin.«dict.update.loop» :=entryFor_of_tree (by kernel_rfl)
theorem jM:plainId "dict.update.loop"=M:=by decide+kernel
theorem xU:typeLookup (.type "list") (Str.ofString "keys")=pure Y:=by rw[typeLookup_type,builtinLookup_eq_fast];kernel_rfl
section
variable{P:dF}{w:dH}{A:dG}{E:dB->dD->Prop}{s:dD}
theorem yK {a:dE}{xs:Array dB}{k:Nat}{sl:Array (Option dB)}{Q:Option dB->dD->Prop}(hx:s.heap.get? a=some {cls:=.type "list",dict:=none,data:=.seq xs k,slots:=sl})(j:A.handled=none)
  (h:∀h' tk,(∀b o,s.heap.get? b=Z o->h'.get? b=Z o)->Q Y {s with heap:=h',toks:=tk}):dM (model P w) A (getAttr? (.ref a) (Str.ofString "keys")) Q E s:=by
 obtain⟨m,g,d,tk,l⟩:=s;have i:∀f,(⟨m,g,d,f,l⟩:dD).TypeIs (.ref a) "list":=λ_=>⟨_,hx,O⟩;have q:=sub_AttributeError;have r:=PySem.F.slot_list_getattribute.lookup;have v:=PySem.F.slot_list_getattribute.bind (.ref a);have u:=am_list_getattr_none;unfold getAttr? getAttrBy? getAttrBy
 repeat(any_goals (first|assumption|exact i _|((with_reducible show dM _ _ (call (Value.builtin "list.__getattribute__") _ _) _ _ _);refine call_meets PySem.F.slot_list_getattribute (i _) am_entry_list_getattribute (PySem.F.args_list_getattribute_2 _ _) (meets_getattribute_miss_list a xs k sl _ _ xU (by decide) (by decide)) ⟨hx,j,λh' f e c=>?_⟩)|wp_step))
 obtain⟨p,t,n⟩:=c.there;show dM _ _ (getattributeRaised _ _ _ _ _ _ _) _ _ _;unfold getattributeRaised
 repeat(any_goals (first|assumption|wp_step))
 exact h _ _ c.keeps
variable{K:Type} [DecidableEq K] {knd:HeapKind P w K}
abbrev uK(K:Type):=K×dE×dB
noncomputable def gI(ps:List (uK K)):List (uK K):=ps.foldl (λa q=>storedH a q.1 q.2.1 q.2.2) []
theorem sM(xs:List (uK K))(k:K)(a:dE)(v:dB):(storedH xs k a v).length<=xs.length+1:=by
 unfold storedH;split
 ·rw[lM1];exact aW _
 ·rw[lA1];exact nR1 _
theorem pZ:∀(ps acc:List (uK K)),(ps.foldl (λa q=>storedH a q.1 q.2.1 q.2.2) acc).length<=acc.length+ps.length
 |[],acc=>nR1 _
 |p::ps,acc=>by
  rw[b9,lC1];have h1:=pZ ps (storedH acc p.1 p.2.1 p.2.2);have h2:=sM acc p.1 p.2.1 p.2.2;lia
theorem vv{ps:List (uK K)}{i:Nat}{q:uK K}(h:ps[i]?=Z q):gI (ps.take (i+1))=storedH (gI (ps.take i)) q.1 q.2.1 q.2.2:=by
 unfold gI;rw[cF,h,List.foldl_append];rfl
theorem uc{F:uK K->Prop}(d:∀(k:K) (a:dE) (v e:dB),F (k,a,v)->F (k,a,e)):∀(ps acc:List (uK K)),(∀x∈ps,F x)->(∀x∈acc,F x) -> ∀x∈ps.foldl (λa q=>storedH a q.1 q.2.1 q.2.2) acc,F x
 |[],acc,_,h=>h
 |p::ps,acc,hp,h=>by
  rw[b9];refine uc d ps _ (λx b=>hp x (mC1 _ b)) λx b=>?_;unfold storedH at b;split at b
  ·obtain⟨y,c,rfl⟩:=cf.mp b;unfold putAt;split
   ·exact d _ _ y.2.2 _ (h y c)
   ·exact h y c
  ·rcases aG.mp b with z|z
   ·exact h x z
   ·simp at z;subst z;exact hp p mS1
theorem A1{h:dP}{ps:List (uK K)}(hp:∀x∈ps,knd.is h x.1 x.2.1):∀x∈gI ps,knd.is h x.1 x.2.1:=
 uc (F:=λx=>knd.is h x.1 x.2.1) (λ_ _ _ _ z=>z) ps [] hp λx a=>by cases a
theorem yv{d l it:dE}{h0:dP}{its:Array dB}{ps:List (uK K)}{R:Result->dD->Prop}(wq:A.handled=none)(X:knd.room A.in1)(u:its.size=ps.length)(hps:ps.length<=dL)(V:h0.IsList l its)(nd:h0.get? d=none)(ni:h0.get? it=none)(g:d≠it)(f:∀(h:dP) (k:K) (a:dE),(∀c o,h0.get? c=some o->h.get? c=some o)->knd.is h0 k a->knd.is h k a)(W:∀(i:Nat) (q:uK K),ps[i]?=some q -> ∃D:dE,its[i]?=some (Value.ref D)/\h0.IsTuple D #[Value.ref q.2.1,q.2.2]/\knd.is h0 q.1 q.2.1):
  ∀(n i:Nat) (s:dD),its.size-i=n->i<=its.size->(∀c o,h0.get? c=Z o->s.heap.get? c=Z o)->s.heap.IsListIter it l i->s.heap.DictOfH knd d (gI (ps.take i)) ->
  (∀h' tk,(∀c o,h0.get? c=Z o->h'.get? c=Z o)->h'.DictOfH knd d (gI ps)->R (.ok (.ret .none)) {s with heap:=h',toks:=tk})->dN (model P w) A (.builtin "dict.update.loop" ⟨[.ref d,.ref it,.int i 0,.none],[]⟩) R s:=by
 have C:∀{c:dE} {o:Obj},h0.get? c=Z o->c≠d/\c≠it:=λ{c o} e=>⟨λz=>(by rw[z,nd]at e;cases e),λz=>(by rw[z,ni]at e;cases e)⟩;have v:∀i,∀x∈gI (ps.take i),knd.is h0 x.1 x.2.1:=λi=>A1 λx m=>by
  obtain⟨j,hj⟩:=bo (cN m);obtain⟨_,_,_,h⟩:=W j x hj;exact h
 intro n
 induction n with
 |zero=>
  intro i s hk hi keep st Q q;have e:i=its.size:=by lia
  subst e;have p:s.heap.IsList l its:=by obtain⟨o,e,r⟩:=V;exact⟨o,keep _ _ e,r⟩
  refine wD1 qc (?_:_);rw[Around.under_plainId jM _];show dM _ A.in1 (pyNext (.ref it) >>= _) _ _ s;refine wB1 (wpAny_pyNext_list_end (by simpa using wq) st p (by simp) λh' N=>?_);refine wB1 (wP1 (wP1 ?_));refine q h' s.toks (λc o e=>N c o (C e).2 (keep c o e)) ?_;have B:h'.DictOfH knd d (gI (ps.take its.size)):=by
   obtain⟨o,es,ep,E,I,am,ao,g5,L⟩:=Q;have k2:∀x∈gI (ps.take its.size),knd.is h' x.1 x.2.1:=λx m=>f _ _ _ (λc o e=>N c o (C e).2 (keep c o e)) (v _ x m);exact⟨o,es,ep,N d o g E,I,am,ao,k2,L⟩
  rw[u,bY]at B;exact B
 |succ n ih=>
  intro i s hk hi keep st Q q;have au:i<its.size:=by lia
  have p:s.heap.IsList l its:=by obtain⟨o,e,r⟩:=V;exact⟨o,keep _ _ e,r⟩
  obtain⟨pr,y⟩:∃pr,ps[i]?=some pr:=⟨_,gG1 (by lia)⟩;obtain⟨D,m,⟨op,S,hc,np,hd⟩,G⟩:=W i pr y;refine wD1 qc (?_:_);rw[Around.under_plainId jM _];show dM _ A.in1 (pyNext (.ref it) >>= _) _ _ s;refine wB1 (wpAny_pyNext_list_item st p m λh' st' U=>?_);have b:∀c o,h0.get? c=Z o->h'.get? c=Z o:=λc o e=>by rw[U.2 c (C e).2];exact keep c o e
  have F:h'.DictOfH knd d (gI (ps.take i)):=by
   obtain⟨o,es,ep,E,I,am,ao,g5,L⟩:=Q;exact⟨o,es,ep,by rw[U.2 d g];exact E,I,am,ao,λx m=>f _ _ _ b (v _ x m),L⟩
  show dM _ A.in1 (holding [Value.ref D] _ >>= _) _ _ _;refine wB1 (wpAny_holding (wB1 (wpAny_tryCatch ?_)));unfold Builtin.Dict.pairItems;refine wB1 (wpAny_typeOf (T:="tuple") ⟨op,b _ _ S,hc⟩ ?_);rw[ak (by decide)];refine wB1 (wpAny_seqItems (b _ _ S) hd (wP1 ?_));dsimp only[b7];refine wpAny_holding (wpAny_dictSet_heap (s:={s with heap:=h'}) X (f _ _ _ b G) F (λh2 H t=>?_) ?_)
  ·refine wP1 ⟨plainId_quiet jM _,?_⟩;have hq:=ih (i+1) {s with heap:=h2,toks:=s.toks+knd.draws pr.1} (by lia) au (fun c o e=>by rw [t.2 c (C e).1];exact b c o e) (by
    obtain⟨o,e1,e2⟩:=st';exact⟨o,by rw[t.2 it (Ne.symm g)];exact e1,e2⟩) (by rw[vv y];exact H) λh3 tk aq x3=>q h3 tk aq x3
   exact hq
  ·have:=pZ (ps.take i) [];unfold gI;rw[aQ]at this;simp at this;lia
theorem vE {l:dE}{xs:Array dB}{k:Nat}{sl:Array (Option dB)}{Q:dB->dD->Prop}(p:A.handled=none)(hx:s.heap.get? l=some {cls:=.type "list",dict:=none,data:=.seq xs k,slots:=sl})
  (i:∀(j:dG) (h1:dP) (tk:Nat) (it:dE),j.handled=Y->j.units<=A.units+2->(∀b o,s.heap.get? b=Z o->h1.get? b=Z o)->s.heap.get? it=Y->s.heap.objs.size≠it->h1.IsListIter it l 0->h1.DictOfH knd s.heap.objs.size [] ->
   ∀R:Result->dD->Prop,(∀s',Q (.ref s.heap.objs.size) s'->R (.ok (.ret .none)) s')->dN (model P w) j (.builtin "dict.update.loop" ⟨[.ref s.heap.objs.size,.ref it,.int 0 0,.none],[]⟩) R {s with heap:=h1,toks:=tk}):
  dM (model P w) A (call (.type "dict") [.ref l]) Q E s:=by
 refine callType_codes (Q₁:=λh f=>h = .ref s.heap.objs.size/\f={s with heap:=s.heap.push {cls:=.type "dict",data:=.dict #[]}}) PySem.F.kt_called_dict (PySem.F.kt_typeCall_dict_1 _) PySem.F.entry_dict_init (kt_code_dict_new _ ⟨O,O⟩) ?_;rintro h f ⟨rfl,rfl⟩;have d:(s.heap.push {cls:=.type "dict",data:=.dict #[]}).DictOfH knd s.heap.objs.size []:=Heap.DictOfH.new s.heap;have n:Shared.TypeIs {s with heap:=s.heap.push {cls:=.type "dict",data:=.dict #[]}} (.ref s.heap.objs.size) "dict":=d.typeIs;have g:(s.heap.push {cls:=.type "dict",data:=.dict #[]}).get? l=Z {cls:=.type "list",dict:=Y,data:=.seq xs k,slots:=sl}:=hP1 _ hx;refine⟨n,PySem.F.args_dict_init_2 _ _,?_⟩;unfold Builtin.«dict.__init__»;refine wB1 ?_;unfold Builtin.Dict.selfAndRest;refine wB1 (wpAny_notOrdered_dict n ?_);show dM _ _ (pure (s.heap.objs.size,[Value.ref l])) _ _ _;refine wP1 ?_;show dM _ _ (Builtin.Dict.updateFrom "dict.__init__" s.heap.objs.size (.ref l) [] .none) _ _ _;unfold Builtin.Dict.updateFrom;refine wB1 (wpAny_typeOf (T:="list") ⟨_,g,O⟩ ?_);rw[ak (by decide)];refine wB1 (yK (s:={s with heap:=s.heap.push {cls:=.type "dict",data:=.dict #[]}}) g (by simpa using p) λh1 tk keep=>?_);rw[ak (show(Y:Option dB).isNone=M from rfl)];have a:∀b o,s.heap.get? b=Z o->h1.get? b=Z o:=λb o e=>keep b o (hP1 _ e);have C:h1.IsList l xs:=⟨_,a _ _ hx,O,k,O⟩;refine wB1 (wpAny_rule (wB1 (wpAny_pyIter_list (s:={s with heap:=h1,toks:=tk}) C ?_)));obtain⟨v,es,ep,t,u,y,B,D,z⟩:=d;have r:=keep _ _ t;have m:=hL1 r;have c:h1.get? h1.objs.size=Y:=Heap.get?_none_of_le (nR1 _);refine wB1 (wP1 (wP1 ⟨plainId_quiet jM _,?_⟩));refine i A.in1 _ tk h1.objs.size (by simpa using p) (aW _) (λb o e=>hP1 _ (a b o e)) ?_ (nN1 m) ?_ ?_ _ λs' q=>⟨O,q⟩
 ·cases e:s.heap.get? h1.objs.size with
  |none=>rfl
  |some o=>rw[a _ _ e]at c;cases c
 ·exact⟨_,hS1 _ O,O,O⟩
 ·exact⟨v,es,ep,hP1 _ r,u,y,B,(λx hx=>by cases hx),z⟩
end
noncomputable def Kx(F:List (TK×D)):Ob:=match F with
 |[]=>.dct []
 |_=>.dcT F
def wu:D->Option (TK×D)
 | .tup [k,v]=>(keyT k).map λk=>(k,v)
 |_=>Y
def jl:List D->Option (List (TK×D))
 |[]=>Z []
 |x::xs=>(wu x).bind λp=>(jl xs).map (p :: ·)
def mF(ps:List (TK×D)):List (TK×D):=ps.foldl (λF p=>e6 F p.1 p.2) []
def om:G1:=λd S=>match d7 S d with
 |some (M,xs)=>(jl xs).bind λps=>if xs.length<=100000 then Z (.ref S.length,S++[Kx (mF ps)])else Y
 |_=>Y
section
variable{ag:List (dE×Obj)}{σ:L2.St}{H:Hp}{s:dD}{mu:List dE}
theorem z4(I:Inv X ag σ H s){d:D}{v:V}{u:dB}{p:TK×D}(r:eO X.K H mu d v)(q:d8 v u)(h:wu d=some p):
  ∃w:uK TK,(p.1=w.1/\p.1.dep<=8/\eO X.K H mu (tkD p.1) (.ref w.2.1) /\ ∃v,d8 v w.2.2/\eO X.K H mu p.2 v) /\ ∃g:dE,u = .ref g/\s.heap.IsTuple g #[Value.ref w.2.1,w.2.2]/\(fS X.prog X.w).is s.heap w.1 w.2.1:=by
 unfold wu at h;split at h
 ·rename_i k x;obtain⟨o,m,e⟩:=oM1.mp h;subst e;cases r with
  | @tup _ a vs h1 h2=>
   cases q;obtain⟨t,y,i,_⟩:=I.tuple h1;cases h2 with
   |cons j f=>cases f with
    |cons r2 c=>
     cases c;cases y with
     |cons l f=>cases f with
      |cons z c=>
       cases c;obtain⟨b,rfl,rfl,rk,n,hi⟩:=iY I j l m;exact⟨(o,b,_),⟨O,n,rk,_,z,r2⟩,_,O,i,hi⟩
 ·cases h
theorem pK(I:Inv X ag σ H s):∀ {ds:List D} {vs:List V} {b:List dB} {ps:List (TK×D)},d5 X.K H mu ds vs->eE vs b->jl ds=some ps ->
  ∃ws:List (uK TK),KT X.K H mu ps ws/\ws.length=b.length /\ ∀(i:Nat) (q:uK TK),ws[i]?=Z q -> ∃a:dE,b[i]?=Z (Value.ref a)/\s.heap.IsTuple a #[Value.ref q.2.1,q.2.2]/\(fS X.prog X.w).is s.heap q.1 q.2.1
 |[],_,_,ps,.nil,.nil,h=>by cases h;exact⟨[],.nil,O,λi q h=>by simp at h⟩
 |d::ds,_,_,ps,.cons r t,.cons q c,h=>by
  rw[jl]at h;obtain⟨p,g,h⟩:=oB1.mp h;obtain⟨k,e,h⟩:=oM1.mp h;subst h;obtain⟨w,l,a,n,f,j⟩:=z4 I r q g;obtain⟨ws,h1,h2,m⟩:=pK I t c e;refine⟨w::ws,.cons l h1,by rw[lC1,lC1,h2],λi q h=>?_⟩;cases i with
  |zero=>simp at h;subst h;exact⟨a,by rw[n];rfl,f,j⟩
  |succ i=>exact m i q (by simpa using h)
theorem KT.fold{K:Fg1}:∀{ps:List (TK×D)} {ws:List (uK TK)} {as:List (TK×D)} {bs:List (uK TK)},KT K H mu ps ws->KT K H mu as bs->KT K H mu (ps.foldl (λF p=>e6 F p.1 p.2) as) (ws.foldl (λa q=>storedH a q.1 q.2.1 q.2.2) bs):=by
 intro ps ws as bs h
 induction h generalizing as bs with
 |nil=>exact λg=>g
 | @cons p q ps ws r t ih=>
  intro g;obtain⟨e,c,rk,v,b,r2⟩:=r;rw[b9,b9,<- e];exact ih (g.put c rk b r2)
theorem yo(ps:List (TK×D)):(mF ps).length<=ps.length:=by
 have:∀(ps a:List (TK×D)),(ps.foldl (λF p=>e6 F p.1 p.2) a).length<=a.length+ps.length:=by
  intro ps
  induction ps with
  |nil=>intro a;exact nR1 _
  |cons p ps ih=>
   intro a;rw[b9,lC1];have h1:=ih (e6 a p.1 p.2);have h2:=mz a p.1 p.2;lia
 have:=this ps [];simpa[mF]using this
theorem nR:∀{ds:List D} {ps:List (TK×D)},jl ds=Z ps->ps.length=ds.length
 |[],ps,h=>by cases h;rfl
 |d::ds,ps,h=>by
  rw[jl]at h;obtain⟨p,c,h⟩:=oB1.mp h;obtain⟨a,b,h⟩:=oM1.mp h;subst h;rw[lC1,lC1,nR b]
theorem Du{k:Nat}(hr:fR k X.A):fj X (.type "dict") (rN X.K (b1 om)):=by
 intro ag s σ H xs us Q I r h;obtain⟨x,mu,S,d,r',S',rfl,au,m,c,hc⟩:=BC h;unfold om at c;split at c
 ·rename_i ds en;obtain⟨ps,ep,c⟩:=oB1.mp c;split at c
  ·rename_i hl;cases c;obtain⟨a,vs,rfl,q,t⟩:=ej au m en;obtain⟨u,rfl,r2⟩:=je r;cases r2;obtain⟨C,ao,wq,hz⟩:=I.list q;obtain⟨ws,aq,A,hP⟩:=pK I t ao ep;have l:C.length=ds.length:=by rw[<- ao.length,<- t.length]
   obtain⟨ol,n,N,y,E,f⟩:=wq;obtain⟨oc,od,oa,os⟩:=ol;dsimp only at y E f
   subst y E f
   have hu:=hr.un;refine vE (knd:=fS X.prog X.w) hr.hd N λU h1 tk it am V keep P ne st hD R hR=>?_;have K:ws.length<=100000:=by rw[A,l];exact hl
   have big:ws.length<=dL:=aC K (by decide);refine yv (knd:=fS X.prog X.w) (h0:=s.heap) (its:=C.toArray) (ps:=ws) am (by show U.units+1+8<cLine;lia) (by rw[sT1];exact A.symm) big ⟨_,N,O,n,O⟩ (Heap.get?_none_of_le (nR1 _)) P ne
    (λh k a e z=>⟨z.1.grows e,z.2⟩) (λi q e=>?_) _ 0 _ O (bh _) keep st (by simpa[gI]using hD) λh' B b g=>hR _ ?_
   ·obtain⟨pa,e1,e2,e3⟩:=hP i q e;exact⟨pa,by rw[cj];exact e1,e2,e3⟩
   ·have w:H s.heap.objs.size=none:=I.fresh;have j:KT X.K H mu (mF ps) (gI ws):=KT.fold aq .nil;have v:(s.heap.objs.size == sysModules)=false:=beq_eq_false_iff_ne.mpr (Ne.symm (nN1 I.big));have D:(gI ws).length<=dL:=by
     rw[<- j.length];have h1:=yo ps;have h2:=nR ep;exact aC (by lia:(mF ps).length<=100000) (by decide)
    cases ef:mF ps with
    |nil=>
     rw[ef]at j hc;generalize gI ws=fw at j g D;cases j;obtain⟨o,es,L,T,W,g3,g4,g5,g6⟩:=g;have G:es = #[]:=Array.toList_inj.mp (by simpa using g4);subst G;refine⟨.ref s.heap.objs.size,upd H s.heap.objs.size (.dK []),I.laid (t':=B) (o:=.dK []) b (nR1 _) ⟨bh _,v,[],.nil,o,#[],L,T,W,g3,?_,?_,bn⟩,O,hc _ _ (mu++[s.heap.objs.size]) (Ext.new_ w) (.ref (gf m.len _)) (m.new w ⟨[],d9,.nil⟩)⟩
     ·intro e G;simp at G
     ·exact .nil
    |cons p F=>
     rw[ef]at j hc;refine⟨.ref s.heap.objs.size,upd H s.heap.objs.size (.ext (gG s.heap.objs.size (gI ws))),I.laid (t':=B) b (nR1 _) (rY v g),O,hc _ _ (mu++[s.heap.objs.size]) (Ext.new_ w) (.ref (gf m.len _)) (m.new w ⟨_,d9,j.ext (Ext.new_ w),D⟩)⟩
  ·cases c
 ·cases c
end
section
variable{K:Fg1}{H:Hp}{mu nu:List dE}{a:dE}{h:Nat}
end
section
variable{ag:List (dE×Obj)}{σ:L2.St}{H:Hp}{s:dD}{mu:List dE}{S:Sto}
end
open AutoSeq1 (wpAny_loadPart')
def W{α:Type}(o:Option α)(Q:α->Prop):Prop:=∃x,o=Z x/\Q x
section
variable{α β:Type}{Q:α->Prop}
theorem eG{x:α}:W (Z x) Q↔Q x:=⟨λ⟨_,e,h⟩=>(by cases e;exact h),λh=>⟨x,O,h⟩⟩
theorem kq:W (Y:Option α) Q↔False:=⟨λ⟨_,e,_⟩=>(by cases e),False.elim⟩
theorem d2{o:Option β}{f:β->Option α}:W (o.bind f) Q↔W o λx=>W (f x) Q:=by
 cases o with
 |none=>exact⟨λ⟨_,e,_⟩=>(by cases e),λ⟨_,e,_⟩=>(by cases e)⟩
 |some x=>exact⟨λh=>⟨x,O,h⟩,λ⟨_,e,h⟩=>by cases e;exact h⟩
theorem lD{o:Option β}{f:β->α}:W (o.map f) Q↔W o λx=>Q (f x):=by
 cases o with
 |none=>exact⟨λ⟨_,e,_⟩=>(by cases e),λ⟨_,e,_⟩=>(by cases e)⟩
 |some x=>exact⟨λ⟨_,e,h⟩=>(by cases e;exact⟨x,O,h⟩),λ⟨_,e,h⟩=>(by cases e;exact⟨_,O,h⟩)⟩
theorem uF{c:Prop}[Decidable c]{a b:Option α}:W (if c then a else b) Q↔if c then W a Q else W b Q:=by split<;>exact Iff.rfl
theorem W.mono{o:Option α}{Q':α->Prop}(h:W o Q)(k:∀x,Q x->Q' x):W o Q':=let ⟨x,e,q⟩:=h;⟨x,e,k x q⟩
theorem W.of{o:Option α}{x:α}(e:o=Z x)(h:Q x):W o Q:=⟨x,e,h⟩
end
theorem eF{a b:FS}{r:Ev}{S:Sto}{Q:Fl×Ev×Sto->Prop}(R:Ev->Sto->Prop)(h1:W (a r S) λp=>p.1 = .nx/\R p.2.1 p.2.2)(h2:∀r S,R r S->W (b r S) Q):W (d6 a b r S) Q:=by
 obtain⟨⟨f,g,h⟩,e,d,c⟩:=h1;dsimp only at d c;subst d;unfold d6;rw[e];exact h2 g h c
theorem lW{n:Nat}{b:FS}{ds:List D}{S:Sto}{Q:D×Sto->Prop}(h:W (b (iu n ds) S) fun p=>match p.1 with
  | .rt d=>Q (d,p.2.2)
  | .nx=>Q (.non,p.2.2)
  |_=>False):W (iy n b ds S) Q:=by
 obtain⟨⟨f,a,c⟩,e,q⟩:=h;unfold iy;rw[e];cases f with
 |rt d=>exact⟨_,O,q⟩
 |nx=>exact⟨_,O,q⟩
 |bk=>exact q.elim
 |ct=>exact q.elim
theorem lr{n:Nat}{f:FN}{ds:List D}{S:Sto}{Q:D×Sto->Prop}(hn:ds.length=n)(a:D.unds 0 ds=J)(h:W (f ds S) λp=>Q (gc S.length p)):W (dZ n f ds S) Q:=by
 obtain⟨⟨d,b⟩,e,q⟩:=h;exact⟨_,qi e hn a,q⟩
theorem jz{n:Nat}{f:FN}{ds:List D}{S:Sto}{Q:D×Sto->Prop}(hn:ds.length=n)(c:D.unds 0 ds=M)(h:W (f ds []) λp=>p.1.und 0=M/\Q (p.1,S)):W (dZ n f ds S) Q:=by
 obtain⟨⟨d,g⟩,e,a,b⟩:=h;exact⟨_,yE e hn c a,b⟩
mutual
theorem fU{n:Nat}:∀{d:D},d.und 0=M->d.und n=M
 | .non,_=>rfl
 | .bl _,_=>rfl
 | .int _,_=>rfl
 | .str _,_=>rfl
 | .tup xs,h=>by rw[D.und]at h ⊢;exact iC h
 | .rol xs,h=>by rw[D.und]at h ⊢;exact iC h
 | .fn _,_=>rfl
 | .ref k,h=>by simp[D.und]at h
theorem iC{n:Nat}:∀{ds:List D},D.unds 0 ds=M->D.unds n ds=M
 |[],_=>rfl
 |d::ds,h=>by
  rw[D.unds,bA1]at h ⊢;exact⟨fU h.1,iC h.2⟩
end
theorem xh{n:Nat}{f:FN}{ds:List D}{o:Ob}{T:Sto}{Q:D×Sto->Prop}(hn:ds.length=n)(g:D.unds 0 ds=J)(b:T.all (Ob.und (T.length+1))=M)(h:W (f ds (o::T)) λp=>∃d o' G,p=(d,o'::(T++G))/\d.und 0=M/\o'.und (T.length+1)=M/\Q (d,o'::T)):W (dZ n f ds (o::T)) Q:=by
 refine lr hn g (h.mono ?_);rintro p ⟨d,o',G,rfl,c,a,q⟩;have e:(o'::(T++G)).take (T.length+1)=o'::T:=by simp
 unfold gc;dsimp only[lC1];rw[ak (by rw[e,fU c,bP,a,b];rfl),e];exact q
theorem gi{c:List (Nat×List D)}{g:FG}{b:FS}{Q:Fl×Ev×Sto->Prop}(I:Nat->Ev->Sto->Prop):∀ (items:List D) (k:Nat) (r:Ev) (S:Sto),I k r S ->
  (∀i r S,I i r S->oW S c=M) ->
  (∀i d,items[i]?=Z d -> ∀r S,I (k+i) r S->W (g d r S) λp=>W (b p.1 p.2) λq=>q.1 = .nx/\I (k+i+1) q.2.1 q.2.2) ->
  (∀r S,I (k+items.length) r S->Q (.nx,r,S))->W (i6 c g b items r S) Q
 |[],k,r,S,hi,hok,_,hq=>by rw[i6];dsimp only;rw[ak (hok _ _ _ hi),eG];exact hq r S (by simpa using hi)
 |d::ds,k,r,S,hi,hok,hs,hq=>by
  rw[i6];dsimp only;rw[ak (hok _ _ _ hi),d2];obtain⟨p,o,h1⟩:=hs 0 d O r S (by simpa using hi);refine⟨p,o,?_⟩;dsimp only;rw[d2];obtain⟨⟨f,j,l⟩,h,h2,e⟩:=h1;refine⟨_,h,?_⟩;dsimp only at h2 e ⊢;subst h2;refine gi I ds (k+1) j l (by simpa using e) hok (λi n m r S a=>?_) λr S a=>hq r S (by rw[lC1,show k+(ds.length+1)=k+1+ds.length by lia];exact a);have:=hs (i+1) n (by simpa using m) r S (by rw[show k+(i+1)=k+1+i by lia];exact a);rw[show k+(i+1)+1=k+1+i+1 by lia]at this;exact this
theorem jP{c:List (Nat×List D)}{g:FG}{t:FT}{e:FE}{Q:List D×Ev×Sto->Prop}(I:Nat->List D->Ev->Sto->Prop):∀ (items:List D) (k:Nat) (acc:List D) (r:Ev) (S:Sto),I k acc r S ->
  (∀i acc r S,I i acc r S->oW S c=M) ->
  (∀i d,items[i]?=Z d -> ∀acc r S,I (k+i) acc r S->W (g d r S) λp=>W (t p.1 p.2) λb=>if b.1=M then W (e p.1 b.2) λx=>I (k+i+1) (acc++[x.1]) p.1 x.2 else I (k+i+1) acc p.1 b.2) ->
  (∀xs r S,I (k+items.length) (acc++xs) r S->Q (xs,r,S))->W (fX c g t (eJ e) items r S) Q
 |[],k,acc,r,S,hi,hok,_,hq=>by rw[fX];dsimp only;rw[ak (hok _ _ _ _ hi),eG];exact hq [] r S (by simpa using hi)
 |d::ds,k,acc,r,S,hi,hok,hs,hq=>by
  rw[fX];dsimp only;rw[ak (hok _ _ _ _ hi),d2];obtain⟨p,q,h1⟩:=hs 0 d O acc r S (by simpa using hi);refine⟨p,q,?_⟩;dsimp only;rw[d2];obtain⟨⟨b,l⟩,j,h2⟩:=h1;refine⟨_,j,?_⟩;have step:∀i f,ds[i]?=Z f -> ∀acc r S,I (k+1+i) acc r S->W (g f r S) λp=>W (t p.1 p.2) λb=>if b.1=M then W (e p.1 b.2) λx=>I (k+1+i+1) (acc++[x.1]) p.1 x.2 else I (k+1+i+1) acc p.1 b.2:=λi f m acc r S a=>by
   have:=hs (i+1) f (by simpa using m) acc r S (by rw[show k+(i+1)=k+1+i by lia];exact a);rw[show k+(i+1)+1=k+1+i+1 by lia]at this;exact this
  dsimp only at h2 ⊢;cases b with
  |true=>
   rw[ak O]at h2 ⊢;rw[d2,eJ,lD];obtain⟨⟨x,o⟩,n,h⟩:=h2;refine⟨_,n,?_⟩;dsimp only at h ⊢;rw[lD];refine jP I ds (k+1) (acc++[x]) p.1 o (by simpa using h) hok step λxs r S a=>?_;refine hq _ r S ?_;rw[lC1,show k+(ds.length+1)=k+1+ds.length by lia];simpa using a
  |false=>
   rw[aj (by decide)]at h2 ⊢;refine jP I ds (k+1) acc p.1 l (by simpa using h2) hok step λxs r S a=>?_;refine hq _ r S ?_;rw[lC1,show k+(ds.length+1)=k+1+ds.length by lia];exact a
theorem Ej{S:Sto}{b:Bool}:uX S (.bl b)=Z b:=rfl
theorem IM{S:Sto}:uX S .non=Z J:=rfl
theorem IN{S:Sto}{i:Int}:uX S (.int i)=Z (i != 0):=rfl
theorem Dg{x y:Int}{S:Sto}:m9 (.int x) (.int y) S=Z (.bl (x == y),S):=rfl
theorem IZ{x y:Int}{S:Sto}:I0 (.int x) (.int y) S=Z (.bl (!(x == y)),S):=rfl
theorem Dc{x y:Int}{S:Sto}:yT (.int x) (.int y) S=Z (.bl (decide (x<y)),S):=rfl
theorem Df{x y:Str}{S:Sto}:m9 (.str x) (.str y) S=Z (.bl (x == y),S):=rfl
theorem Db{x y:Str}{S:Sto}:I0 (.str x) (.str y) S=Z (.bl (!(x == y)),S):=rfl
theorem ite_and'{c p:Prop}[Decidable c]:(if c then p else False)↔c/\p:=by split<;>simp[*]
noncomputable def yW(j:Int):Bool:=decide (-(2^62)<=j)&&decide (j<2^62)
theorem fQ{n:Nat}(h:n<2^60):yW n=M:=by
 unfold yW;rw[bA1,al,al];lia
theorem Gx{j:Int}(h: -(2^60)<=j)(h':j<2^60):yW j=M:=by
 unfold yW;rw[bA1,al,al];lia
def Hh(p:List D×Sto)(Q:Bx×Sto->Prop):Prop:=match p.1 with
 |[.int j]=>yW j=M/\Q (⟨gY 0 j.toNat,[]⟩,p.2)
 |_=>False
def IS(p:List D×Sto)(Q:Bx×Sto->Prop):Prop:=match p.1 with
 |[.int i,.int j]=>yW i=M/\yW j=M/\Q (⟨gY i (j-i).toNat,[]⟩,p.2)
 |_=>False
theorem xt{m:FA}{r:Ev}{S:Sto}{Q:Bx×Sto->Prop}:W (t5 m r S) Q↔W (m r S) λp=>Hh p Q:=by
 unfold t5;rw[d2];constructor
 ·refine λh=>h.mono λp q=>?_;unfold Hh;split at q
  ·rename_i j e
   try rw[e]
   rw[uF]at q;split at q
   ·rename_i hc;exact⟨by unfold yW;rw[bA1,al,al];exact hc,eG.mp q⟩
   ·exact(kq.mp q).elim
  ·exact(kq.mp q).elim
 ·refine λh=>h.mono λp q=>?_;unfold Hh at q;split at q
  ·rename_i j e;obtain⟨a,b⟩:=q;unfold yW at a;rw[bA1,al,al]at a
   try rw[e]
   try dsimp only
   rw[ak a];exact eG.mpr b
  ·exact q.elim
theorem IB{m:FA}{r:Ev}{S:Sto}{Q:Bx×Sto->Prop}:W (HX m r S) Q↔W (m r S) λp=>IS p Q:=by
 unfold HX;rw[d2];constructor
 ·refine λh=>h.mono λp q=>?_;unfold IS;split at q
  ·rename_i i j e
   try rw[e]
   rw[uF]at q;split at q
   ·rename_i hc;refine⟨?_,?_,eG.mp q⟩
    ·unfold yW;rw[bA1,al,al];exact⟨hc.1,hc.2.1⟩
    ·unfold yW;rw[bA1,al,al];exact hc.2.2
   ·exact(kq.mp q).elim
  ·exact(kq.mp q).elim
 ·refine λh=>h.mono λp q=>?_;unfold IS at q;split at q
  ·rename_i i j e;obtain⟨a,b,c⟩:=q;unfold yW at a b;rw[bA1,al,al]at a b
   try rw[e]
   try dsimp only
   rw[ak ⟨a.1,a.2,b⟩];exact eG.mpr c
  ·exact q.elim
noncomputable def fits(n:Nat):Bool:=decide (n<=dL)
theorem ee{n:Nat}(h:n<=100000):fits n=M:=by unfold fits;rw[al];exact aC h (by decide)
theorem ud{n:Nat}:fits n=M↔n<=dL:=by unfold fits;rw[al]
theorem Lo:fits 0=M:=ee (by decide)
theorem Ln:fits 1=M:=ee (by decide)
theorem Kw:fits 2=M:=ee (by decide)
theorem Ll:fits 3=M:=ee (by decide)
theorem Lk:fits 4=M:=ee (by decide)
theorem Lj:fits 5=M:=ee (by decide)
theorem Lv:fits 6=M:=ee (by decide)
theorem Li:fits 7=M:=ee (by decide)
theorem Lu:fits 8=M:=ee (by decide)
theorem iA{α:Type}{n:Nat}{o:Option α}{Q:α->Prop}:W (if n<=dL then o else Y) Q↔fits n=M/\W o Q:=by
 rw[ud,uF];split
 ·rename_i h;exact⟨λq=>⟨h,q⟩,λq=>q.2⟩
 ·rename_i h;exact⟨λq=>(kq.mp q).elim,λq=>absurd q.1 h⟩
theorem Br{a:FA}{r:Ev}{S:Sto}{Q:D×Sto->Prop}:W (eD a r S) Q↔W (a r S) λp=>fits p.1.length=M/\Q (.tup p.1,p.2):=by
 unfold eD;rw[d2];exact⟨λh=>h.mono λp q=>(iA.mp q).imp_right eG.mp,λh=>h.mono λp q=>iA.mpr (q.imp_right eG.mpr)⟩
theorem GC{a:FA}{r:Ev}{S:Sto}{Q:D×Sto->Prop}:W (kg a r S) Q↔W (a r S) λp=>fits p.1.length=M/\Q (.ref p.2.length,p.2++[.lst p.1]):=by
 unfold kg;rw[d2];exact⟨λh=>h.mono λp q=>(iA.mp q).imp_right eG.mp,λh=>h.mono λp q=>iA.mpr (q.imp_right eG.mpr)⟩
theorem lE{k:Nat}{keep:List Nat}{m:FI}{g:FG}{t:FT}{b:FV}{r:Ev}{S:Sto}{Q:D×Sto->Prop}:W (eQ k keep m g t b r S) Q↔W (m r S) λp=>W (fX p.1.chk g t b p.1.items (oZ k keep r) p.2) λq=>fits q.1.length=M/\Q (.ref q.2.2.length,q.2.2++[.lst q.1]):=by
 unfold eQ;rw[d2];refine⟨λh=>h.mono λp q=>?_,λh=>h.mono λp q=>?_⟩
 ·rw[d2]at q;exact q.mono λz w=>(iA.mp w).imp_right eG.mp
 ·rw[d2];exact q.mono λz w=>iA.mpr (w.imp_right eG.mpr)
theorem Kb{xs ys:List D}{S:Sto}{Q:D×Sto->Prop}:W (fA (.tup xs) (.tup ys) S) Q↔fits (xs.length+ys.length)=M/\Q (.tup (xs++ys),S):=
 ⟨λq=>(iA.mp q).imp_right eG.mp,λq=>iA.mpr (q.imp_right eG.mpr)⟩
theorem GH{x y:Int}{S:Sto}{Q:D×Sto->Prop}:W (fA (.int x) (.int y) S) Q↔Q (.int (x+y),S):=eG
theorem Bv{a b:Nat}{xs ys:List D}{S:Sto}{Q:D×Sto->Prop}(h1:S[a]?=Z (.lst xs))(h2:S[b]?=Z (.lst ys)):W (fA (.ref a) (.ref b) S) Q↔fits (xs.length+ys.length)=M/\Q (.ref S.length,S++[.lst (xs++ys)]):=by
 rw[fA];simp only[h1,h2];exact⟨λq=>(iA.mp q).imp_right eG.mp,λq=>iA.mpr (q.imp_right eG.mpr)⟩
theorem oM{n:Nat}{v:D}{xs:List D}{S:Sto}{Q:D×Sto->Prop}(h:S[n]?=Z (.lst xs)):W (kl (.ref n) v S) Q↔fits (xs.length+1)=M/\Q (.non,S.set n (.lst (xs++[v]))):=by
 rw[kl];simp only[h];rw[uF,ud];split
 ·rename_i a;exact⟨λq=>⟨a,eG.mp q⟩,λq=>eG.mpr q.2⟩
 ·rename_i a;exact⟨λq=>(kq.mp q).elim,λq=>absurd q.1 a⟩
theorem i9{n:Nat}{i:Nat}{xs:List D}{x:D}{S:Sto}{Q:D×Sto->Prop}(h:S[n]?=Z (.lst xs))(hx:xs[i]?=Z x)(q:Q (x,S)):W (dX (.ref n) (.int i) S) Q:=by
 refine W.of (x:=(x,S)) ?_ q;have a:=(gE1.mp hx).1;simp only[dX,mR,BH,h,d7,vF,x4,oS1,ak (show(0:Int)<=i by lia)];rw[ak (by lia)];simp[hx]
theorem gC{i:Nat}{xs:List D}{x:D}{S:Sto}{Q:D×Sto->Prop}(hx:xs[i]?=Z x)(q:Q (x,S)):W (dX (.tup xs) (.int i) S) Q:=by
 refine W.of (x:=(x,S)) ?_ q;have a:=(gE1.mp hx).1;simp only[dX,mR,BH,d7,vF,x4,oS1,ak (show(0:Int)<=i by lia)];rw[ak (by lia)];simp[hx]
theorem K9:aO 0 (Y:Option D)=[]:=rfl
theorem K8:aO 1 (Y:Option D)=[Y]:=rfl
theorem KX:aO 2 (Y:Option D)=[Y,Y]:=rfl
theorem KU:aO 3 (Y:Option D)=[Y,Y,Y]:=rfl
theorem Ls:aO 4 (Y:Option D)=[Y,Y,Y,Y]:=rfl
theorem KS:aO 5 (Y:Option D)=[Y,Y,Y,Y,Y]:=rfl
theorem Lr:aO 6 (Y:Option D)=[Y,Y,Y,Y,Y,Y]:=rfl
theorem KQ:aO 7 (Y:Option D)=[Y,Y,Y,Y,Y,Y,Y]:=rfl
theorem KP:aO 8 (Y:Option D)=[Y,Y,Y,Y,Y,Y,Y,Y]:=rfl
theorem KO:aO 9 (Y:Option D)=[Y,Y,Y,Y,Y,Y,Y,Y,Y]:=rfl
theorem JB:aO 10 (Y:Option D)=[Y,Y,Y,Y,Y,Y,Y,Y,Y,Y]:=rfl
theorem K7:aO 11 (Y:Option D)=[Y,Y,Y,Y,Y,Y,Y,Y,Y,Y,Y]:=rfl
theorem K6:aO 12 (Y:Option D)=[Y,Y,Y,Y,Y,Y,Y,Y,Y,Y,Y,Y]:=rfl
theorem K5:aO 13 (Y:Option D)=[Y,Y,Y,Y,Y,Y,Y,Y,Y,Y,Y,Y,Y]:=rfl
theorem K4:aO 14 (Y:Option D)=[Y,Y,Y,Y,Y,Y,Y,Y,Y,Y,Y,Y,Y,Y]:=rfl
theorem K3:aO 15 (Y:Option D)=[Y,Y,Y,Y,Y,Y,Y,Y,Y,Y,Y,Y,Y,Y,Y]:=rfl
theorem K2:aO 16 (Y:Option D)=[Y,Y,Y,Y,Y,Y,Y,Y,Y,Y,Y,Y,Y,Y,Y,Y]:=rfl
theorem K1:aO 17 (Y:Option D)=[Y,Y,Y,Y,Y,Y,Y,Y,Y,Y,Y,Y,Y,Y,Y,Y,Y]:=rfl
theorem KZ:aO 18 (Y:Option D)=[Y,Y,Y,Y,Y,Y,Y,Y,Y,Y,Y,Y,Y,Y,Y,Y,Y,Y]:=rfl
theorem KY:aO 19 (Y:Option D)=[Y,Y,Y,Y,Y,Y,Y,Y,Y,Y,Y,Y,Y,Y,Y,Y,Y,Y,Y]:=rfl
theorem KW:aO 20 (Y:Option D)=[Y,Y,Y,Y,Y,Y,Y,Y,Y,Y,Y,Y,Y,Y,Y,Y,Y,Y,Y,Y]:=rfl
theorem im{α:Type}{T G:List α}{k:Nat}:(T++G)[T.length+k]?=G[k]?:=by rw[gR1 (by lia)];congr 1;lia
theorem et{α:Type}{T G:List α}:(T++G)[T.length]?=G[0]?:=by rw[gR1 (by lia)];congr 1;lia
mutual
noncomputable def BB:D->Bool
 | .non=>M
 | .bl _=>M
 | .int i=>decide (i.natAbs<10^6)
 | .str x=>(PyData.str x).leavesShort 13&&decide ((PyData.str x).weight<=20)
 | .tup xs=>oR xs
 | .rol _=>J
 | .fn _=>J
 | .ref _=>J
noncomputable def oR:List D->Bool
 |[]=>M
 |d::ds=>BB d&&oR ds
end
mutual
noncomputable def mT:D->Nat
 | .tup xs=>ka xs
 | .non=>0 | .bl _=>0 | .int _=>0 | .str _=>0 | .rol _=>0 | .fn _=>0 | .ref _=>0
noncomputable def ka:List D->Nat
 |[]=>0
 |d::ds=>mT d+1+ka ds
end
mutual
noncomputable def yV:D->Nat
 | .tup xs=>oz xs+1
 | .non=>0 | .bl _=>0 | .int _=>0 | .str _=>0 | .rol _=>0 | .fn _=>0 | .ref _=>0
noncomputable def oz:List D->Nat
 |[]=>0
 |d::ds=>max (yV d) (oz ds)
end
mutual
theorem Hc:∀{d:D},BB d=M -> ∃p,pyD d=Z p/\p.showable=M/\p.leavesShort 13=M/\p.weight+1<=21*(mT d+1)/\p.depth=yV d
 | .non,_=>⟨.none,by simp only[pyD],by simp only[PyData.showable],by simp only[PyData.leavesShort],by simp only[PyData.weight,mT];lia,by simp only[PyData.depth,yV]⟩
 | .bl b,_=>⟨.bool b,by simp only[pyD],by simp only[PyData.showable],by simp only[PyData.leavesShort],by simp only[PyData.weight,mT];lia,by simp only[PyData.depth,yV]⟩
 | .int i,h=>by
  have h':i.natAbs<10^6:=by simpa only[BB,al]using h
  have c:i.natAbs.log2<20:=by
   by_cases z:i.natAbs=0
   ·rw[z];decide
   ·exact(Nat.log2_lt z).mpr (by lia)
  refine⟨.int i,by simp only[pyD],by simp only[PyData.showable,al];lia,?_,?_,by simp only[PyData.depth,yV]⟩
  ·simp only[PyData.leavesShort,al];exact PyData.shown_int_le (by lia)
  ·simp only[PyData.weight,mT];split<;>lia
 | .str x,h=>by
  have h':(PyData.str x).leavesShort 13=M/\(PyData.str x).weight<=20:=by simpa only[BB,bA1,al]using h
  exact⟨.str x,by simp only[pyD],by simp only[PyData.showable],h'.1,by simp only[mT];have:=h'.2;lia,by simp only[PyData.depth,yV]⟩
 | .tup xs,h=>by
  obtain⟨ps,e,h1,h2,f,a⟩:=u5 (ds:=xs) (by simpa only[BB]using h);exact⟨.tuple ps,by simp only[pyD,e,oP1],by simpa only[PyData.showable]using h1,by simpa only[PyData.leavesShort]using h2,by simp only[PyData.weight,mT];lia,by simp only[PyData.depth,yV,a]⟩
 | .rol _,h=>by simp only[BB]at h;cases h
 | .fn _,h=>by simp only[BB]at h;cases h
 | .ref _,h=>by simp only[BB]at h;cases h
theorem u5:∀{ds:List D},oR ds=M -> ∃ps,pyDs ds=Z ps/\PyData.showableAll ps=M/\PyData.leavesShortAll 13 ps=M/\PyData.weightAll ps<=21*ka ds/\PyData.depthAll ps=oz ds
 |[],_=>⟨[],by simp only[pyDs],by simp only[PyData.showableAll],by simp only[PyData.leavesShortAll],by simp only[PyData.weightAll];lia,by simp only[PyData.depthAll,oz]⟩
 |d::ds,h=>by
  simp only[oR,bA1]at h;obtain⟨p,e,h1,h2,j,i⟩:=Hc h.1;obtain⟨ps,g,b,a,f,c⟩:=u5 h.2;refine⟨p::ps,by simp only[pyDs,e,g,oS1,oP1],by simp only[PyData.showableAll,h1,b,Bool.and_self],by simp only[PyData.leavesShortAll,h2,a,Bool.and_self],?_,by simp only[PyData.depthAll,oz,i,c]⟩;simp only[PyData.weightAll,ka];lia
end
theorem kP{xs:List D}(h:oR xs=M)(hc:ka xs<=40000)(hd:oz xs<=50):∃t,∀S,iL (.tup xs) S=Z (.str t,S):=by
 obtain⟨ps,e,h1,h2,c,b⟩:=u5 h;refine⟨(PyData.tuple ps).shown,λS=>?_⟩;have a:(PyData.tuple ps).showable=M/\(PyData.tuple ps).shown.length<=dL/\(PyData.tuple ps).depth<=60:=
  ⟨by simpa only[PyData.showable]using h1,PyData.shown_fits (B:=13) (by decide) (by decide) (by simpa only[PyData.leavesShort]using h2) (by simp only[PyData.weight];lia),by simp only[PyData.depth];lia⟩
 simp only[iL,e,oS1,ak a]
theorem rr:∀(n:Nat) (lo:Int),gY lo n=(af n).map λi:Nat=>D.int (lo+i)
 |0,lo=>rfl
 |n+1,lo=>by
  rw[gY,rr n (lo+1),List.range_succ_eq_map,mP1,bt]
  congr 1
  ·simp
  ·apply db;intro i _;simp only[Function.comp_apply,Nat.succ_eq_add_one]
   congr 1
   push_cast
   lia
theorem j6(n:Nat):gY 0 n=(af n).map λi:Nat=>D.int i:=by
 rw[rr];apply db;intro i _;simp
theorem nV{α:Type}{c:List (Nat×List D)}{g:FG}{t:FT}{e:FE}{S:Sto}{f:α->D}{Q:List D×Ev×Sto->Prop}(F:α->D)(P:Ev->Prop)(d:oW S c=true):∀ (xs:List α) (r:Ev),P r ->
  (∀a∈xs,∀r,P r->W (g (f a) r S) λp=>W (t p.1 p.2) λb=>b.1=M/\W (e p.1 b.2) λx=>x.1=F a/\x.2=S/\P p.1) ->
  (∀i,P i->Q (xs.map F,i,S))->W (fX c g t (eJ e) (xs.map f) r S) Q
 |[],r,hr,_,h=>by rw[aY,fX];dsimp only;rw[ak d,eG];exact h r hr
 |a::xs,r,hr,hs,h=>by
  rw[mP1,fX];dsimp only;rw[ak d,d2];obtain⟨p,u,⟨b,m,n,⟨x,s,o,l,q⟩⟩⟩:=hs a mS1 r hr;refine⟨p,u,?_⟩;dsimp only;rw[d2];refine⟨b,m,?_⟩;dsimp only;rw[ak n,d2,eJ,lD];refine⟨x,s,?_⟩;dsimp only;rw[l,lD];refine nV F P d xs p.1 q (λa k=>hs a (mC1 _ k)) λi j=>?_;have:=h i j;rw[mP1,<- o]at this;exact this
theorem io{α:Type}{c:List (Nat×List D)}{g:FG}{t:FT}{e:FE}{S:Sto}{f:α->D}{Q:List D×Ev×Sto->Prop}(k:α->Bool)(F:α->D)(P:Ev->Prop)(d:oW S c=true):∀ (xs:List α) (r:Ev),P r ->
  (∀a∈xs,∀r,P r->W (g (f a) r S) λp=>W (t p.1 p.2) λb=>b.1=k a/\b.2=S/\P p.1/\(k a=M->W (e p.1 S) λx=>x.1=F a/\x.2=S)) ->
  (∀j,P j->Q ((xs.filter k).map F,j,S))->W (fX c g t (eJ e) (xs.map f) r S) Q
 |[],r,hr,_,h=>by rw[aY,fX];dsimp only;rw[ak d,eG];exact h r hr
 |a::xs,r,hr,hs,h=>by
  rw[mP1,fX];dsimp only;rw[ak d,d2];obtain⟨p,w,⟨b,u,q,o,s,m⟩⟩:=hs a mS1 r hr;refine⟨p,w,?_⟩;dsimp only;rw[d2];refine⟨b,u,?_⟩;dsimp only;cases hk:k a with
  |true=>
   rw[q,hk,ak O,d2,eJ,lD,o];obtain⟨x,v,m,n⟩:=m hk;refine⟨x,v,?_⟩;dsimp only;rw[n,lD];refine io k F P d xs p.1 s (λa l=>hs a (mC1 _ l)) λj i=>?_;have:=h j i;rw[de,hk,ak O,mP1,<- m]at this;exact this
  |false=>
   rw[q,hk,aj (by decide),o];refine io k F P d xs p.1 s (λa l=>hs a (mC1 _ l)) λj i=>?_;have:=h j i;rw[de,hk,aj (by decide)]at this;exact this
theorem uC{α:Type}{f:α->Bool}:∀xs:List α,Mi.Bq (xs.map λx=>D.bl (f x))=Z (xs.all f)
 |[]=>rfl
 |x::xs=>by rw[mP1,Mi.Bq,uC xs];rfl
mutual
theorem Ed{n m:Nat}(h:n<=m):∀{d:D},d.und n=M->d.und m=M
 | .non,_=>rfl
 | .bl _,_=>rfl
 | .int _,_=>rfl
 | .str _,_=>rfl
 | .tup xs,q=>by rw[D.und]at q ⊢;exact iP h q
 | .rol xs,q=>by rw[D.und]at q ⊢;exact iP h q
 | .fn _,_=>rfl
 | .ref k,q=>by simp[D.und]at q ⊢;lia
theorem iP{n m:Nat}(h:n<=m):∀{ds:List D},D.unds n ds=M->D.unds m ds=M
 |[],_=>rfl
 |d::ds,q=>by
  rw[D.unds,bA1]at q ⊢;exact⟨Ed h q.1,iP h q.2⟩
end
theorem kX{n m:Nat}(h:n<=m):∀{o:Ob},o.und n=M->o.und m=M
 | .lst xs,q=>by rw[Ob.und]at q ⊢;exact iP h q
 | .dct xs,q=>by rw[Ob.und]at q ⊢;exact iP h q
 | .dcT xs,q=>by rw[Ob.und]at q ⊢;exact iP h q
 | .dcF xs,q=>by rw[Ob.und]at q ⊢;exact iP h q
 | .iset _,_=>rfl
 | .tst _,_=>rfl
theorem GD{n:Nat}{xs:List Int}{S:Sto}{Q:D×Sto->Prop}(h:S[n]?=Z (.iset xs))(q:Q (.int xs.length,S)):W (oi (.ref n) S) Q:=by
 refine W.of ?_ q;unfold oi;simp only[h]
theorem fb{α:Type}{n:Nat}{f:α->D}:∀{xs:List α},(∀x∈xs,(f x).und n=M)->D.unds n (xs.map f)=M
 |[],_=>rfl
 |x::xs,h=>by rw[mP1,D.unds,h x mS1,fb λy a=>h y (mC1 _ a)];rfl
theorem Lq{x:Nat}:x+1+1=x+2:=rfl
theorem LB{x:Nat}:x+2+1=x+3:=rfl
theorem LA{x:Nat}:x+3+1=x+4:=rfl
theorem Lz{x:Nat}:x+4+1=x+5:=rfl
theorem Ly{x:Nat}:x+5+1=x+6:=rfl
theorem Lx{x:Nat}:x+6+1=x+7:=rfl
theorem Lp{x:Nat}:x+1+2=x+3:=rfl
theorem gP{xs:List D}{S:Sto}:eU (.tup xs) S=Z (.int xs.length,S):=rfl
theorem IY{xs:List D}{S:Sto}:eU (.rol xs) S=Z (.int xs.length,S):=rfl
theorem HP{S:Sto}:eU (.str "") S=Z (.int 0,S):=rfl
theorem v7{xs:List D}{S:Sto}:d7 S (.tup xs)=Z (J,xs):=rfl
theorem IR{xs:List D}{S:Sto}:d7 S (.rol xs)=Z (M,xs):=rfl
theorem xf{xs:List D}{S:Sto}:jy S (.tup xs)=[]:=rfl
theorem Jb{xs:List D}{S:Sto}:jy S (.rol xs)=[]:=rfl
theorem gL{n:Nat}{xs:List D}{S:Sto}(h:S[n]?=Z (.lst xs)):d7 S (.ref n)=Z (M,xs):=by simp only[d7,h]
theorem xg{n:Nat}{xs:List D}{S:Sto}(h:S[n]?=Z (.lst xs)):jy S (.ref n)=[(n,xs)]:=by simp only[jy,h]
def sW(S:Sto)(d:D)(Q:List D×List (Nat×List D)->Prop):Prop:=W (d7 S d) λq=>Q (q.2,jy S d)
theorem gW{xs:List D}{S:Sto}{Q:List D×List (Nat×List D)->Prop}:sW S (.tup xs) Q↔Q (xs,[]):=eG
theorem eK{n:Nat}{xs:List D}{S:Sto}{Q:List D×List (Nat×List D)->Prop}(h:S[n]?=Z (.lst xs))(q:Q (xs,[(n,xs)])):sW S (.ref n) Q:=by
 unfold sW;rw[gL h,xg h,eG];exact q
theorem GG{m:FE}{r:Ev}{S:Sto}{Q:Bx×Sto->Prop}:W (hK m r S) Q↔W (m r S) λp=>sW p.2 p.1 λq=>Q (⟨q.1,q.2⟩,p.2):=by
 unfold hK;rw[d2];refine⟨λh=>h.mono λp q=>?_,λh=>h.mono λp q=>?_⟩
 ·rw[d2]at q;exact q.mono λz w=>eG.mp w
 ·rw[d2];exact W.mono (show W (d7 p.2 p.1) _ from q) λz w=>eG.mpr w
theorem Bt{d:D}{S:Sto}{Q:D×Sto->Prop}:W (Mi.gTup d S) Q↔sW S d λq=>Q (.tup q.1,S):=by
 unfold Mi.gTup;rw[lD];exact Iff.rfl
theorem IA{n:Nat}{S:Sto}{Q:D×Sto->Prop}:W (eU (.ref n) S) Q↔sW S (.ref n) λq=>Q (.int q.1.length,S):=by
 unfold eU sW;rw[lD]
theorem zf9:(fits 0=M)∧(fits 1=M)∧(fits 2=M)∧(fits 3=M)∧(fits 4=M)∧(fits 5=M)∧(fits 7=M):=⟨Lo,Ln,Kw,Ll,Lk,Lj,Li⟩
theorem zr9:(∀ {x y:Str}{S:Sto},m9 (.str x) (.str y) S=Z (.bl (x == y),S))∧(∀ {x y:Str}{S:Sto},I0 (.str x) (.str y) S=Z (.bl (!(x == y)),S))∧(aO 0 (Y:Option D)=[])∧(aO 2 (Y:Option D)=[Y,Y])∧(aO 3 (Y:Option D)=[Y,Y,Y])∧(aO 5 (Y:Option D)=[Y,Y,Y,Y,Y])∧(aO 7 (Y:Option D)=[Y,Y,Y,Y,Y,Y,Y])∧(aO 8 (Y:Option D)=[Y,Y,Y,Y,Y,Y,Y,Y])∧(aO 9 (Y:Option D)=[Y,Y,Y,Y,Y,Y,Y,Y,Y])∧(aO 10 (Y:Option D)=[Y,Y,Y,Y,Y,Y,Y,Y,Y,Y]):=⟨Df,Db,K9,KX,KU,KS,KQ,KP,KO,JB⟩
theorem zi9:(∀ {a:FA}{r:Ev}{S:Sto}{Q:D×Sto->Prop},W (kg a r S) Q↔W (a r S) λp=>fits p.1.length=M/\Q (.ref p.2.length,p.2++[.lst p.1]))∧(∀ {k:Nat}{keep:List Nat}{m:FI}{g:FG}{t:FT}{b:FV}{r:Ev}{S:Sto}{Q:D×Sto->Prop},W (eQ k keep m g t b r S) Q↔W (m r S) λp=>W (fX p.1.chk g t b p.1.items (oZ k keep r) p.2) λq=>fits q.1.length=M/\Q (.ref q.2.2.length,q.2.2++[.lst q.1]))∧(∀ {m:FA}{r:Ev}{S:Sto}{Q:Bx×Sto->Prop},W (t5 m r S) Q↔W (m r S) λp=>Hh p Q)∧(∀ {m:FA}{r:Ev}{S:Sto}{Q:Bx×Sto->Prop},W (HX m r S) Q↔W (m r S) λp=>IS p Q)∧(∀ {x y:Int}{S:Sto}{Q:D×Sto->Prop},W (fA (.int x) (.int y) S) Q↔Q (.int (x+y),S))∧(∀ {m:FE}{r:Ev}{S:Sto}{Q:Bx×Sto->Prop},W (hK m r S) Q↔W (m r S) λp=>sW p.2 p.1 λq=>Q (⟨q.1,q.2⟩,p.2))∧(∀ {d:D}{S:Sto}{Q:D×Sto->Prop},W (Mi.gTup d S) Q↔sW S d λq=>Q (.tup q.1,S))∧(∀ {n:Nat}{S:Sto}{Q:D×Sto->Prop},W (eU (.ref n) S) Q↔sW S (.ref n) λq=>Q (.int q.1.length,S)):=⟨GC,lE,xt,IB,GH,GG,Bt,IA⟩
noncomputable def pD(e:Nat×Nat):D:=.tup [.int e.1,.int e.2]
theorem Gh{S:Sto}{n:Nat}{a b:Nat×Nat}:ga S (n+2) (pD a) (pD b)=Z (a == b):=by
 obtain⟨a1,a2⟩:=a;obtain⟨b1,b2⟩:=b;rw[ga];have c:∀x y:Nat,ga S (n+1) (.int x) (.int y)=Z ((x:Int) == (y:Int)):=λx y=>rfl;have d:∀x y:Nat,((x:Int) == (y:Int))=(x == y):=λx y=>by
  rw[bQ,beq_iff_eq,beq_iff_eq];lia
 simp[pD,d7,jS,c,d];rfl
theorem wZ{S:Sto}{n:Nat}{e:Nat×Nat}:∀b:List (Nat×Nat),ug (ga S (n+2)) (pD e) (b.map pD)=Z (b.map λa=>a == e)
 |[]=>rfl
 |a::b=>by rw[mP1,ug,Gh,wZ b];rfl
theorem GF{S:Sto}{n j:Nat}{row:List (Nat×Nat)}{e:Nat×Nat}{Q:D×Sto->Prop}(h:S[n]?=Z (.lst (row.map pD)))(b:row.length<1000)(a:row.findIdx? (· == e)=Z j)(q:Q (.int j,S)):W (ub (.ref n) (pD e) S) Q:=by
 refine W.of ?_ q;unfold ub eM;simp only[h,show(60:Nat)=58+2 from rfl,wZ,oS1,lM1];rw[ak (by lia),List.findIdx?_map];simp[Function.comp_def,a]
theorem D4{S:Sto}{n k:Nat}{xs:List D}{v:D}{Q:D×Sto->Prop}(h:S[n]?=Z (.lst xs))(hk:k<=xs.length)(a:xs.length<1000)(q:Q (.non,S.set n (.lst (xs.take k++v::xs.drop k)))):W (ym (.ref n) (.int k) v S) Q:=by
 refine W.of ?_ q;have hi:rM xs.length k=k:=by
  unfold rM;rw[aj (by lia),Int.toNat_natCast];lia
 have b:xs.length<dL:=nL1 a (by decide);simp only[ym,h,hi];rw[ak ⟨by lia,by lia,b⟩]
theorem i8{f:FN}{o:FE}{a:FA}{r:Ev}{S:Sto}{Q:D×Sto->Prop}(h:W (o r S) λp=>∃n xs,p.1 = .ref n/\p.2[n]?=Z (.lst xs)/\W (a r p.2) λq=>W (f (.ref n::q.1) q.2) Q):W (pP f o a r S) Q:=by
 unfold pP;rw[d2];refine h.mono ?_;rintro⟨d,b⟩ ⟨n,xs,rfl,e,q⟩;dsimp only at e q ⊢;rw[e];dsimp only;rw[d2];exact q
def sT(row:List (Nat×Nat)):Ob:=.lst (row.map pD)
structure WS (t m:Nat)(T:Sto)(E:List (List (Nat×Nat)))(P:List (Nat×Nat))(U:Sto):Prop where
 tl:T.length=t
 low:U.take t=T
 el:E.length=m
 row:∀i row,E[i]?=some row->U[t+i]?=some (sT row)
 ends:U[t+m]?=some (.lst (ke (t+1) m))
 prs:U[t+m+1]?=some (.lst (P.map pD))
theorem WS.app{t m:Nat}{T:Sto}{E:List (List (Nat×Nat))}{P:List (Nat×Nat)}{U G:Sto}(w:WS t m T E P U):WS t m T E P (U++G):=by
 have b:t+m+1<U.length:=(gE1.mp w.prs).1;refine⟨w.tl,?_,w.el,λi a h=>?_,?_,?_⟩
 ·rw[List.take_append_of_le_length (by omega)];exact w.low
 ·have:=w.row i a h;rw[gL1 (gE1.mp this).1];exact this
 ·rw[gL1 (by omega)];exact w.ends
 ·rw[gL1 (by omega)];exact w.prs
theorem WS.setRow{t m i:Nat}{T:Sto}{E:List (List (Nat×Nat))}{P:List (Nat×Nat)}{U:Sto}{row:List (Nat×Nat)}(w:WS t m T E P U)(hi:i<m):WS t m T (E.set i row) P (U.set (t+i) (sT row)):=by
 have b:t+m+1<U.length:=(gE1.mp w.prs).1;refine⟨w.tl,?_,by rw[aV];exact w.el,λj a h=>?_,?_,?_⟩
 ·rw[List.take_set_of_le (by lia)];exact w.low
 ·by_cases e:i=j
  ·subst e;rw[aI (by rw[w.el];exact hi)]at h;cases h;rw[aI (by lia)]
  ·rw[gS1 e]at h;rw[gS1 (by lia)];exact w.row j a h
 ·rw[gS1 (by lia)];exact w.ends
 ·rw[gS1 (by lia)];exact w.prs
theorem WS.setPrs{t m:Nat}{T:Sto}{E:List (List (Nat×Nat))}{P P':List (Nat×Nat)}{U:Sto}(w:WS t m T E P U):WS t m T E P' (U.set (t+m+1) (.lst (P'.map pD))):=by
 have c:t+m+1<U.length:=(gE1.mp w.prs).1;refine⟨w.tl,?_,w.el,λj a h=>?_,?_,?_⟩
 ·rw[List.take_set_of_le (by lia)];exact w.low
 ·have b:j<m:=by rw[<- w.el];exact(gE1.mp h).1
  rw[gS1 (by lia)];exact w.row j a h
 ·rw[gS1 (by lia)];exact w.ends
 ·rw[aI (by lia)]
theorem WS.split{t m:Nat}{T:Sto}{E:List (List (Nat×Nat))}{P:List (Nat×Nat)}{U:Sto}(w:WS t m T E P U):U=T++U.drop t:=by
 conv=>lhs;rw[<- cI t U,w.low]
theorem ra:∀{k n i:Nat},i<k->(ke n k)[i]?=Z (.ref (n+i))
 |k+1,n,0,_=>rfl
 |k+1,n,i+1,h=>by rw[ke,gC1,ra (Nat.lt_of_succ_lt_succ h),show n+1+i=n+(i+1) by lia]
theorem kQ:∀k n:Nat,(ke n k).length=k
 |0,_=>rfl
 |k+1,n=>by rw[ke,lC1,kQ]
noncomputable def tot(E:List (List (Nat×Nat))):Nat:=(E.map List.length).sum
theorem qx:∀{E:List (List (Nat×Nat))} {i:Nat} {row row':List (Nat×Nat)},E[i]?=Z row->tot (E.set i row')+row.length=tot E+row'.length
 |[],i,_,_,h=>by simp at h
 |a::E,0,row,row',h=>by simp at h;subst h;simp[tot];lia
 |a::E,i+1,row,row',h=>by
  have:=qx (E:=E) (i:=i) (row:=row) (row':=row') (by simpa using h);simp[tot]at this ⊢;lia
theorem zf:∀{E:List (List (Nat×Nat))} {k:Nat},k<=E.length->(∀i b,i<k->E[i]?=Z b->4<=b.length)->4*k<=tot E
 |E,0,_,_=>by lia
 |[],k+1,h,_=>by simp at h
 |a::E,k+1,h,q=>by
  have h1:=q 0 a (by lia) O;have h2:=zf (E:=E) (k:=k) (by simpa using h) λi b hi c=>q (i+1) b (by lia) (by simpa using c);simp[tot]at h2 ⊢;lia
noncomputable def eN(rs:List Nat):List D:=rs.map λi:Nat=>D.int i
theorem ix(rs:List Nat):(eN rs).length=rs.length:=by simp[eN]
theorem rz(rs:List Nat):D.unds 0 (eN rs)=M:=fb λ_ _=>rfl
abbrev Wk:=Nat×Nat×Nat
noncomputable def eZ(w:Wk):D:=.tup [.int w.1,.int w.2.1,.int w.2.2]
def eH(ws:List Wk):List D:=ws.map eZ
theorem jJ(ws:List Wk):(eH ws).length=ws.length:=by simp[eH]
theorem kB(ws:List Wk):D.unds 0 (eH ws)=M:=fb λ_ _=>rfl
def d4(ws:List Wk)(cs:List Nat):D:=.tup [.tup (eH ws),.tup (eN cs)]
theorem fZ{ws:List Wk}{cs:List Nat}:(d4 ws cs).und 0=M:=by simp[d4,D.und,D.unds,kB,rz]
noncomputable def fF(a b c d:Bool):List D:=(if a then[.str "came"]else[])++(if b then[.str "chalk"]else[])++(if c then[.str "doors"]else[])++(if d then[.str "others"]else[])
theorem A4 {xs:List D}(h:xs.Sublist [.str "came",.str "chalk",.str "doors",.str "others"]):∃a b c d,xs=fF a b c d:=by
 have one:∀{x:D} {l ys:List D},ys.Sublist (x::l) -> ∃(a:Bool) (zs:List D),zs.Sublist l/\ys=(if a then[x]else[])++zs:=by
  intro x l ys h;cases h with
  |cons _ h=>exact⟨J,ys,h,O⟩
  |cons_cons _ h=>exact⟨M,_,h,O⟩
 obtain⟨a,j,h1,rfl⟩:=one h;obtain⟨b,i,h2,rfl⟩:=one h1;obtain⟨c,k,f,rfl⟩:=one h2;obtain⟨d,e,g,rfl⟩:=one f;have:e=[]:=List.eq_nil_of_sublist_nil g;subst this;exact⟨a,b,c,d,by simp[fF]⟩
theorem A5(a b c d:Bool):(fF a b c d).length<=4:=by cases a<;>cases b<;>cases c<;>cases d<;>decide
theorem lj(a b c d:Bool):D.unds 0 (fF a b c d)=M:=by cases a<;>cases b<;>cases c<;>cases d<;>rfl
theorem C8{a b c d:Bool}{S:Sto}:gF (.str "came") (.tup (fF a b c d)) S=Z (.bl a,S):=by cases a<;>cases b<;>cases c<;>cases d<;>rfl
theorem AQ{a b c d:Bool}{S:Sto}:gF (.str "chalk") (.tup (fF a b c d)) S=Z (.bl b,S):=by cases a<;>cases b<;>cases c<;>cases d<;>rfl
theorem AO{a b c d:Bool}{S:Sto}:gF (.str "doors") (.tup (fF a b c d)) S=Z (.bl c,S):=by cases a<;>cases b<;>cases c<;>cases d<;>rfl
theorem yf{a b c d:Bool}{S:Sto}:gF (.str "others") (.tup (fF a b c d)) S=Z (.bl d,S):=by cases a<;>cases b<;>cases c<;>cases d<;>rfl
theorem vo{S:Sto}{n:Nat}{x:Nat}:∀a:List Nat,yS (ga S (n+1)) (.int x) (eN a)=Z (a.contains x)
 |[]=>rfl
 |c::a=>by
  have b:ga S (n+1) (.int c) (.int x)=Z ((c:Int) == (x:Int)):=rfl;have d:((c:Int) == (x:Int))=(x == c):=by
   rw[bQ,beq_iff_eq,beq_iff_eq];lia
  have ih:=vo (S:=S) (n:=n) (x:=x) a;rw[eN,mP1,yS,b,d];rw[eN]at ih;rw[ih,ca];rfl
theorem AN{S:Sto}{x:Nat}{cs:List Nat}:gF (.int x) (.tup (eN cs)) S=Z (.bl (cs.contains x),S):=by
 simp only[gF,ua,Gd,d7,oS1,eM,show(60:Nat)=59+1 from rfl,vo,oP1]
noncomputable def u6(a b c d:Bool)(came chalk doors others:Int):D:=.tup [if a then .int came else .non,if b then .int chalk else .non,if c then .int doors else .non,if d then .int others else .non]
theorem py{a b c d:Bool}{w x y z:Int}:(u6 a b c d w x y z).und 0=M:=by cases a<;>cases b<;>cases c<;>cases d<;>rfl
theorem AD{κ:Type}[DecidableEq κ]{k:κ}:d3 ([]:List (κ×D)) k=Y:=rfl
theorem e9{κ:Type}[DecidableEq κ]{k a:κ}{d:D}{r:List (κ×D)}:d3 ((a,d)::r) k=if a=k then Z d else d3 r k:=by
 unfold d3;rw[aZ];by_cases h:a=k
 ·simp[h]
 ·simp[h]
theorem tS{κ:Type}[DecidableEq κ]{k:κ}{b:List (κ×D)}:∀{a:List (κ×D)},d3 (a++b) k=(d3 a k).or (d3 b k)
 |[]=>rfl
 |(x,d)::a=>by
  rw[bi,e9,e9,tS (a:=a)];split<;>rfl
theorem lR{κ:Type}[DecidableEq κ]{k:κ}:∀{a:List (κ×D)},(a.any λp=>decide (p.1=k))=J->d3 a k=Y
 |[],_=>rfl
 |(x,d)::a,h=>by
  simp only[a0,Bool.or_eq_false_iff,decide_eq_false_iff_not]at h;rw[e9,aj h.1];exact lR h.2
theorem lQ{κ:Type}[DecidableEq κ]{k k':κ}{v:D}:∀{a:List (κ×D)},(a.any λp=>decide (p.1=k))=M->d3 (a.map λp=>if p.1=k then(p.1,v)else p) k'=if k'=k then Z v else d3 a k'
 |[],h=>by simp at h
 |(x,d)::a,h=>by
  rw[mP1];by_cases f:x=k
  ·subst f;rw[ak (show(x,d).1=x from rfl)];rw[e9,e9];by_cases b:k'=x
   ·subst b;simp
   ·rw[aj (Ne.symm b),aj (Ne.symm b),aj b];by_cases g:(a.any λp=>decide (p.1=x))=M
    ·rw[lQ g,aj b]
    ·have:(a.map fun p=>if p.1=x then (p.1,v) else p)=a:=by
      have c:(a.any λp=>decide (p.1=x))=J:=Bool.eq_false_iff.mpr g;rw[List.any_eq_false]at c
      conv=>rhs;rw[<- List.map_id a]
      apply db;intro p i;have:=c p i;simp at this;simp[this]
     rw[this]
  ·simp only[a0,ai f,Bool.false_or]at h;rw[aj (show¬ (x,d).1=k from f)];rw[e9,e9,lQ h];by_cases e:x=k'
   ·subst e;simp[f]
   ·simp[e]
theorem tR{κ:Type}[DecidableEq κ]{k k':κ}{v:D}{a:List (κ×D)}:d3 (e6 a k v) k'=if k'=k then Z v else d3 a k':=by
 unfold e6;split
 ·rename_i h;exact lQ h
 ·rename_i h;have h':(a.any λp=>decide (p.1=k))=J:=Bool.eq_false_iff.mpr h;rw[tS,e9,AD];by_cases b:k'=k
  ·subst b;rw[lR h',ak O];rfl
  ·rw[aj (Ne.symm b),aj b];cases d3 a k'<;>rfl
theorem wf{κ:Type}[DecidableEq κ]{k:κ}{v:D}{a:List (κ×D)}:(e6 a k v).length<=a.length+1:=by
 unfold e6;split
 ·rw[lM1];lia
 ·rw[lA1];simp
theorem zL{κ:Type}[DecidableEq κ]{k:κ}{v:D}{a:List (κ×D)}:e6 a k v≠[]:=by
 unfold e6;split
 ·rename_i h;intro z;cases a with
  |nil=>simp at h
  |cons x xs=>simp at z
 ·simp
noncomputable def dO(F:List (TK×D)):Ob:=if F=[]then .dct []else .dcT F
theorem GB{U:Sto}{n i:Nat}{xs:List D}{x:D}{Q:D×Sto->Prop}(h:U[n]?=Z (.lst xs))(hx:xs[i]?=Z x)(hb:i<1000)(q:Q (x,U.set n (.lst (xs.eraseIdx i)))):W (AY (.ref n) (.int i) U) Q:=by
 have a:=(gE1.mp hx).1;refine W.of ?_ q;simp only[AY,h];rw[ak ⟨by lia,by lia⟩];simp only[x4,ak (show(0:Int)<=i by lia)];rw[ak (by lia)];simp[hx]
theorem oe{d:D}{S G:Sto}(hd:d.und 0=M)(a:S.all (Ob.und S.length)=M):gc S.length (d,S++G)=(d,S):=by
 unfold gc;dsimp only;rw[da,ak (by rw[fU hd,a];rfl)]
theorem rR{d:D}{S V:Sto}(hd:d.und 0=M)(a:S.all (Ob.und S.length)=M)(hp:S <+: V):gc S.length (d,V)=(d,S):=by
 obtain⟨G,rfl⟩:=hp;exact oe hd a
theorem sv{m:FA}{r:Ev}{S:Sto}{xs ys:List D}{n:Nat}{Q:Bx×Sto->Prop}(hm:m r S=Z ([.tup xs,.ref n],S))(hn:S[n]?=Z (.lst ys))(q:Q (⟨uM xs ys,[(n,ys)]⟩,S)):W (BG m r S) Q:=by
 refine W.of (x:=(⟨uM xs ys,[(n,ys)]⟩,S)) ?_ q;simp only[BG,hm,oS1,v7,gL hn,xf,xg hn,cY]
theorem nl{α:Type}{f g:α->D}:∀l:List α,uM (l.map f) (l.map g)=l.map λx=>D.tup [f x,g x]
 |[]=>rfl
 |a::l=>by rw[mP1,mP1,uM,nl l];rfl
theorem IC{m:FA}{r:Ev}{S:Sto}{xs:List D}{Q:Bx×Sto->Prop}(hm:m r S=Z ([.tup xs],S))(q:Q (⟨yU 0 xs,[]⟩,S)):W (GO m r S) Q:=by
 refine W.of (x:=(⟨yU 0 xs,[]⟩,S)) ?_ q;simp only[GO,hm,oS1,v7,xf]
theorem Bb{α:Type}{f:α->D}:∀(l:List α) (k:Nat),yU k (l.map f)=(l.zipIdx k).map λp=>D.tup [.int (p.2:Nat),f p.1]
 |[],_=>rfl
 |a::l,k=>by rw[mP1,yU,Bb l (k+1),bK];rfl
theorem xy{α:Type}{l:List α}{p:α×Nat}(h:p∈l.zipIdx):l[p.2]?=Z p.1:=by
 have:=List.mem_zipIdx_iff_getElem?.mp h;exact this
theorem uN{α β:Type}(f:α->β)(l:List α):(l.zipIdx.map λp=>f p.1)=l.map f:=by
 have:(λp:α×Nat=>f p.1)=f∘Prod.fst:=rfl;rw[this,<- bt,List.zipIdx_map_fst]
mutual
theorem EB{n:Nat}:∀{d:D},d.und 0=M->d.sh n=d
 | .non,_=>rfl
 | .bl _,_=>rfl
 | .int _,_=>rfl
 | .str _,_=>rfl
 | .tup xs,h=>by rw[D.und]at h;rw[D.sh,m3 h]
 | .rol xs,h=>by rw[D.und]at h;rw[D.sh,m3 h]
 | .fn _,_=>rfl
 | .ref k,h=>by simp[D.und]at h
theorem m3{n:Nat}:∀{ds:List D},D.unds 0 ds=M->D.shs n ds=ds
 |[],_=>rfl
 |d::ds,h=>by
  rw[D.unds,bA1]at h;rw[D.shs,EB h.1,m3 h.2]
end
theorem Iq{n:Nat}{f:FN}{ds:List D}{S:Sto}{Q:D×Sto->Prop}(hn:ds.length=n)(c:D.unds 0 ds=M)(h:W (f ds []) λp=>∃xs,p=(.ref 0,[.lst xs])/\D.unds 0 xs=M/\Q (.ref S.length,S++[.lst xs])):W (dZ n f ds S) Q:=by
 obtain⟨p,e,xs,rfl,a,q⟩:=h;refine⟨_,uy e hn c O,?_⟩;have b:(D.ref 0).sh S.length = .ref S.length:=rfl;have d:[Ob.lst xs].map (Ob.sh S.length)=[Ob.lst xs]:=by rw[mP1,aY,Ob.sh,m3 a]
 rw[b,d];exact q
theorem As{ns:List Int}{k:Int}:k∈ddI ns↔k∈ns:=by
 have key:∀(ns a:List Int),k∈ns.foldl step_dedup a↔k∈a\/k∈ns:=by
  intro ns
  induction ns with
  |nil=>intro a;simp
  |cons n ns ih=>
   intro a;rw[b9,ih];have:k∈step_dedup a n↔k∈a\/k=n:=by
    unfold step_dedup;split
    ·rename_i h;obtain⟨x,b,e⟩:=bR.mp h;have e:=beq_iff_eq.mp e;subst e;constructor
     ·exact .inl
     ·rintro(z|z)
      ·exact z
      ·rw[z];exact b
    ·simp
   rw[this,aF,or_assoc]
 unfold ddI;rw[key];simp
theorem BZ{xs:List Nat}{m:Nat}{f:Nat->Bool}(h:∀r,r∈xs↔r<m/\f r=M):kE (ddI (xs.map λ(r:Nat)=>(r:Int)))=((af m).filter f).map λ(r:Nat)=>(r:Int):=by
 refine re ?_ (ny _) ?_
 ·refine(iR _).trans ?_;refine(List.perm_ext_iff_of_nodup (jw _ [] bn) ?_).mpr λk=>?_
  ·refine df.mpr ((List.nodup_range.filter f).imp λb z=>b (by lia))
  ·show k∈ddI _↔_;rw[As,cf,cf];constructor
   ·rintro⟨r,a,rfl⟩;exact⟨r,aA.mpr ⟨aB.mpr ((h r).mp a).1,((h r).mp a).2⟩,O⟩
   ·rintro⟨r,a,rfl⟩;obtain⟨h1,h2⟩:=aA.mp a;exact⟨r,(h r).mpr ⟨aB.mp h1,h2⟩,O⟩
 ·refine df.mpr ((List.pairwise_lt_range.sublist List.filter_sublist).imp λc=>by lia)
theorem wM(xs:List Nat):jt (eN xs)=Z (xs.map λ(r:Nat)=>(r:Int)):=by
 induction xs with
 |nil=>rfl
 |cons x xs ih=>
  show(jt (eN xs)).map _=_;rw[ih];rfl
theorem yL{S:Sto}{n:Nat}{xs:List Nat}{m:Nat}{f:Nat->Bool}{Q:D×Sto->Prop}(hn:S[n]?=Z (.lst (eN xs)))(h:∀r,r∈xs↔r<m/\f r=M)(a:xs.length<64)(q:Q (.ref S.length,S++[.lst (eN ((af m).filter f))])):W (jv (.ref n) S) Q:=by
 refine W.of (x:=(.ref S.length,S++[.lst (eN ((af m).filter f))])) ?_ q;simp only[jv,gL hn,wM,oS1];rw[ak (by rw[lM1];exact a),BZ h,bt];rfl
end Mi
end
local macro_rules | `(tactic| walk_at"w") => `(tactic| simp only[Mi.eG, Mi.kq, Mi.ite_and', Mi.d2, Mi.lD, Mi.uF, Mi.d6, Mi.ea, Mi.gj, Mi.eS, Mi.fM, Mi.nY, Mi.mN, Mi.dU, Mi.dV, Mi.m2, Mi.mV, Mi.mC, Mi.Br, Mi.mB, Mi.oX, Mi.HJ, Mi.Ax, Mi.fW, Mi.BE, Mi.Ej, Mi.gN, Mi.gT, Mi.gCs, Mi.gNl, Mi.gS, Mi.b1, Mi.b2, Mi.b3, Mi.iu, Mi.Hh, Mi.IS, Mi.hH, Mi.oZ, Mi.gSub, Mi.ic, Mi.oj, Mi.Dg, Mi.Dc, true_and, bG, lA1, dg, gC1, c5, c7, lC1, bd, mP1, aY, Mi.K8, cY, bi, aM, Nat.reduceAdd, Nat.reduceSub, Option.join_some, oP1, Option.map_none, oS1, if_true, if_false, bF1, b5, ck, decide_true, Mi.Lq, Mi.Lp, Mi.gP, Mi.zf9, Mi.zr9, Mi.zi9])
noncomputable section
namespace Law
open PySem PySem.Spec PyProof.Rows L2 Mi
noncomputable def top (i:Nat):dR:=PySem.Challenge.pw_ringmeet_k30_what_comes_of_runs.main.body.getD i (.Pass ⟨0,0,0,0⟩)
abbrev BL:List Str:=["all","dict","enumerate","int","len","list","max","min","range","repr","set","sorted","tuple","zip"]
noncomputable def nh:D:=(D.tup [(D.tup [(D.str "came"),(D.int 5)]),(D.tup [(D.str "chalk"),(D.int 2)]),(D.tup [(D.str "doors"),(D.int 5)]),(D.tup [(D.str "others"),(D.int 2)])])
section
variable{P:dF}{w:dH}{K:Fg1}{mg:Str->Option dB}{base h:dP}(X:K.In h) (G:h.Ns dI mg) (B:Blt BL mg)
include X G B
abbrev nF:dR:=top 3
def kT:FT:=(mB (m2 (b2 yT) (mV 2) (mV 3)))
def kS:FS:=(d6 (ea (m2 (b2 pd) (m2 (b2 fA) (mV 2) (mV 3)) (mC (D.int 2))) (gN 4))
  (gj (mB (m2 (b2 yT) (m2 (b2 dX) (m2 (b2 dX) (m2 (b2 dX) (mV 0) (mV 4)) (mC (D.int 0))) (mC (D.int 0))) (mV 1))) (ea (m2 (b2 fA) (mV 4) (mC (D.int 1))) (gN 2)) (ea (mV 4) (gN 3))))
def oF:FS:=(d6 (ea (mC (D.int 0)) (gN 2))
  (d6 (ea (mN (b1 eU) (dU (mV 0) dV)) (gN 3))
  (d6 (sx kT kS 100000)
  (eS (mV 2)))))
def g9:FN:=iy 5 oF
theorem tm {f:dE}(F:eL K "first_of" nF f):
  fI P w K mg base 1 "first_of" 2 g9:=xq ["rows","mood","low","high","middle"] X G F λa=>
 (qF (sq qK) (qF (sq (cn fq (a1 xv))) (qF (lH 100000 PassesOwn.never (ct (oq ms) xv xv) (qF (sq (qI wy (qI fm xv xv) qK)) (qG (qV (ct (oq ms) (jq (jq (jq xv xv) qK) qK) xv) (qG (sq (qI fm xv qK))) (qG (sq xv)))))) (qG (qU xv)))))
abbrev wb:dR:=top 5
def xm:FS:=(d6 (ea (mV 0) (gT 2 (gCs (gN 1) (gCs (gN 2) gNl))))
  (eS (eD (dU (mN (b1 gTup) (dU (eQ 1 [] (hK (mV 1)) (gN 0) fW (eJ (eD (dU (mV 0) (dU (mC (D.int 0)) (dU (mC (D.int 0)) dV)))))) dV)) (dU (mV 2) dV)))))
def k6:FN:=iy 3 xm
theorem Ab {f:dE}(F:eL K "begun" wb f):
  fI P w K mg base 1 "begun" 1 k6:=xq ["standing","rooms","chalk"] X G F λa=>
 (qF (qR xv (tg2 gq gq)) (qG (qU (dY (a2 (cz fC (a1 (fk ["room"] (qd xv) ⟨gq,fr,(dY (a3 xv qK qK))⟩))) xv)))))
abbrev nD:dR:=top 6
def oE:FS:=(d6 (ea (mV 2) (gT 2 (gCs (gN 4) (gCs (gN 5) gNl))))
  (d6 (ea (m2 (b2 dX) (mV 4) (mV 3)) (gT 3 (gCs (gN 6) (gCs (gN 7) (gCs (gN 8) gNl)))))
  (d6 (ea (eQ 1 [6] (hK (mV 4)) (gN 0) (mB (m2 (b2 m9) (m2 (b2 dX) (mV 0) (mC (D.int 0))) (mV 1))) (eJ (mV 0))) (gN 9))
  (d6 (ea (tN [((mC (D.str "came")),(mV 7)),((mC (D.str "chalk")),(mIf (mB (m2 (b2 gF) (mV 6) (mV 5))) (mC (D.int 1)) (mC (D.int 0)))),((mC (D.str "doors")),(mN (b1 eU) (dU (m2 (b2 dX) (mV 0) (mV 6)) dV))),((mC (D.str "others")),(mIf (mB (m2 (b2 (ic λi j=>decide (j<i))) (mN (b1 eU) (dU (mV 9) dV)) (mC (D.int 1)))) (mC (D.int 1)) (mC (D.int 0))))]) (gN 10))
  (eS (mN (b1 gTup) (dU (eQ 2 [1,10] (hK (mC nh)) (gT 2 (gCs (gN 0) (gCs (gN 1) gNl))) fW (eJ (mIf (mB (m2 (b2 gF) (mV 0) (mV 2))) (m2 (b2 dX) (mV 3) (mV 0)) (mC D.non)))) dV)))))))
def g0:FN:=iy 11 oE
theorem tj {f:dE}(F:eL K "sight_of" nD f)(a:CGl K mg "PARTS" nh):
  fI P w K mg base 1 "sight_of" 4 g0:=xq ["web","eyes","whole","k","walkers","chalk","room","came","mood","here","parts"] X G F λb=>
 (qF (qR xv (tg2 gq gq)) (qF (qR (jq xv xv) (gJ O (eh gq (eh gq (eh gq gb))))) (qF (gm 9 O (T:=["other"]) (keep:=[6]) ⟨O,by decide+kernel,(kc "room" (cR _))⟩ O (qd xv) (λ_ _ _=>⟨gq,(fJ (ct (oq jo) (jq xv qK) xv)),xv⟩) (gZ O) O (by first|exact Or.inl rfl|exact Or.inr rfl)) (qF (sq (sF (gx ec xv (gx ec (jd (ct (oq mw) xv xv (by with_unfolding_all rfl)) qK qK) (gx ec (cn fq (a1 (jq xv xv))) (gx ec (jd (ct Af (cn fq (a1 xv)) qK) qK qK) vR)))))) (qG (qU (cz fC (a1 (fk ["eye","many"] (qd (y4 a rfl)) ⟨(tg2 gq gq),fr,(jd (ct (oq mw) xv xv (by with_unfolding_all rfl)) (jq xv xv) eR)⟩)))))))))
abbrev pA:dR:=top 10
def qr:FS:=(d6 (ea (mV 0) (gT 2 (gCs (gN 2) (gCs (gN 3) gNl))))
  (d6 (ea (eQ 2 [] (BG (dU (mV 2) (dU (mV 1) dV))) (gT 2 (gCs (gN 0) (gCs (gN 1) gNl))) (mB (m2 (b2 m9) (m2 (b2 dX) (mV 1) (mC (D.int 1))) (mC (D.str "mark")))) (eJ (m2 (b2 dX) (mV 0) (mC (D.int 0))))) (gN 4))
  (d6 (ea (eQ 2 [] (BG (dU (mV 2) (dU (mV 1) dV))) (gT 2 (gCs (gN 0) (gCs (gN 1) gNl))) (mB (m2 (b2 m9) (m2 (b2 dX) (mV 1) (mC (D.int 1))) (mC (D.str "wipe")))) (eJ (m2 (b2 dX) (mV 0) (mC (D.int 0))))) (gN 5))
  (d6 (ea (eQ 1 [5] (hK (mV 3)) (gN 0) (mB (m2 (b2 fP) (mV 0) (mV 1))) (eJ (mV 0))) (gN 6))
  (eS (mN (b1 gTup) (dU (mN (b1 jv) (dU (m2 (b2 fA) (mV 6) (mV 4)) dV)) dV)))))))
def iK:FN:=iy 7 qr
theorem ve {f:dE}(F:eL K "handled" pA f):
  fI P w K mg base 1 "handled" 2 iK:=xq ["whole","deeds","walkers","chalk","marked","wiped","left"] X G F λa=>
 (qF (qR xv (tg2 gq gq)) (qF (gm 4 O (T:=["walker","deed"]) (keep:=[]) ⟨O,by decide+kernel,(cR _)⟩ O (kx O (bz B) (a2 xv xv)) (λ_ _ _=>⟨(tg2 gq gq),(fJ (ct (oq jo) (jq xv qK) ec)),(jq xv qK)⟩) (gZ O) O (by first|exact Or.inl rfl|exact Or.inr rfl)) (qF (sq (fk ["walker","deed"] (kx rfl (bz B) (a2 xv xv)) ⟨(tg2 gq gq),(fJ (ct (oq jo) (jq xv qK) ec)),(jq xv qK)⟩)) (qF (gm 6 rfl (T:=["room"]) (keep:=[5]) ⟨rfl,by decide+kernel,(kc "wiped" (cR _))⟩ rfl (qd xv) (λ_ _ _=>⟨gq,(fJ (ct (oq nU) xv xv (by with_unfolding_all rfl))),xv⟩) (gZ O) O (by first|exact Or.inl rfl|exact Or.inr rfl)) (qG (qU (cz fC (a1 (xA rfl rfl (bz B) rfl (bz B) (qI fm xv xv))))))))))
abbrev pz:dR:=top 11
def qq:FS:=(d6 (ea (mV 1) (gT 3 (gCs (gN 3) (gCs (gN 4) (gCs (gN 5) gNl)))))
  (d6 (ea (mV 2) (gT 3 (gCs (gN 6) (gCs (gN 7) (gCs (gN 8) gNl)))))
  (d6 (gj (HJ (mB (m2 (b2 Dd) (mV 8) (mC D.non))) (mB (m2 (b2 (ic λi j=>decide (j<=i))) (mV 8) (mN (b1 eU) (dU (m2 (b2 dX) (mV 0) (mV 3)) dV))))) (eS (eD (dU (mV 3) (dU (mV 4) (dU (mV 6) dV))))) nY)
  (d6 (ea (m2 (b2 dX) (m2 (b2 dX) (mV 0) (mV 3)) (mV 8)) (gT 2 (gCs (gN 9) (gCs (gN 10) gNl))))
  (eS (eD (dU (mV 9) (dU (m2 (b2 fA) (mC (D.int 1)) (mV 10)) (dU (mV 6) dV)))))))))
def iJ:FN:=iy 11 qq
theorem vd {f:dE}(F:eL K "stepped" pz f):
  fI P w K mg base 1 "stepped" 3 iJ:=xq ["web","walker","deed","room","came","past","mood","hand","step","there","back"] X G F λa=>
 (qF (qR xv (gJ O (eh gq (eh gq (eh gq gb))))) (qF (qR xv (gJ O (eh gq (eh gq (eh gq gb))))) (qF (qV (l9 (y2 (ct Hx xv eR) (vP (ct Cy xv (cn fq (a1 (jq xv xv))))))) (qG (qU (dY (a3 xv xv xv)))) qQ) (qF (qR (jq (jq xv xv) xv) (tg2 gq gq)) (qG (qU (dY (a3 xv (qI fm qK xv) xv))))))))
abbrev sS:dR:=top 12
def uA:FS:=(d6 (ea (m2 (b2 dX) (m2 (b2 dX) (m2 (b2 dX) (mV 0) (mC (D.int 0))) (mC (D.int 0))) (mC (D.int 0))) (gN 1))
  (eS (mN (b1 Ge) (dU (eQ 3 [1] (hK (m2 (b2 dX) (mV 0) (mC (D.int 0)))) (gT 3 (gCs (gN 0) (gCs (gN 1) (gCs (gN 2) gNl)))) fW (eJ (m2 (b2 m9) (mV 0) (mV 3)))) dV))))
def jp:FN:=iy 2 uA
theorem xR {f:dE}(F:eL K "is_met" sS f):
  fI P w K mg base 1 "is_met" 1 jp:=xq ["whole","first"] X G F λa=>
 (qF (sq (jq (jq (jq xv qK) qK) qK)) (qG (qU (cn (Iu O) (a1 (fk ["room","came","mood"] (qd (jq xv qK)) ⟨(gJ O (eh gq (eh gq (eh gq gb)))),fr,(ce (oq jo) xv xv)⟩))))))
abbrev me:dR:=top 16
def jB:FS:=(d6 (ea (mC (D.int 0)) (gN 2))
  (d6 (gj (mB (m2 (b2 yT) (mV 1) (mN (b1 eU) (dU (mV 0) dV)))) (ea (m2 (b2 dX) (mV 0) (mV 1)) (gN 2)) nY)
  (d6 (ea (m2 (b2 jU) (m2 (b2 lg) (mV 2) (m2 (b2 jU) (m2 (b2 vr) (mC (D.int 10)) (mC (D.int 60))) (m2 (b2 vr) (mC (D.int 10)) (mC (D.int 30))))) (mN (b1 oj) (dU (m2 (b2 (ic λi j=>decide (j<=i))) (mV 2) (m2 (b2 vr) (mC (D.int 10)) (mC (D.int 18)))) dV))) (gN 3))
  (eS (kg (dU (mV 3) (dU (m2 (b2 lg) (m2 (b2 fA) (m2 (b2 fA) (m2 (b2 lg) (mV 2) (mC (D.int 2305843009213693951))) (m2 (b2 jU) (mC (D.int 7919)) (mV 1))) (mC (D.int 3))) (mC (D.int 2305843009213693951))) (dU (mC (D.int 0)) dV))))))))
def fx:FN:=iy 4 jB
theorem ro {f:dE}(F:eL K "_law_hand" me f):
  fI P w K mg base 1 "_law_hand" 2 fx:=xq ["_law_script","_law_k","_law_cell","_law_great"] X G F λa=>
 (qF (sq qK) (qF (qV (ct (oq ms) xv (cn fq (a1 xv))) (qG (sq (jq xv xv))) qQ) (qF (sq (qI kY (qI mq xv (qI kY (qI Ac qK qK) (qI Ac qK qK))) (cz uz (a1 (ce Cy xv (qI Ac qK qK)))))) (qG (qU (gK (a3 xv (qI mq (qI fm (qI fm (qI mq xv qK) (qI kY qK xv)) qK) qK) qK)))))))
abbrev md:dR:=top 17
def jA:FS:=(d6 (gj (mB (m2 (b2 (ic fun i j=>decide (j<i))) (m2 (b2 dX) (mV 0) (mC (D.int 0))) (mC (D.int 0)))) (d6 (ea (m2 (b2 lg) (m2 (b2 dX) (mV 0) (mC (D.int 0))) (mV 1)) (gN 2))
  (d6 (ea (m2 (b2 pd) (m2 (b2 dX) (mV 0) (mC (D.int 0))) (mV 1)) (gS (b3 hL) (mV 0) (mC (D.int 0))))
  (eS (mV 2)))) nY)
  (d6 (ea (m2 (b2 fA) (m2 (b2 dX) (mV 0) (mC (D.int 2))) (mC (D.int 1))) (gS (b3 hL) (mV 0) (mC (D.int 2))))
  (d6 (ea (m2 (b2 lg) (m2 (b2 jU) (m2 (b2 fA) (m2 (b2 fA) (m2 (b2 dX) (mV 0) (mC (D.int 1))) (m2 (b2 jU) (m2 (b2 jU) (mC (D.int 65537)) (m2 (b2 dX) (mV 0) (mC (D.int 2)))) (m2 (b2 dX) (mV 0) (mC (D.int 2))))) (mC (D.int 11))) (mC (D.int 48271))) (mC (D.int 2305843009213693921))) (gN 3))
  (d6 (ea (m2 (b2 lg) (m2 (b2 jU) (mV 3) (m2 (b2 fA) (m2 (b2 lg) (mV 3) (mC (D.int 1000003))) (m2 (b2 jU) (mC (D.int 99991)) (m2 (b2 dX) (mV 0) (mC (D.int 2)))))) (mC (D.int 2305843009213693907))) (gN 3))
  (eS (m2 (b2 lg) (m2 (b2 fA) (m2 (b2 pd) (mV 3) (mC (D.int 97))) (m2 (b2 pd) (mV 3) (mC (D.int 1000033)))) (mV 1)))))))
def dW:FN:=iy 4 jA
theorem rn {f:dE}(F:eL K "_law_take" md f):
  fI P w K mg base 1 "_law_take" 2 dW:=xq ["_law_hand_here","_law_many","_law_digit","_law_mixed"] X G F λa=>
 (qF (qV (ct Af (jq xv qK) qK) (qF (sq (qI mq (jq xv qK) xv)) (qF (qR (qI wy (jq xv qK) xv) (kA xv qK (nE a.units))) (qG (qU xv)))) qQ) (qF (qR (qI fm (jq xv qK) qK) (kA xv qK (nE a.units))) (qF (sq (qI mq (qI kY (qI fm (qI fm (jq xv qK) (qI kY (qI kY qK (jq xv qK)) (jq xv qK))) qK) qK) qK)) (qF (sq (qI mq (qI kY xv (qI fm (qI mq xv qK) (qI kY qK (jq xv qK)))) qK)) (qG (qU (qI mq (qI fm (qI wy xv qK) (qI wy xv qK)) xv)))))))
abbrev nJ:dR:=top 19
def oJ:FS:=(d6 (ea (m2 (b2 dX) (m2 (b2 dX) (mV 1) (m2 (b2 dX) (mV 2) (mC (D.int 0)))) (m2 (b2 gSub) (mC (D.int 1)) (m2 (b2 dX) (mV 2) (mC (D.int 1))))) (gN 3))
  (eS (eD (dU (mV 3) (dU (pP (b2 ub) (m2 (b2 dX) (mV 0) (mV 3)) (dU (eD (dU (m2 (b2 dX) (mV 2) (mC (D.int 0))) (dU (m2 (b2 gSub) (mC (D.int 1)) (m2 (b2 dX) (mV 2) (mC (D.int 1)))) dV))) dV)) dV)))))
def gp:FN:=iy 4 oJ
theorem tz {f:dE}(F:eL K "_law_far" nJ f):
  fI P w K mg base 1 "_law_far" 3 gp:=xq ["_law_ends","_law_pairs","_law_end_here","_law_room"] X G F λa=>
 (qF (sq (jq (jq xv (jq xv qK)) (qI pL qK (jq xv qK)))) (qG (qU (dY (a2 xv (qe PySem.F.slot_list_index PySem.F.type_list_index (DJ a.units) (jq xv xv) (a1 (dY (a2 (jq xv qK) (qI pL qK (jq xv qK)))))))))))
abbrev kI:dR:=top 23
def lz:FS:=(d6 (ea (m2 (b2 dX) (m2 (b2 dX) (mV 2) (mC (D.int 0))) (mV 3)) (gT 3 (gCs (gN 4) (gCs (gN 5) (gCs (gN 6) gNl)))))
  (d6 (ea (mN (b1 eU) (dU (eQ 1 [4] (hK (m2 (b2 dX) (mV 2) (mC (D.int 0)))) (gN 0) (mB (m2 (b2 m9) (m2 (b2 dX) (mV 0) (mC (D.int 0))) (mV 1))) (eJ (mV 0))) dV)) (gN 7))
  (d6 (ea (tN [((mC (D.str "came")),(mV 5)),((mC (D.str "chalk")),(mN (b1 oj) (dU (m2 (b2 gF) (mV 4) (m2 (b2 dX) (mV 2) (mC (D.int 1)))) dV))),((mC (D.str "doors")),(mN (b1 eU) (dU (m2 (b2 dX) (mV 0) (mV 4)) dV))),((mC (D.str "others")),(mN (b1 oj) (dU (m2 (b2 (ic λi j=>decide (j<i))) (mV 7) (mC (D.int 1))) dV)))]) (gN 8))
  (eS (mN (b1 gTup) (dU (eQ 1 [1,8] (hK (eD (dU (mC (D.str "came")) (dU (mC (D.str "chalk")) (dU (mC (D.str "doors")) (dU (mC (D.str "others")) dV)))))) (gN 0) fW (eJ (mIf (mB (m2 (b2 gF) (mV 0) (mV 1))) (m2 (b2 dX) (mV 2) (mV 0)) (mC D.non)))) dV))))))
def fg:FN:=iy 9 lz
theorem oT {f:dE}(F:eL K "_law_sight" kI f):
  fI P w K mg base 1 "_law_sight" 4 fg:=xq ["_law_web_here","_law_eyes","_law_whole","_law_k","_law_room","_law_came","_law_mood","_law_crowd","_law_parts"] X G F λa=>
 (qF (qR (jq (jq xv qK) xv) (gJ O (eh gq (eh gq (eh gq gb))))) (qF (sq (cn fq (a1 (fk ["_law_walker"] (qd (jq xv qK)) ⟨gq,(fJ (ct (oq jo) (jq xv qK) xv)),xv⟩)))) (qF (sq (sF (gx ec xv (gx ec (cz uz (a1 (ce (oq mw) xv (jq xv qK) (by with_unfolding_all rfl)))) (gx ec (cn fq (a1 (jq xv xv))) (gx ec (cz uz (a1 (ce Af xv qK))) vR)))))) (qG (qU (cz fC (a1 (fk ["_law_eye"] (qd (dY (qA ec (a3 ec ec ec)))) ⟨gq,fr,(jd (ct (oq mw) xv xv (by with_unfolding_all rfl)) (jq xv xv) eR)⟩))))))))
abbrev jk:dR:=top 24
def iI:FS:=(d6 (ea (eQ 2 [4] (BG (dU (m2 (b2 dX) (mV 1) (mC (D.int 0))) (dU (mV 2) dV))) (gT 2 (gCs (gN 0) (gCs (gN 1) gNl))) (mB (m2 (b2 m9) (m2 (b2 dX) (mV 0) (mC (D.int 0))) (mV 2))) (eJ (m2 (b2 dX) (mV 1) (mC (D.int 1))))) (gN 5))
  (gj (HJ (mB (m2 (b2 gF) (mC (D.str "mark")) (mV 5))) (oX (mB (m2 (b2 gF) (mV 4) (m2 (b2 dX) (mV 1) (mC (D.int 1))))) (mB (m2 (b2 fP) (mC (D.str "wipe")) (mV 5))))) (fM (pP (b2 kl) (mV 3) (dU (mV 4) dV))) nY))
def jD:FS:=(d6 (ea (kg dV) (gN 3))
  (d6 (hH (t5 (dU (mN (b1 eU) (dU (mV 0) dV)) dV)) (gN 4) iI)
  (eS (mN (b1 gTup) (dU (mV 3) dV)))))
def fL:FN:=iy 6 jD
theorem mP {f:dE}(F:eL K "_law_chalked" jk f):
  fI P w K mg base 1 "_law_chalked" 3 fL:=xq ["_law_web_here","_law_whole","_law_dealt","_law_found","_law_room","_law_hands"] X G F λa=>
 (qF (sq (gK qN)) (qF (fo (ir (a1 (cn fq (a1 xv)))) gq (qF (gm 5 O (T:=["_law_walker","_law_deed_here"]) (keep:=[4]) ⟨O,by decide+kernel,(kc "_law_room" (cR _))⟩ O (kx O (bz B) (a2 (jq xv qK) xv)) (λ_ _ _=>⟨(tg2 gq gq),(fJ (ct (oq jo) (jq xv qK) xv)),(jq xv qK)⟩) (gZ O) O (by first|exact Or.inl rfl|exact Or.inr rfl)) (qG (qV (l9 (y2 (ct (oq mw) ec xv (by with_unfolding_all rfl)) (vP (l9 (iN (ct (oq mw) xv (jq xv qK) (by with_unfolding_all rfl)) (iB (ct (oq nU) ec xv (by with_unfolding_all rfl)))))))) (qG (lq ap xv (a1 xv))) qQ)))) (qG (qU (cz fC (a1 xv))))))
abbrev nI:dR:=top 29
def oI:FS:=(eS (m2 (b2 m9) (mN (b1 oi) (dU (mN (b1 jQ) (dU (eQ 1 [] (hK (m2 (b2 dX) (mV 0) (mC (D.int 0)))) (gN 0) fW (eJ (m2 (b2 dX) (mV 0) (mC (D.int 0))))) dV)) dV)) (mC (D.int 1))))
def hB:FN:=iy 1 oI
theorem tw {f:dE}(F:eL K "_law_met" nI f):
  fI P w K mg base 1 "_law_met" 1 hB:=xq ["_law_whole"] X G F λa=>
 (qG (qU (ce (oq jo) (cn Gw (a1 (cz (Gv a) (a1 (fk ["_law_walker"] (qd (jq xv qK)) ⟨gq,fr,(jq xv qK)⟩))))) qK)))
abbrev pB:dR:=top 2
def mo:FT:=(oX (mB (m2 (b2 yT) (mV 4) (mN (b1 eU) (dU (mV 3) dV)))) (mB (m2 (b2 m9) (m2 (b2 dX) (m2 (b2 dX) (m2 (b2 dX) (mV 3) (mV 4)) (mC (D.int 0))) (mC (D.int 0))) (mV 1))))
def mm:FS:=(d6 (gj (mB (m2 (b2 m9) (m2 (b2 dX) (m2 (b2 dX) (m2 (b2 dX) (mV 3) (mV 4)) (mC (D.int 0))) (mC (D.int 1))) (mV 2))) (eS (m2 (b2 dX) (m2 (b2 dX) (mV 3) (mV 4)) (mC (D.int 1)))) nY)
  (CT 4 (b2 AZ) (mC (D.int 1))))
def qt:FS:=(d6 (ea (m2 (b2 dX) (mV 0) (mC (D.int 1))) (gN 3))
  (d6 (ea (mN (dZ 2 g9) (dU (mV 3) (dU (mV 1) dV))) (gN 4))
  (d6 (sx mo mm 100000)
  (eS (eD (dU (mV 1) (dU (mC (D.str "leave")) (dU (mC D.non) dV))))))))
def gn:FN:=iy 5 qt
theorem vf {f:dE}(F:eL K "deed_of" pB f)(a:fI P w K mg base 1 "first_of" 2 g9):
  fI P w K mg base 2 "deed_of" 3 gn:=xq ["machine","mood","sight","rows","at"] X G F λb=>
 (qF (sq (jq xv qK)) (qF (sq (wn a (a2 xv xv))) (qF (lH 100000 PassesOwn.never (l9 (iN (ct (oq ms) xv (cn fq (a1 xv))) (iB (ct (oq jo) (jq (jq (jq xv xv) qK) qK) xv)))) (qF (qV (ct (oq jo) (jq (jq (jq xv xv) qK) qK) xv) (qG (qU (jq (jq xv xv) qK))) qQ) (qG (BN 4 (gZ O) O (by first|exact Or.inl rfl|exact Or.inr rfl) qK C5)))) (qG (qU (dY (a3 xv ec eR)))))))
abbrev v9:dR:=top 7
def xk:FS:=(eS (eQ 2 [0,1,2] (GO (dU (m2 (b2 dX) (mV 2) (mC (D.int 0))) dV)) (gT 2 (gCs (gN 0) (gCs (gN 1) gNl))) fW (eJ (eD (dU (m2 (b2 dX) (mV 1) (mC (D.int 2))) (dU (mN (dZ 4 g0) (dU (mV 2) (dU (mV 3) (dU (mV 4) (dU (mV 0) dV))))) dV))))))
def k3:FN:=iy 3 xk
theorem z9 {f:dE}(F:eL K "wants" v9 f)(a:fI P w K mg base 1 "sight_of" 4 g0):
  fI P w K mg base 2 "wants" 3 k3:=xq ["web","eyes","whole"] X G F λb=>
 (qG (qU (fk ["k","walker"] (ie (a1 (jq xv qK))) ⟨(tg2 gq gq),fr,(dY (a2 (jq xv qK) (wn a (qA xv (a3 xv xv xv)))))⟩)))
abbrev wa:dR:=top 9
def xl:FS:=(d6 (ea (mV 1) (gT 2 (gCs (gN 3) (gCs (gN 4) gNl))))
  (d6 (ea (eQ 2 [0] (BG (dU (mV 3) (dU (mV 2) dV))) (gT 2 (gCs (gN 0) (gCs (gN 1) gNl))) fW (eJ (mN (dZ 3 iJ) (dU (mV 2) (dU (mV 0) (dU (mV 1) dV)))))) (gN 5))
  (eS (eD (dU (mN (b1 gTup) (dU (mV 5) dV)) (dU (mN (dZ 2 iK) (dU (mV 1) (dU (mV 2) dV))) dV))))))
def k4:FN:=iy 6 xl
theorem Aa {f:dE}(F:eL K "moved" wa f)(b:fI P w K mg base 1 "handled" 2 iK)(a:fI P w K mg base 1 "stepped" 3 iJ):
  fI P w K mg base 2 "moved" 3 k4:=xq ["web","whole","deeds","walkers","chalk","behind"] X G F λc=>
 (qF (qR xv (tg2 gq gq)) (qF (gm 5 O (T:=["walker","deed"]) (keep:=[0]) ⟨O,by decide+kernel,(kc "web" (cR _))⟩ O (kx O (bz B) (a2 xv xv)) (λ_ _ _=>⟨(tg2 gq gq),fr,(wn a (a3 xv xv xv))⟩) (gZ O) O (by first|exact Or.inl rfl|exact Or.inr rfl)) (qG (qU (dY (a2 (cz fC (a1 xv)) (wn b (a2 xv xv))))))))
abbrev nH:dR:=top 18
def oH:FS:=(d6 (fM (pP (b3 ym) (m2 (b2 dX) (mV 1) (mV 3)) (dU (mN (dZ 2 dW) (dU (mV 0) (dU (m2 (b2 fA) (mN (b1 eU) (dU (m2 (b2 dX) (mV 1) (mV 3)) dV)) (mC (D.int 1))) dV))) (dU (eD (dU (mN (b1 eU) (dU (mV 2) dV)) (dU (mC (D.int 0)) dV))) dV))))
  (d6 (fM (pP (b3 ym) (m2 (b2 dX) (mV 1) (mV 4)) (dU (mN (dZ 2 dW) (dU (mV 0) (dU (m2 (b2 fA) (mN (b1 eU) (dU (m2 (b2 dX) (mV 1) (mV 4)) dV)) (mC (D.int 1))) dV))) (dU (eD (dU (mN (b1 eU) (dU (mV 2) dV)) (dU (mC (D.int 1)) dV))) dV))))
  (fM (pP (b2 kl) (mV 2) (dU (eD (dU (mV 3) (dU (mV 4) dV))) dV)))))
def fY:FN:=iy 5 oH
theorem tu {f:dE}(F:eL K "_law_tie" nH f)(a:fI P w K mg base 1 "_law_take" 2 dW):
  fI P w K mg base 2 "_law_tie" 5 fY:=xq ["_law_hand_here","_law_ends","_law_pairs","_law_one","_law_other"] X G F (hb:=λ_ _ _ _ _ _ d b=>IX b λ_ _ _ _ _=>rfl) λc=>
 (qF (lq ⟨PySem.F.slot_list_insert,PySem.F.type_list_insert,DI⟩ (jq xv xv) (a2 (wn a (a2 xv (qI fm (cn fq (a1 (jq xv xv))) qK))) (dY (a2 (cn fq (a1 xv)) qK)))) (qF (lq ⟨PySem.F.slot_list_insert,PySem.F.type_list_insert,DI⟩ (jq xv xv) (a2 (wn a (a2 xv (qI fm (cn fq (a1 (jq xv xv))) qK))) (dY (a2 (cn fq (a1 xv)) qK)))) (qG (lq ap xv (a1 (dY (a2 xv xv)))))))
abbrev i5:dR:=top 21
def ik:FT:=(mB (m2 (b2 (ic λi j=>decide (j<i))) (mN (b1 eU) (dU (mV 3) dV)) (m2 (b2 fA) (mC (D.int 1)) (mN (dZ 2 dW) (dU (mV 0) (dU (mV 2) dV))))))
def ij:FS:=(fM (pP (b2 AY) (mV 3) (dU (mN (dZ 2 dW) (dU (mV 0) (dU (mN (b1 eU) (dU (mV 3) dV)) dV))) dV)))
def i7:FS:=(d6 (ea (Az (dU (mV 1) dV)) (gN 3))
  (d6 (sx ik ij 100000)
  (d6 (ea (mN (dZ 2 dW) (dU (mV 0) (dU (mC (D.int 2)) dV))) (gN 4))
  (eS (eD (dU (mN (b1 gTup) (dU (mV 3) dV)) (dU (mN (b1 gTup) (dU (eQ 1 [4,0] (t5 (dU (mV 1) dV)) (gN 0) (mB (m2 (b2 m9) (m2 (b2 jU) (mV 1) (mN (dZ 2 dW) (dU (mV 2) (dU (mC (D.int 3)) dV)))) (mC (D.int 1)))) (eJ (mV 0))) dV)) dV)))))))
def fE:FN:=iy 5 i7
theorem lP {f:dE}(F:eL K "_law_standing" i5 f)(a:fI P w K mg base 1 "_law_take" 2 dW):
  fI P w K mg base 2 "_law_standing" 3 fE:=xq ["_law_hand_here","_law_many","_law_most","_law_rooms","_law_some"] X G F λb=>
 (qF (sq (uQ O O (bz B) O (bz B) (a1 xv))) (qF (lH 100000 PassesOwn.never (ct Af (cn fq (a1 xv)) (qI fm qK (wn a (a2 xv xv)))) (qG (lq ⟨PySem.F.slot_list_pop,PySem.F.type_list_pop,GV⟩ xv (a1 (wn a (a2 xv (cn fq (a1 xv)))))))) (qF (sq (wn a (a2 xv qK))) (qG (qU (dY (a2 (cz fC (a1 xv)) (cz fC (a1 (fk ["_law_room"] (ir (a1 xv)) ⟨gq,(fJ (ct (oq jo) (qI kY xv (wn a (a2 xv qK))) qK)),xv⟩))))))))))
abbrev iF:dR:=top 22
def iM:FS:=(eS (mN (b1 gTup) (dU (eQ 1 [0] (hK (eD (dU (mC (D.str "came")) (dU (mC (D.str "chalk")) (dU (mC (D.str "doors")) (dU (mC (D.str "others")) dV)))))) (gN 0) (mB (m2 (b2 m9) (mN (dZ 2 dW) (dU (mV 1) (dU (mC (D.int 2)) dV))) (mC (D.int 0)))) (eJ (mV 0))) dV)))
def ft:FN:=iy 1 iM
theorem kW {f:dE}(F:eL K "_law_some_eyes" iF f)(a:fI P w K mg base 1 "_law_take" 2 dW):
  fI P w K mg base 2 "_law_some_eyes" 1 ft:=xq ["_law_hand_here"] X G F λb=>
 (qG (qU (cz fC (a1 (fk ["_law_eye"] (qd (dY (qA ec (a3 ec ec ec)))) ⟨gq,(fJ (ct (oq jo) (wn a (a2 xv qK)) qK)),xv⟩)))))
abbrev mh:dR:=top 25
def jZ:FS:=(d6 (ea (m2 (b2 dX) (m2 (b2 dX) (m2 (b2 dX) (mV 3) (mC (D.int 0))) (mV 6)) (mC (D.int 2))) (gN 7))
  (fM (pP (b2 kl) (mV 4) (dU (rF (mV 2) (eD (dU (mV 7) (dU (mN (dZ 4 fg) (dU (mV 0) (dU (mV 1) (dU (mV 3) (dU (mV 6) dV))))) dV))) (eD (dU (mV 7) (dU (mC (D.str "leave")) (dU (mC D.non) dV))))) dV))))
def jY:FS:=(d6 (gj (oX (mB (m2 (b2 fz) (mV 12) (mC D.non))) (mB (m2 (b2 yT) (mV 12) (mN (b1 eU) (dU (m2 (b2 dX) (mV 0) (mV 8)) dV))))) (ea (eD (dU (m2 (b2 dX) (m2 (b2 dX) (m2 (b2 dX) (mV 0) (mV 8)) (mV 12)) (mC (D.int 0))) (dU (m2 (b2 fA) (mC (D.int 1)) (m2 (b2 dX) (m2 (b2 dX) (m2 (b2 dX) (mV 0) (mV 8)) (mV 12)) (mC (D.int 1)))) dV))) (gT 2 (gCs (gN 8) (gCs (gN 9) gNl)))) nY)
  (fM (pP (b2 kl) (mV 5) (dU (eD (dU (mV 8) (dU (mV 9) (dU (mV 10) dV)))) dV))))
def mJ:FS:=(d6 (ea (eD (dU (kg dV) (dU (kg dV) dV))) (gT 2 (gCs (gN 4) (gCs (gN 5) gNl))))
  (d6 (hH (t5 (dU (mN (b1 eU) (dU (m2 (b2 dX) (mV 3) (mC (D.int 0))) dV)) dV)) (gN 6) jZ)
  (d6 (hH (BG (dU (m2 (b2 dX) (mV 3) (mC (D.int 0))) (dU (mV 4) dV))) (gT 2 (gCs (gT 3 (gCs (gN 8) (gCs (gN 9) (gCs (gN 7) gNl)))) (gCs (gT 3 (gCs (gN 10) (gCs (gN 11) (gCs (gN 12) gNl)))) gNl))) jY)
  (eS (eD (dU (mN (b1 gTup) (dU (mV 5) dV)) (dU (mN (dZ 3 fL) (dU (mV 0) (dU (mV 3) (dU (mV 4) dV)))) dV)))))))
def gA:FN:=iy 13 mJ
theorem rq {f:dE}(F:eL K "_law_beat" mh f)(c:fI P w K mg base 1 "_law_chalked" 3 fL)(b:fI P w K mg base 1 "_law_sight" 4 fg):
  fI P w K mg base 2 "_law_beat" 4 gA:=xq ["_law_web_here","_law_eyes","_law_rows","_law_whole","_law_dealt","_law_walkers","_law_k","_law_mood","_law_room","_law_came","_law_later","_law_hand_here","_law_step"] X G F λa=>
 (qF (mX 4 5 O (gZ O) O O (by decide) O O (a2 (gK qN) (gK qN))) (qF (fo (ir (a1 (cn fq (a1 (jq xv qK))))) gq (qF (sq (jq (jq (jq xv qK) xv) qK)) (qG (lq ap xv (a1 (xB a.units xv (dY (a2 xv (wn b (qA xv (a3 xv xv xv))))) (dY (a3 xv ec eR)))))))) (qF (fo (kx O (bz B) (a2 (jq xv qK) xv)) (tg2 (gJ O (eh gq (eh gq (eh gq gb)))) (gJ O (eh gq (eh gq (eh gq gb))))) (qF (qV (l9 (iN (ct jn xv eR) (iB (ct (oq ms) xv (cn fq (a1 (jq xv xv))))))) (qG (mX 8 9 O (gZ O) O O (by decide) O O (a2 (jq (jq (jq xv xv) xv) qK) (qI fm qK (jq (jq (jq xv xv) xv) qK))))) qQ) (qG (lq ap xv (a1 (dY (a3 xv xv xv))))))) (qG (qU (dY (a2 (cz fC (a1 xv)) (wn c (a3 xv xv xv)))))))))
abbrev mf:dR:=top 26
def mI:FS:=(d6 (ea (m2 (b2 dX) (eD (dU (mC D.non) (dU (mC (D.int 0)) (dU (mC (D.int 1)) (dU (mC (D.int 2)) (dU (mC (D.int 3)) (dU (mC (D.int 0)) (dU (mC (D.int 1)) dV)))))))) (mN (dZ 2 dW) (dU (mV 0) (dU (mC (D.int 7)) dV)))) (gN 1))
  (eS (eD (dU (mN (dZ 2 dW) (dU (mV 0) (dU (mC (D.int 3)) dV))) (dU (m2 (b2 dX) (eD (dU (mC (D.str "leave")) (dU (mC (D.str "leave")) (dU (mC (D.str "mark")) (dU (mC (D.str "wipe")) dV))))) (mN (dZ 2 dW) (dU (mV 0) (dU (mC (D.int 4)) dV)))) (dU (mV 1) dV))))))
def gz:FN:=iy 2 mI
theorem rp {f:dE}(F:eL K "_law_deed" mf f)(a:fI P w K mg base 1 "_law_take" 2 dW):
  fI P w K mg base 2 "_law_deed" 1 gz:=xq ["_law_hand_here","_law_step"] X G F λb=>
 (qF (sq (jq (dY (qA eR (qA qK (qA qK (qA qK (a3 qK qK qK)))))) (wn a (a2 xv qK)))) (qG (qU (dY (a3 (wn a (a2 xv qK)) (jq (dY (qA ec (a3 ec ec ec))) (wn a (a2 xv qK))) xv)))))
abbrev nK:dR:=top 30
def kU:FS:=(d6 (gj (BE (mN (dZ 1 hB) (dU (m2 (b2 dX) (mV 0) (mV 1)) dV))) (eS (eD (dU (eD (dU (mC (D.str "met")) (dU (mV 1) dV))) (dU (mV 1) dV)))) nY)
  (gj (mB (m2 (b2 gF) (m2 (b2 dX) (mV 0) (mV 1)) (rE (mV 0) j5 (mx (mV 1))))) (eS (eD (dU (eD (dU (mC (D.str "round")) (dU (pP (b2 ub) (mV 0) (dU (m2 (b2 dX) (mV 0) (mV 1)) dV)) (dU (mV 1) dV)))) (dU (mV 1) dV)))) nY))
def oK:FS:=(d6 (hH (t5 (dU (mN (b1 eU) (dU (mV 0) dV)) dV)) (gN 1) kU)
  (eS (eD (dU (mC D.non) (dU (mN (b1 eU) (dU (mV 0) dV)) dV)))))
def hC:FN:=iy 2 oK
theorem tE {f:dE}(F:eL K "_law_end" nK f)(b:fI P w K mg base 1 "_law_met" 1 hB):
  fI P w K mg base 2 "_law_end" 1 hC:=xq ["_law_wholes","_law_turn"] X G F λa=>
 (qF (fo (ir (a1 (cn fq (a1 xv)))) gq (qF (qV (jI (wn b (a1 (jq xv xv)))) (qG (qU (dY (a2 (dY (a2 ec xv)) xv)))) qQ) (qG (qV (ct (oq mw) (jq xv xv) (no xv sD (sC xv)) (by with_unfolding_all rfl)) (qG (qU (dY (a2 (dY (a3 ec (qe PySem.F.slot_list_index PySem.F.type_list_index (DJ a.units) xv (a1 (jq xv xv))) xv)) xv)))) qQ)))) (qG (qU (dY (a2 eR (cn fq (a1 xv)))))))
abbrev zx:dR:=top 8
def Bo:FS:=(d6 (ea (mN (dZ 3 k3) (dU (mV 0) (dU (m2 (b2 dX) (mV 1) (mC (D.int 0))) (dU (mV 2) dV)))) (gN 3))
  (eS (mN (dZ 3 k4) (dU (mV 0) (dU (mV 2) (dU (eQ 2 [1] (hK (mV 3)) (gT 2 (gCs (gN 0) (gCs (gN 1) gNl))) fW (eJ (mN (dZ 3 gn) (dU (mV 2) (dU (mV 0) (dU (mV 1) dV)))))) dV))))))
def nX:FN:=iy 4 Bo
theorem Cu {f:dE}(F:eL K "beat" zx f)(b:fI P w K mg base 2 "deed_of" 3 gn)(c:fI P w K mg base 2 "moved" 3 k4)(a:fI P w K mg base 2 "wants" 3 k3):
  fI P w K mg base 3 "beat" 3 nX:=xq ["web","machine","whole","wanted"] X G F λd=>
 (qF (sq (wn a (a3 xv (jq xv qK) xv))) (qG (qU (wn c (a3 xv xv (fk ["mood","sight"] (qd xv) ⟨(tg2 gq gq),fr,(wn b (a3 xv xv xv))⟩))))))
abbrev nG:dR:=top 20
def iU:FS:=(d6 (ea (eQ 1 [3] (t5 (dU (mV 5) dV)) (gN 0) (mB (m2 (b2 yT) (mN (b1 eU) (dU (m2 (b2 dX) (mV 1) (mV 0)) dV)) (mC (D.int 4)))) (eJ (mV 0))) (gN 6))
  (fM (mN (dZ 5 fY) (dU (mV 0) (dU (mV 3) (dU (mV 4) (dU (m2 (b2 dX) (mV 6) (mN (dZ 2 dW) (dU (mV 0) (dU (mN (b1 eU) (dU (mV 6) dV)) dV)))) (dU (mV 5) dV))))))))
def iT:FS:=(d6 (ea (eD (dU (mN (dZ 2 dW) (dU (mV 0) (dU (mV 2) dV))) (dU (mN (dZ 2 dW) (dU (mV 0) (dU (mV 2) dV))) dV))) (gT 2 (gCs (gN 8) (gCs (gN 9) gNl))))
  (gj (oX (mB (m2 (b2 yT) (mN (b1 eU) (dU (m2 (b2 dX) (mV 3) (mV 8)) dV)) (mC (D.int 4)))) (mB (m2 (b2 yT) (mN (b1 eU) (dU (m2 (b2 dX) (mV 3) (mV 9)) dV)) (m2 (b2 gSub) (mC (D.int 4)) (mN (b1 oj) (dU (m2 (b2 m9) (mV 8) (mV 9)) dV)))))) (fM (mN (dZ 5 fY) (dU (mV 0) (dU (mV 3) (dU (mV 4) (dU (mV 8) (dU (mV 9) dV))))))) nY))
def oG:FS:=(d6 (ea (m2 (b2 fA) (mC (D.int 1)) (mN (dZ 2 dW) (dU (mV 0) (dU (mV 1) dV)))) (gN 2))
  (d6 (ea (eD (dU (eQ 1 [] (t5 (dU (mV 2) dV)) (gN 0) fW (eJ (kg dV))) (dU (kg dV) dV))) (gT 2 (gCs (gN 3) (gCs (gN 4) gNl))))
  (d6 (hH (HX (dU (mC (D.int 1)) (dU (mV 2) dV))) (gN 5) iU)
  (d6 (hH (t5 (dU (mN (dZ 2 dW) (dU (mV 0) (dU (mC (D.int 7)) dV))) dV)) (gN 7) iT)
  (eS (mN (b1 gTup) (dU (eQ 1 [3,4] (hK (mV 3)) (gN 0) fW (eJ (mN (b1 gTup) (dU (eQ 1 [1,2] (hK (mV 0)) (gN 0) fW (eJ (mN (dZ 3 gp) (dU (mV 1) (dU (mV 2) (dU (mV 0) dV)))))) dV)))) dV)))))))
def hA:FN:=iy 10 oG
theorem tq {f:dE}(F:eL K "_law_web" nG f)(c:fI P w K mg base 1 "_law_far" 3 gp)(a:fI P w K mg base 1 "_law_take" 2 dW)(b:fI P w K mg base 2 "_law_tie" 5 fY):
  fI P w K mg base 3 "_law_web" 2 hA:=xq ["_law_hand_here","_law_most","_law_many","_law_ends","_law_pairs","_law_room","_law_some","_law_turn","_law_one","_law_other"] X G F λd=>
 (qF (sq (qI fm qK (wn a (a2 xv xv)))) (qF (qR (dY (a2 (fk ["_law_room"] (ir (a1 xv)) ⟨gq,fr,(gK qN)⟩) (gK qN))) (tg2 gq gq)) (qF (fo (uO O (bz B) (a2 qK xv)) gq (qF (gm 6 O (T:=["_law_one"]) (keep:=[3]) ⟨O,by decide+kernel,(kc "_law_ends" (cR _))⟩ O (ir (a1 xv)) (λ_ _ _=>⟨gq,(fJ (ct (oq ms) (cn fq (a1 (jq xv xv))) qK)),xv⟩) (gZ O) O (by first|exact Or.inl rfl|exact Or.inr rfl)) (qG (kw (wn b (qA xv (qA xv (a3 xv (jq xv (wn a (a2 xv (cn fq (a1 xv))))) xv)))))))) (qF (fo (ir (a1 (wn a (a2 xv qK)))) gq (qF (mX 8 9 rfl (gZ rfl) rfl rfl (by decide) rfl rfl (a2 (wn a (a2 xv xv)) (wn a (a2 xv xv)))) (qG (qV (l9 (iN (ct (oq ms) (cn fq (a1 (jq xv xv))) qK) (iB (ct (oq ms) (cn fq (a1 (jq xv xv))) (qI pL qK (cz uz (a1 (ce (oq jo) xv xv)))))))) (qG (kw (wn b (qA xv (qA xv (a3 xv xv xv)))))) qQ)))) (qG (qU (cz fC (a1 (fk ["_law_row"] (qd xv) ⟨gq,fr,(cz fC (a1 (fk ["_law_end_here"] (qd xv) ⟨gq,fr,(wn c (a3 xv xv xv))⟩)))⟩)))))))))
abbrev kK:dR:=top 27
def jm:FS:=(d6 (ea (eD (dU (m2 (b2 dX) (m2 (b2 dX) (m2 (b2 dX) (mV 4) (mC (D.int 0))) (mV 5)) (mC (D.int 2))) (dU (mN (dZ 4 fg) (dU (mV 1) (dU (mV 2) (dU (mV 4) (dU (mV 5) dV))))) dV))) (gN 6))
  (gj (mB (m2 (b2 jR) (mV 6) (mV 3))) (d6 (ea (mC D.non) (gS (b3 hL) (mV 3) (mV 6)))
  (gj (mB (m2 (b2 (ic λi j=>decide (j<i))) (mN (dZ 2 dW) (dU (mV 0) (dU (mC (D.int 12)) dV))) (mC (D.int 0)))) (ea (mN (dZ 1 gz) (dU (mV 0) dV)) (gS (b3 hL) (mV 3) (mV 6))) nY)) nY))
def lB:FS:=(hH (t5 (dU (mN (b1 eU) (dU (m2 (b2 dX) (mV 4) (mC (D.int 0))) dV)) dV)) (gN 5) jm)
def gh:FN:=iy 7 lB
theorem oV {f:dE}(F:eL K "_law_grown" kK f)(a:fI P w K mg base 2 "_law_deed" 1 gz)(c:fI P w K mg base 1 "_law_sight" 4 fg)(e:fI P w K mg base 1 "_law_take" 2 dW):
  fI P w K mg base 3 "_law_grown" 5 gh:=xq ["_law_hand_here","_law_web_here","_law_eyes","_law_rows","_law_whole","_law_k","_law_asked"] X G F (hb:=λ_ _ _ _ _ _ g d=>IX d λ_ _ _ _ _=>rfl) λb=>
 (qG (fo (ir (a1 (cn fq (a1 (jq xv qK))))) gq (qF (sq (dY (a2 (jq (jq (jq xv qK) xv) qK) (wn c (qA xv (a3 xv xv xv)))))) (qG (qV (ct (oq Ad) xv xv (by with_unfolding_all rfl)) (qF (qR eR (kA xv xv (nE b.units))) (qG (qV (ct Af (wn e (a2 xv qK)) qK) (qG (qR (wn a (a1 xv)) (kA xv xv (nE b.units)))) qQ))) qQ)))))
abbrev DL:dR:=top 14
def wv:FS:=(d6 (gj (BE (mN (dZ 1 jp) (dU (mV 4) dV))) (eS (eD (dU (mC (D.str "met")) (dU (mV 6) dV)))) nY)
  (d6 (gj (mB (m2 (b2 yn) (mV 4) (mV 5))) (eS (eD (dU (mC (D.str "round")) (dU (m2 (b2 dX) (mV 5) (mV 4)) (dU (mV 6) dV))))) nY)
  (d6 (ea (mV 6) (gS (b3 hL) (mV 5) (mV 4)))
  (ea (mN (dZ 3 nX) (dU (mV 0) (dU (mV 1) (dU (mV 4) dV)))) (gN 4)))))
def D2:FS:=(d6 (ea (mN (dZ 1 k6) (dU (mV 2) dV)) (gN 4))
  (d6 (ea tL (gN 5))
  (d6 (hH (t5 (dU (m2 (b2 fA) (mV 3) (mC (D.int 1))) dV)) (gN 6) wv)
  (eS (eD (dU (mC (D.str "open")) (dU (mV 3) dV)))))))
def nW:FN:=iy 7 D2
theorem Fi {f:dE}(F:eL K "run" DL f)(a:fI P w K mg base 3 "beat" 3 nX)(b:fI P w K mg base 1 "begun" 1 k6)(c:fI P w K mg base 1 "is_met" 1 jp):
  fI P w K mg base 4 "run" 4 nW:=xq ["web","machine","standing","most","whole","known","passed"] X G F λd=>
 (qF (sq (wn b (a1 xv))) (qF (sq sE) (qF (fo (ir (a1 (qI fm xv qK))) gq (qF (qV (jI (wn c (a1 xv))) (qG (qU (dY (a2 ec xv)))) qQ) (qF (qV (ct (oq Hz) xv xv (by with_unfolding_all rfl)) (qG (qU (dY (a3 ec (jq xv xv) xv)))) qQ) (qF (qR xv (kA xv xv (nE d.units))) (qG (sq (wn a (a3 xv xv xv)))))))) (qG (qU (dY (a2 ec xv)))))))
abbrev ig:dR:=top 28
def gH:FS:=(d6 (fM (mN (dZ 5 gh) (dU (mV 0) (dU (mV 1) (dU (mV 2) (dU (mV 5) (dU (m2 (b2 dX) (mV 6) (mV 7)) dV)))))))
  (d6 (ea (mN (b1 om) (dU (lX 1 [5] (mV 5) (gN 0) (mB (m2 (b2 fz) (m2 (b2 dX) (mV 1) (mV 0)) (mC D.non))) (eJ (eD (dU (mV 0) (dU (m2 (b2 dX) (mV 1) (mV 0)) dV))))) dV)) (gN 8))
  (fM (pP (b2 kl) (mV 6) (dU (mN (dZ 4 gA) (dU (mV 1) (dU (mV 2) (dU (mV 8) (dU (m2 (b2 dX) (mV 6) (mV 7)) dV))))) dV)))))
def iq:FS:=(d6 (ea (eD (dU tL (dU (kg (dU (eD (dU (mN (b1 gTup) (dU (eQ 1 [] (hK (m2 (b2 dX) (mV 3) (mC (D.int 0)))) (gN 0) fW (eJ (eD (dU (mV 0) (dU (mC (D.int 0)) (dU (mC (D.int 0)) dV)))))) dV)) (dU (m2 (b2 dX) (mV 3) (mC (D.int 1))) dV))) dV)) dV))) (gT 2 (gCs (gN 5) (gCs (gN 6) gNl))))
  (d6 (hH (t5 (dU (mV 4) dV)) (gN 7) gH)
  (d6 (ea (eD (dU (mV 2) (dU (mN (b1 gTup) (dU (mN (b1 og) (dU (lX 1 [5] (mV 5) (gN 0) (mB (m2 (b2 fz) (m2 (b2 dX) (mV 1) (mV 0)) (mC D.non))) (eJ (eD (dU (mV 0) (dU (m2 (b2 dX) (mV 1) (mV 0)) dV))))) dV)) dV)) dV))) (gN 9))
  (eS (eD (dU (mV 9) (dU (mV 6) dV)))))))
def fh:FN:=iy 10 iq
theorem kf {f:dE}(F:eL K "_law_drawn_walk" ig f)(a:fI P w K mg base 2 "_law_beat" 4 gA)(b:fI P w K mg base 3 "_law_grown" 5 gh):
  fI P w K mg base 4 "_law_drawn_walk" 5 fh:=xq ["_law_hand_here","_law_web_here","_law_eyes","_law_standing_here","_law_beats","_law_rows","_law_wholes","_law_turn","_law_there","_law_machine"] X G F (hb:=λ_ _ _ _ _ _ e d=>IX d λ_ _ _ _ _=>rfl) λc=>
 (qF (qR (dY (a2 sE (gK (a1 (dY (a2 (cz fC (a1 (fk ["_law_room"] (qd (jq xv qK)) ⟨gq,fr,(dY (a3 xv qK qK))⟩))) (jq xv qK))))))) (tg2 gq gq)) (qF (fo (ir (a1 xv)) gq (qF (kw (wn b (qA xv (qA xv (a3 xv xv (jq xv xv)))))) (qF (sq (cz (Du c) (a1 (pp O (T:=["_law_asked"]) (keep:=[5]) ⟨O,by decide+kernel,(kc "_law_rows" (cR _))⟩ O xv (λ_ _ _=>⟨gq,(fJ (ct jn (jq xv xv) eR)),(dY (a2 xv (jq xv xv)))⟩))))) (qG (lq ap xv (a1 (wn a (qA xv (a3 xv xv (jq xv xv)))))))))) (qF (sq (dY (a2 xv (cz fC (a1 (cn (Ds c.units) (a1 (pp O (T:=["_law_asked"]) (keep:=[5]) ⟨O,by decide+kernel,(kc "_law_rows" (cR _))⟩ O xv (λ_ _ _=>⟨gq,(fJ (ct jn (jq xv xv) eR)),(dY (a2 xv (jq xv xv)))⟩))))))))) (qG (qU (dY (a2 xv xv)))))))
abbrev kJ:dR:=top 31
def lA:FS:=(d6 (ea (mIf (oX (mB (m2 (b2 (ic fun i j=>decide (j<=i))) (mV 4) (m2 (b2 dX) (mV 3) (mC (D.int 1))))) (mB (m2 (b2 fz) (m2 (b2 dX) (mV 3) (mC (D.int 0))) (mC D.non)))) (m2 (b2 dX) (mV 3) (mC (D.int 0))) (eD (dU (mC (D.str "open")) (dU (mV 4) dV)))) (gN 5))
  (eS (m2 (b2 m9) (mN (b1 iL) (dU (mN (dZ 4 nW) (dU (mV 0) (dU (mV 1) (dU (mV 2) (dU (mV 4) dV))))) dV)) (mN (b1 iL) (dU (mV 5) dV)))))
def gg:FN:=iy 6 lA
theorem oU {f:dE}(F:eL K "_law_right" kJ f)(a:fI P w K mg base 4 "run" 4 nW):
  fI P w K mg base 5 "_law_right" 5 gg:=xq ["_law_web_here","_law_machine","_law_standing_here","_law_end_here","_law_most","_law_due"] X G F (hb:=λ_ _ _ _ _ _ d c=>IX c λ_ _ _ _ _=>rfl) λb=>
 (qF (sq (jd (l9 (iN (ct Cy xv (jq xv qK)) (iB (ct jn (jq xv qK) eR)))) (jq xv qK) (dY (a2 ec xv)))) (qG (qU (ce (oq jo) (cn (ss b) (a1 (wn a (qA xv (a3 xv xv xv))))) (cn (ss b) (a1 xv))))))
abbrev jj:dR:=top 32
def iH:FS:=(d6 (ea (mN (dZ 4 nW) (dU (mV 7) (dU (eD (dU (eD dV) (dU (mN (b1 gTup) (dU (mV 6) dV)) dV))) (dU (eD (dU (eD (dU (mC (D.int 0)) (dU (mC (D.int 2)) dV))) (dU (eD dV) dV))) (dU (mV 9) dV))))) (gN 10))
  (gj (mB (m2 (b2 I0) (mN (b1 iL) (dU (mV 10) dV)) (mN (b1 iL) (dU (mIf (mB (m2 (b2 (ic λi j=>decide (j<=i))) (mV 9) (m2 (b2 fA) (mV 1) (mV 2)))) (mV 8) (eD (dU (mC (D.str "open")) (dU (mV 9) dV)))) dV)))) (eS (mC (D.bl J))) nY))
def jC:FS:=(d6 (ea (mN (dZ 2 dW) (dU (mV 0) (dU (mC (D.int 20)) dV))) (gN 1))
  (d6 (ea (m2 (b2 dX) (kg (dU (m2 (b2 fA) (mC (D.int 1)) (mN (dZ 2 dW) (dU (mV 0) (dU (mC (D.int 40)) dV)))) (dU (m2 (b2 fA) (mC (D.int 41)) (mN (dZ 2 dW) (dU (mV 0) (dU (mC (D.int 340)) dV)))) dV))) (mN (b1 oj) (dU (m2 (b2 m9) (mN (dZ 2 dW) (dU (mV 0) (dU (mC (D.int 4)) dV))) (mC (D.int 0))) dV))) (gN 2))
  (d6 (ea (eD (dU (m2 (b2 m9) (mN (dZ 2 dW) (dU (mV 0) (dU (mC (D.int 2)) dV))) (mC (D.int 0))) (dU (eD (dU (mC D.non) (dU (mC D.non) (dU (mC D.non) (dU (mC D.non) dV))))) (dU (m2 (b2 gSub) (m2 (b2 fA) (mV 1) (mV 2)) (mC (D.int 1))) dV)))) (gT 3 (gCs (gN 3) (gCs (gN 4) (gCs (gN 5) gNl)))))
  (d6 (ea (eQ 1 [4] (t5 (dU (mV 5) dV)) (gN 0) fW (eJ (eD (dU (eD (dU (mV 0) (dU (mV 1) dV))) (dU (eD (dU (m2 (b2 fA) (mV 0) (mC (D.int 1))) (dU (mC (D.str "leave")) (dU (mC D.non) dV)))) dV))))) (gN 6))
  (d6 (fM (pP (b2 kl) (mV 6) (dU (eD (dU (eD (dU (mV 5) (dU (mV 4) dV))) (dU (eD (dU (mV 1) (dU (mC (D.str "leave")) (dU (mIf (BE (mV 3)) (mC (D.int 0)) (mC D.non)) dV)))) dV))) dV)))
  (d6 (ea (eD (dU (eD (dU (eD (dU (mC (D.int 1)) (dU (mC (D.int 0)) dV))) dV)) (dU (eD (dU (eD (dU (mC (D.int 0)) (dU (mC (D.int 0)) dV))) (dU (eD (dU (mC (D.int 2)) (dU (mC (D.int 0)) dV))) dV))) (dU (eD (dU (eD (dU (mC (D.int 1)) (dU (mC (D.int 1)) dV))) dV)) dV)))) (gN 7))
  (d6 (ea (mIf (BE (mV 3)) (eD (dU (mC (D.str "met")) (dU (m2 (b2 fA) (mV 1) (mV 2)) dV))) (eD (dU (mC (D.str "round")) (dU (mV 1) (dU (m2 (b2 fA) (mV 1) (mV 2)) dV))))) (gN 8))
  (d6 (hH (hK (eD (dU (m2 (b2 fA) (mV 1) (mV 2)) (dU (mC (D.int 400)) (dU (m2 (b2 gSub) (m2 (b2 fA) (mV 1) (mV 2)) (mC (D.int 1))) dV))))) (gN 9) iH)
  (eS (mC (D.bl M)))))))))))
def fK:FN:=iy 11 jC
theorem mO {f:dE}(F:eL K "_law_counted" jj f)(a:fI P w K mg base 1 "_law_take" 2 dW)(b:fI P w K mg base 4 "run" 4 nW):
  fI P w K mg base 5 "_law_counted" 1 fK:=xq ["_law_hand_here","_law_first","_law_size","_law_meets","_law_blind","_law_last","_law_rows","_law_lane_of_three","_law_due","_law_most","_law_found"] X G F λc=>
 (qF (sq (wn a (a2 xv qK))) (qF (sq (jq (gK (a2 (qI fm qK (wn a (a2 xv qK))) (qI fm qK (wn a (a2 xv qK))))) (cz uz (a1 (ce (oq jo) (wn a (a2 xv qK)) qK))))) (qF (qR (dY (a3 (ce (oq jo) (wn a (a2 xv qK)) qK) (dY (qA eR (a3 eR eR eR))) (qI pL (qI fm xv xv) qK))) (gJ O (eh gq (eh gq (eh gq gb))))) (qF (gm 6 O (T:=["_law_mood"]) (keep:=[4]) ⟨O,by decide+kernel,(kc "_law_blind" (cR _))⟩ O (ir (a1 xv)) (λ_ _ _=>⟨gq,fr,(dY (a2 (dY (a2 xv xv)) (dY (a3 (qI fm xv qK) ec eR))))⟩) (gZ O) O (by first|exact Or.inl rfl|exact Or.inr rfl)) (qF (lq ap xv (a1 (dY (a2 (dY (a2 xv xv)) (dY (a3 xv ec (jd (jI xv) qK eR))))))) (qF (sq (dY (a3 (dY (a1 (dY (a2 qK qK)))) (dY (a2 (dY (a2 qK qK)) (dY (a2 qK qK)))) (dY (a1 (dY (a2 qK qK))))))) (qF (sq (jd (jI xv) (dY (a2 ec (qI fm xv xv))) (dY (a3 ec xv (qI fm xv xv))))) (qF (fo (qd (dY (a3 (qI fm xv xv) qK (qI pL (qI fm xv xv) qK)))) gq (qF (sq (wn b (qA xv (a3 (dY (a2 (dY qN) (cz fC (a1 xv)))) (dY (a2 (dY (a2 qK qK)) (dY qN))) xv)))) (qG (qV (ct (oq JJ) (cn (ss c) (a1 xv)) (cn (ss c) (a1 (jd (ct Cy xv (qI fm xv xv)) xv (dY (a2 ec xv)))))) (qG (qU nq)) qQ)))) (qG (qU nq))))))))))
abbrev sR:dR:=top 33
def rj:FS:=(gj (Ax (BE (mN (dZ 5 gg) (dU (mV 3) (dU (mV 6) (dU (mV 5) (dU (mV 8) (dU (mV 10) dV)))))))) (eS (mC (D.bl J))) nY)
def ri:FS:=(d6 (ea (mN (dZ 2 fx) (dU (mV 0) (dU (mV 1) dV))) (gN 2))
  (d6 (ea (eD (dU (mN (dZ 2 hA) (dU (mV 2) (dU (mC (D.int 8)) dV))) (dU (mN (dZ 1 ft) (dU (mV 2) dV)) dV))) (gT 2 (gCs (gN 3) (gCs (gN 4) gNl))))
  (d6 (ea (mN (dZ 3 fE) (dU (mV 2) (dU (mN (b1 eU) (dU (mV 3) dV)) (dU (mC (D.int 3)) dV)))) (gN 5))
  (d6 (ea (mN (dZ 5 fh) (dU (mV 2) (dU (mV 3) (dU (mV 4) (dU (mV 5) (dU (mC (D.int 40)) dV)))))) (gT 2 (gCs (gN 6) (gCs (gN 7) gNl))))
  (d6 (ea (mN (dZ 1 hC) (dU (mV 7) dV)) (gN 8))
  (d6 (ea (kg (dU (mC (D.int 0)) (dU (mN (dZ 2 dW) (dU (mV 2) (dU (mC (D.int 41)) dV))) (dU (mN (b2 vt) (dU (mC (D.int 0)) (dU (m2 (b2 gSub) (mN (b2 oh) (dU (mC (D.int 40)) (dU (m2 (b2 dX) (mV 8) (mC (D.int 1))) dV))) (mC (D.int 1))) dV))) (dU (mN (b2 oh) (dU (mC (D.int 40)) (dU (m2 (b2 dX) (mV 8) (mC (D.int 1))) dV))) (dU (mN (b2 oh) (dU (mC (D.int 40)) (dU (m2 (b2 fA) (m2 (b2 dX) (mV 8) (mC (D.int 1))) (mC (D.int 1))) dV))) dV)))))) (gN 9))
  (d6 (gj (oX (mB (m2 (b2 fz) (m2 (b2 dX) (mV 8) (mC (D.int 0))) (mC D.non))) (oX (mB (m2 (b2 m9) (mV 1) (mC (D.int 0)))) (mB (m2 (b2 m9) (mN (dZ 2 dW) (dU (mV 2) (dU (mC (D.int 16)) dV))) (mC (D.int 0)))))) (fM (pP (b2 kl) (mV 9) (dU (mC (D.int 400)) dV))) nY)
  (hH (hK (m2 (b2 fA) (mV 9) (rE (mV 9) j5 (mx (mC (D.int 2)))))) (gN 10) rj))))))))
def ww:FS:=(pO [M,M,J,J,J,J,J,J,J,J,J] [M,J,J,J,J,J,J,J,J,J,J] ri)
def Bn:FS:=(d6 (gj (Ax (BE (mN (dZ 1 fK) (dU (mN (dZ 2 fx) (dU (mV 0) (dU (mC (D.int 0)) dV))) dV)))) (eS (mC (D.bl false))) nY)
  (d6 (hH (t5 (dU (mN (b2 vt) (dU (mC (D.int 1)) (dU (mN (b2 oh) (dU (mC (D.int 4)) (dU (mN (b1 eU) (dU (mV 0) dV)) dV))) dV))) dV)) (gN 1) ww)
  (eS (mC (D.bl M)))))
def m_law:FN:=iy 11 Bn
theorem Fj {f:dE}{fd:dQ}(F:yX K "law" "law" sR f fd)(l:fI P w K mg base 5 "_law_counted" 1 fK)(d:fI P w K mg base 4 "_law_drawn_walk" 5 fh)(h:fI P w K mg base 2 "_law_end" 1 hC)(a:fI P w K mg base 1 "_law_hand" 2 fx)(j:fI P w K mg base 5 "_law_right" 5 gg)(e:fI P w K mg base 2 "_law_some_eyes" 1 ft)(i:fI P w K mg base 2 "_law_standing" 3 fE)(m:fI P w K mg base 1 "_law_take" 2 dW)(c:fI P w K mg base 3 "_law_web" 2 hA):
  l8 P w K mg base uI 6 f fd ["_law_script"] (BA K 1 m_law):=D8 (k:=5) (n:=1) (N:=["_law_script","_law_k","_law_hand_here","_law_web_here","_law_eyes","_law_standing_here","_law_machine","_law_wholes","_law_end_here","_law_some","_law_most"]) (ps:=["_law_script"]) (b:=Bn) F sk O λo A g s H E p=>
 (qF (qV (vQ (jI (wn l (a1 (wn a (a2 xv qK)))))) (qG (qU nq)) qQ) (qF (fo (ir (a1 (cn (D1 O) (a2 qK (cn (xi O) (a2 qK (cn fq (a1 xv)))))))) gq (xz [M,M,J,J,J,J,J,J,J,J,J] [M,J,J,J,J,J,J,J,J,J,J] (qF (sq (wn a (a2 xv xv))) (qF (mX 3 4 O (gZ O) O O (by decide) O O (a2 (wn c (a2 xv qK)) (wn e (a1 xv)))) (qF (sq (wn i (a3 xv (cn fq (a1 xv)) qK))) (qF (qR (wn d (qA xv (qA xv (a3 xv xv qK)))) (tg2 gq gq)) (qF (sq (wn h (a1 xv))) (qF (sq (gK (qA qK (qA (wn m (a2 xv qK)) (a3 (cn (D1 O) (a2 qK (qI pL (cn (xi O) (a2 qK (jq xv qK))) qK))) (cn (xi O) (a2 qK (jq xv qK))) (cn (xi O) (a2 qK (qI fm (jq xv qK) qK)))))))) (qF (qV (l9 (iN (ct jn (jq xv qK) eR) (iN (ct (oq jo) xv qK) (iB (ct (oq jo) (wn m (a2 xv qK)) qK))))) (qG (lq ap xv (a1 qK))) qQ) (qG (fo (qd (qI fm xv (no xv sD (sC qK)))) gq (qG (qV (vQ (jI (wn j (qA xv (qA xv (a3 xv xv xv)))))) (qG (qU nq)) qQ))))))))))))) (qG (qU nq))))
end
theorem all_mk {l:PySem.W.OpenLaw}{w:dH}{K:Fg1}{h:dP}{mg:Str->Option dB}{fa f1 f2 f3 f4 f5 f6 f7 f8 f9 f10 A f12 f13 u f15 f16 R U f19 f20 r f22 aq j f25 Q L I D:dE}(X:K.In h)(G:h.Ns dI mg)(wq:mg "law"=some (.ref fa))
  {g1 g2 g5 g8 d:dE}
  {t3 t4 t6 t7 t9 t10 x t13:Tok}
  {od2 od5 od8 c au:Option dE} {n2 n5 n8 m n1:Nat} {sl2 H sl8 b sl1:Array (Option dB)}
  (a1:eL K "first_of" nF f1)
  (a2:eL K "begun" wb f2)
  (a3:eL K "sight_of" nD f3)
  (a4:eL K "handled" pA f4)
  (a5:eL K "stepped" pz f5)
  (a6:eL K "is_met" sS f6)
  (a7:eL K "_law_hand" me f7)
  (a8:eL K "_law_take" md f8)
  (a9:eL K "_law_far" nJ f9)
  (W:eL K "_law_sight" kI f10)
  (a11:eL K "_law_chalked" jk A)
  (N:eL K "_law_met" nI f12)
  (a13:eL K "deed_of" pB f13)
  (n:eL K "wants" v9 u)
  (a15:eL K "moved" wa f15)
  (am:eL K "_law_tie" nH f16)
  (a17:eL K "_law_standing" i5 R)
  (S:eL K "_law_some_eyes" iF U)
  (t:eL K "_law_beat" mh f19)
  (q:eL K "_law_deed" mf f20)
  (V:eL K "_law_end" nK r)
  (a22:eL K "beat" zx f22)
  (F:eL K "_law_web" nG aq)
  (T:eL K "_law_grown" kK j)
  (a25:eL K "run" DL f25)
  (a26:eL K "_law_drawn_walk" ig Q)
  (k:eL K "_law_right" kJ L)
  (i:eL K "_law_counted" jj I)
  (g:eL K "law" sR D)
  (e_PARTS:wN1 K dI "PARTS"=Z (Z (Value.ref g1)))
  (h1:K.lookup g1=Z ⟨.type "tuple",au,.seq ([(Value.ref g2),(Value.ref g5),(Value.ref g8),(Value.ref d)]:List dB).toArray n1,sl1⟩)
  (h2:K.lookup g2=Z ⟨.type "tuple",od2,.seq ([(Value.str "came" t3),(Value.int (5) t4)]:List dB).toArray n2,sl2⟩)
  (h5:K.lookup g5=Z ⟨.type "tuple",od5,.seq ([(Value.str "chalk" t6),(Value.int (2) t7)]:List dB).toArray n5,H⟩)
  (h8:K.lookup g8=Z ⟨.type "tuple",od8,.seq ([(Value.str "doors" t9),(Value.int (5) t10)]:List dB).toArray n8,sl8⟩)
  (h11:K.lookup d=Z ⟨.type "tuple",c,.seq ([(Value.str "others" x),(Value.int (2) t13)]:List dB).toArray m,b⟩)
  (z:IG K BL):∃fd:dQ,(∀(s:dD) (v:dB),BindsTo s fd ⟨[v],[]⟩ [("_law_script",v)]) /\ ∀base:dP,K.In base->base.Ns dI mg->l8 l.prog w K mg base uI 6 fa fd ["_law_script"] (BA K 1 m_law):=by
 have e:=wq.symm.trans (wM1 X G g.ns);cases e;have B:Blt BL mg:=z.blt X G;have c0:CGl K mg "PARTS" nh:=Gr (wM1 X G e_PARTS) (oA h1 (by show 4<=dL;decide) (fG (oA h2 (by show 2<=dL;decide) (fG se (fG si lp))) (fG (oA h5 (by show 2<=dL;decide) (fG se (fG si lp))) (fG (oA h8 (by show 2<=dL;decide) (fG se (fG si lp))) (fG (oA h11 (by show 2<=dL;decide) (fG se (fG si lp))) lp)))));obtain⟨_,⟨⟨_,_,kV,dc,pm,an,cd,ct,_,rfl,lL,cL⟩,kL⟩⟩:=g.fn;refine⟨wF1 "law" "law" (ip sR) (fB sR) (ev sR) .none kV dc pm an cd ct,λs v=>.of_eq O,λbase _ _=>?_⟩;have o0:=tm (P:=l.prog) (w:=w) (base:=base) X G B a1;have C:=Ab (P:=l.prog) (w:=w) (base:=base) X G B a2;have o1:=tj (P:=l.prog) (w:=w) (base:=base) X G B a3 c0;have o2:=ve (P:=l.prog) (w:=w) (base:=base) X G B a4;have o3:=vd (P:=l.prog) (w:=w) (base:=base) X G B a5;have o16:=xR (P:=l.prog) (w:=w) (base:=base) X G B a6;have o23:=ro (P:=l.prog) (w:=w) (base:=base) X G B a7;have a:=rn (P:=l.prog) (w:=w) (base:=base) X G B a8;have o11:=tz (P:=l.prog) (w:=w) (base:=base) X G B a9;have o6:=oT (P:=l.prog) (w:=w) (base:=base) X G B W;have o5:=mP (P:=l.prog) (w:=w) (base:=base) X G B a11;have o7:=tw (P:=l.prog) (w:=w) (base:=base) X G B N;have o8:=vf X G B a13 o0;have y:=z9 X G B n o1;have o9:=Aa X G B a15 o2 o3;have p:=tu X G B am a;have o26:=lP X G B a17 a;have o25:=kW X G B S a;have o17:=rq X G B t o5 o6;have o13:=rp X G B q a;have o22:=tE X G B V o7;have o14:=Cu X G B a22 o8 o9 y;have o27:=tq X G B F o11 a p;have o:=oV X G B T o13 o6 a;have f:=Fi X G B a25 o14 C o16;have o21:=kf X G B a26 o17 o;have ao:=oU X G B k f;have E:=mO X G B i a f;exact Fj (P:=l.prog) (w:=w) (base:=base) X G B (A0 lL cL kL) E o21 o22 o23 ao o25 o26 a o27
noncomputable def hnd(g m c:Int):Ob:=.lst [.int g,.int m,.int c]
noncomputable def Fz(m c:Int):Int:=(m+65537*c*c+11)*48271%2305843009213693921
def Ap(m c:Int):Int:=Fz m c*(Fz m c%1000003+99991*c)%2305843009213693907
theorem Iw{a b c:D}:vF [a,b,c] 0=Z a:=by rfl
theorem J7{a b c:D}:vF [a,b,c] 1=Z b:=by rfl
theorem J4{a b c:D}:vF [a,b,c] 2=Z c:=by rfl
theorem En{T:Sto}{g m c k:Int}(hg:0<g)(hk:0<k)(a:k<1073741824):
  dW [.ref 0,.int k] (hnd g m c::T)=Z (.int (g%k),hnd (g/k) m c::T):=by
 simp[dW,iy,iu,jA,d6,gj,mB,m2,b2,ic,mV,mC,dX,mR,BH,d7,hnd,hg,hk,a,ea,gN,lg,pd,gS,b3,hL,mE,kk,eS,Iw,x4]
theorem Em{T:Sto}{g m c k:Int}(hg:¬ 0<g)(hk:0<k)(a:k<1073741824)(hc:0<=c)(f:c<2^60):
  dW [.ref 0,.int k] (hnd g m c::T)=Z (.int ((Ap m (c+1)/97+Ap m (c+1)/1000033)%k),hnd g m (c+1)::T):=by
 have d:eY 65537 (c+1)=M:=pM (by decide) (by decide);have b:eY (65537*(c+1)) (c+1)=M:=wC (by omega) (by omega);have e:eY (m+65537*(c+1)*(c+1)+11) 48271=M:=wC (by decide) (by decide);have i:eY 99991 (c+1)=M:=pM (by decide) (by decide);have q:=Int.emod_lt_of_pos ((m+65537*(c+1)*(c+1)+11)*48271) (show(0:Int)<2305843009213693921 by decide);have j:=Int.emod_nonneg ((m+65537*(c+1)*(c+1)+11)*48271) (show(2305843009213693921:Int)≠0 by decide);have h:eY ((m+65537*(c+1)*(c+1)+11)*48271%2305843009213693921) ((m+65537*(c+1)*(c+1)+11)*48271%2305843009213693921%1000003+99991*(c+1))=M:=pM (by omega) (by omega);simp[dW,iy,iu,jA,d6,gj,mB,m2,b2,ic,mV,mC,dX,mR,BH,d7,hnd,hg,hk,a,ea,gN,lg,pd,gS,b3,hL,mE,kk,eS,Iw,J7,J4,x4,nY,fA,jU,d,b,e,i,h,Fz,Ap]
def gD(o:Ob)(n:Nat):Prop:=∃g m c:Int,o=hnd g m c/\0<=c/\c<=n
theorem gD.und{o:Ob}{n k:Nat}(h:gD o n):o.und k=M:=by
 obtain⟨g,m,c,rfl,_⟩:=h;rfl
theorem gD.more{o:Ob}{n k:Nat}(h:gD o n)(hk:n<=k):gD o k:=by
 obtain⟨g,m,c,e,a,h1⟩:=h;exact⟨g,m,c,e,a,by lia⟩
theorem eV{o:Ob}{n:Nat}{k:Int}{T:Sto}{Q:D×Sto->Prop}(ho:gD o n)(hn:n<=2^50)(hk:0<k)(a:k<1073741824)(h:∀(d:Nat) o',gD o' (n+1)->(d:Int)<k->Q (.int d,o'::T)):W (dZ 2 dW [.ref 0,.int k] (o::T)) Q:=by
 obtain⟨g,m,c,rfl,i,h1⟩:=ho;have call:∀d o',dW [.ref 0,.int k] (hnd g m c::T)=Z (d,o'::T)->dZ 2 dW [.ref 0,.int k] (hnd g m c::T)=Z (d,o'::T):=λd o e=>l5 e O (by simp[D.unds,D.und]) (by simp);by_cases f:0<g
 ·have b:=Int.emod_nonneg g (show k≠0 by lia);obtain⟨d,e⟩:=Int.eq_ofNat_of_zero_le b;refine⟨_,call _ _ (En f hk a),?_⟩;rw[e];exact h d _ ⟨_,_,_,O,i,by lia⟩ (by rw[<- e];exact Int.emod_lt_of_pos _ hk)
 ·have b:=Int.emod_nonneg (Ap m (c+1)/97+Ap m (c+1)/1000033) (show k≠0 by lia);obtain⟨d,e⟩:=Int.eq_ofNat_of_zero_le b;refine⟨_,call _ _ (Em f hk a i (by lia)),?_⟩;rw[e];exact h d _ ⟨_,_,_,O,by lia,by push_cast;lia⟩ (by rw[<- e];exact Int.emod_lt_of_pos _ hk)
theorem AW(ns:List Int)(k:Int)(h0:0<=k)(hk:k<63):∃g m,fx [.rol (ns.map D.int),.int k] []=Z (.ref 0,[hnd g m 0]):=by
 have h:eY (10^60) (10^30)=M:=by decide+kernel
 have d:eY 7919 k=M:=pM (by decide) (by decide);have e:eY 0 0=M:=pM (by decide) (by decide);have c:∀(x:Int) (b:Prop) [Decidable b],eY x (if b then 1 else 0)=M:=λx b _=>by
  split
  ·exact wC (by decide) (by decide)
  ·exact wC (by decide) (by decide)
 have lt:yT (.int k) (.int ns.length) []=Z (.bl (decide (k<ns.length)),[]):=by rfl
 by_cases f:k<ns.length
 ·have a:vF (ns.map D.int) k=some (.int (ns[k.toNat]'(by lia))):=by
   unfold vF x4;rw[ak h0,ak (by simpa using f)];simp[show k.toNat<ns.length by lia]
  generalize i:ns[k.toNat]'(by lia)=x at a
  simp[fx,iy,iu,jB,d6,gj,mB,m2,b2,b1,mN,dU,dV,ic,mV,mC,dX,mR,BH,eU,d7,ea,gN,lg,jU,fA,vr,oj,eS,kg,lt,f,a,d,c,dL,hnd,nY];simp[show eY 1000000000000000000000000000000000000000000000000000000000000 1000000000000000000000000000000=M from h,d,c]
 ·simp[fx,iy,iu,jB,d6,gj,mB,m2,b2,b1,mN,dU,dV,ic,mV,mC,dX,mR,BH,eU,d7,ea,gN,lg,jU,fA,vr,oj,eS,kg,lt,f,d,c,dL,hnd,nY];simp[show eY 1000000000000000000000000000000000000000000000000000000000000 1000000000000000000000000000000=M from h,e,d,c]
theorem wR(ns:List Int)(k:Int)(h0:0<=k)(hk:k<63):∃o,dZ 2 fx [.rol (ns.map D.int),.int k] []=Z (.ref 0,[o])/\gD o 0:=by
 have key:=AW ns k h0 hk;obtain⟨g,m,e⟩:=key;refine⟨hnd g m 0,?_,_,_,_,O,Int.le_refl _,Int.le_refl _⟩;rw[uy (n:=2) e O (by rw[D.unds,D.und,lI];rfl) (by simp[D.und])];simp[D.sh,Ob.sh,D.shs,hnd]
noncomputable def ins(k:Nat)(e:Nat×Nat)(row:List (Nat×Nat)):List (Nat×Nat):=row.take k++e::row.drop k
theorem lc{k:Nat}{e:Nat×Nat}{row:List (Nat×Nat)}:(ins k e row).length=row.length+1:=by
 unfold ins;rw[lA1,lC1,aQ,aU];lia
theorem mem_ins{k:Nat}{e x:Nat×Nat}{row:List (Nat×Nat)}:x∈ins k e row↔x=e\/x∈row:=by
 unfold ins;rw[aG,aF]
 conv=>rhs;rhs;rw[<- cI k row,aG]
 constructor
 ·rintro(h|h|h)
  ·exact .inr (.inl h)
  ·exact .inl h
  ·exact .inr (.inr h)
 ·rintro(h|h|h)
  ·exact .inr (.inl h)
  ·exact .inl h
  ·exact .inr (.inr h)
theorem wN{k:Nat}{e:Nat×Nat}{row:List (Nat×Nat)}:(row.map pD).take k++pD e::(row.map pD).drop k=(ins k e row).map pD:=by
 unfold ins;rw[cE,mP1,di,List.map_drop]
theorem jE{t m i:Nat}{T:Sto}{E:List (List (Nat×Nat))}{P:List (Nat×Nat)}{U:Sto}{o:Ob}{Q:D×Sto->Prop}(w:WS t m T E P U)(hi:i<m)(q:Q (.ref (t+i+1),o::U)):W (dX (.ref (t+m+1)) (.int i) (o::U)) Q:=
 i9 (xs:=ke (t+1) m) (x:=.ref (t+i+1)) (by rw[gC1];exact w.ends) (by rw[ra hi];congr 2;lia) q
theorem zj{t m a b n:Nat}{T:Sto}{E:List (List (Nat×Nat))}{P:List (Nat×Nat)}{U:Sto}{o:Ob}{Q:D×Sto->Prop}(w:WS t m T E P U)(ho:gD o n)(hn:n<=2^45)(ha:a<m)(hb:b<m){f:List (Nat×Nat)}(s:E[a]? = some f)(am:f.length<100)(F:∀ rb,E[b]? = some rb->rb.length<100)(L:P.length<500)(h:∀g i rb o' A,gD o' (n+2)->(E.set a (ins g (P.length,0) f))[b]?=some rb->WS t m T ((E.set a (ins g (P.length,0) f)).set b (ins i (P.length,1) rb)) (P++[(a,b)]) A->Q (.non,o'::A)):
  W (dZ 5 fY [.ref 0,.ref (t+m+1),.ref (t+m+2),.int a,.int b] (o::U)) Q:=by
 have key:W (fY [.ref 0,.ref (t+m+1),.ref (t+m+2),.int a,.int b] (o::U)) λp=>p.2.length=(o::U).length/\Q p:=by
  unfold fY;refine lW ?_;unfold oH;refine eF (λr S=>∃g o',gD o' (n+1)/\r=[Z (.ref 0),Z (.ref (t+m+1)),Z (.ref (t+m+2)),Z (.int a),Z (.int b)]/\S=o'::U.set (t+a) (sT (ins g (P.length,0) f))) ?_ ?_
  ·walk_at"w";refine i8 ?_;walk_at"w";refine jE w ha ?_;refine⟨t+a+1,f.map pD,O,by rw[gC1];exact w.row a f s,?_⟩;walk_at"w";refine jE w ha ?_;walk_at"w";refine eK (xs:=f.map pD) (by rw[gC1];exact w.row a f s) ?_;walk_at"w";rw[lM1,show((f.length:Int)+1)=((f.length+1:Nat):Int) by push_cast;rfl];refine eV ho (by lia) (by lia) (by lia) λg z l C=>?_;walk_at"w";refine eK (xs:=P.map pD) (by rw[gC1];exact w.prs) ?_;walk_at"w";rw[lM1];refine D4 (xs:=f.map pD) (v:=pD (P.length,0)) (k:=g) (by rw[gC1];exact w.row a f s) (by rw[lM1];lia) (by rw[lM1];lia) ?_;refine⟨g,z,l,?_⟩;rw[wN,c7];rfl
  rintro r S ⟨g,z,l,rfl,rfl⟩;have j:=w.setRow (row:=ins g (P.length,0) f) ha;obtain⟨rb,c⟩:∃rb,(E.set a (ins g (P.length,0) f))[b]?=some rb:=by
   have:b<(E.set a (ins g (P.length,0) f)).length:=by rw[j.el];exact hb
   exact⟨_,gG1 this⟩
  have B:rb.length<200:=by
   by_cases e:a=b
   ·subst e;rw[aI (by rw[w.el];exact ha)]at c;cases c;rw[lc];lia
   ·rw[gS1 e]at c;have:=F rb c;lia
  refine eF (λr S=>∃i o',gD o' (n+2)/\r=[Z (.ref 0),Z (.ref (t+m+1)),Z (.ref (t+m+2)),Z (.int a),Z (.int b)]/\S=o'::(U.set (t+a) (sT (ins g (P.length,0) f))).set (t+b) (sT (ins i (P.length,1) rb))) ?_ ?_
  ·walk_at"w";refine i8 ?_;walk_at"w";refine jE j hb ?_;refine⟨t+b+1,rb.map pD,O,by rw[gC1];exact j.row b rb c,?_⟩;walk_at"w";refine jE j hb ?_;walk_at"w";refine eK (xs:=rb.map pD) (by rw[gC1];exact j.row b rb c) ?_;walk_at"w";rw[lM1,show((rb.length:Int)+1)=((rb.length+1:Nat):Int) by push_cast;rfl];refine eV l (by lia) (by lia) (by lia) λi y u H=>?_;walk_at"w";refine eK (xs:=P.map pD) (by rw[gC1];exact j.prs) ?_;walk_at"w";rw[lM1];refine D4 (xs:=rb.map pD) (v:=pD (P.length,1)) (k:=i) (by rw[gC1];exact j.row b rb c) (by rw[lM1];lia) (by rw[lM1];lia) ?_;refine⟨i,y,u,?_⟩;rw[wN,c7];rfl
  rintro r S ⟨i,y,u,rfl,rfl⟩;have x:=j.setRow (row:=ins i (P.length,1) rb) hb;walk_at"w";refine i8 ?_;walk_at"w";refine⟨t+m+2,P.map pD,O,by rw[gC1];exact x.prs,?_⟩
  try walk_at"w"
  rw[oM (xs:=P.map pD) (by rw[gC1];exact x.prs)];refine⟨ee (by rw[lM1];lia),?_,?_⟩
  ·simp
  ·have G:=x.setPrs (P':=P++[(a,b)]);rw[c7];have e:P.map pD++[D.tup [D.int ↑a,D.int ↑b]]=(P++[(a,b)]).map pD:=by simp[pD]
   rw[e];exact h g i rb y _ u c G
 obtain⟨⟨d,K⟩,e,I,q⟩:=key;exact⟨_,l5 e O O I,q⟩
abbrev ew:=List (List (Nat×Nat))
structure WI (m:Nat)(E:ew)(P:List (Nat×Nat)):Prop where
 len:E.length=m
 pr:∀(i:Nat) (p:Nat×Nat),P[i]?=some p->(∃r0,E[p.1]?=some r0/\(i,0)∈r0) /\ ∃r1,E[p.2]?=some r1/\(i,1)∈r1
 en:∀(i:Nat) (row:List (Nat×Nat)),E[i]?=some row -> ∀e∈row,e.1<P.length/\e.2<=1
 le:∀(i:Nat) (row:List (Nat×Nat)),E[i]?=some row->row.length<=4
 tt:tot E=2*P.length
theorem nA{E:ew}{i k:Nat}{e:Nat×Nat}{row:List (Nat×Nat)}(h:E[i]?=Z row){j:Nat}{r:List (Nat×Nat)}(b:E[j]?=Z r):∃r',(E.set i (ins k e row))[j]?=Z r' /\ ∀x∈r,x∈r':=by
 by_cases z:i=j
 ·subst z;rw[h]at b;cases b;exact⟨_,aI (gE1.mp h).1,λx a=>mem_ins.mpr (.inr a)⟩
 ·exact⟨r,by rw[gS1 z];exact b,λx a=>a⟩
theorem kH{E:ew}{i k:Nat}{e:Nat×Nat}{row:List (Nat×Nat)}(h:E[i]?=Z row){j:Nat}{b:List (Nat×Nat)}(a:(E.set i (ins k e row))[j]?=Z b):(i=j/\b=ins k e row)\/(i≠j/\E[j]?=Z b):=by
 by_cases z:i=j
 ·subst z;rw[aI (gE1.mp h).1]at a;cases a;exact .inl ⟨O,O⟩
 ·rw[gS1 z]at a;exact .inr ⟨z,a⟩
theorem WI.tie{m a b h q:Nat}{E:ew}{P:List (Nat×Nat)}{g t:List (Nat×Nat)}(w:WI m E P)(ha:E[a]? = some g)(ao:g.length<4)(hb:(E.set a (ins h (P.length,0) g))[b]? = some t)(L:t.length<4):
  WI m ((E.set a (ins h (P.length,0) g)).set b (ins q (P.length,1) t)) (P++[(a,b)]):=by
 have a1:(E.set a (ins h (P.length,0) g))[a]?=Z (ins h (P.length,0) g):=aI (gE1.mp ha).1;refine⟨by rw[aV,aV];exact w.len,λi p v=>?_,λj c d e f=>?_,λj c d=>?_,?_⟩
 ·by_cases hi:i<P.length
  ·rw[gL1 hi]at v;obtain⟨⟨K,G,F⟩,am,h1,m1⟩:=w.pr i p v;obtain⟨s,l,x⟩:=nA (k:=h) (e:=(P.length,0)) ha G;obtain⟨r,n,B⟩:=nA (k:=q) (e:=(P.length,1)) hb l;obtain⟨I,y,D⟩:=nA (k:=h) (e:=(P.length,0)) ha h1;obtain⟨u,o,A⟩:=nA (k:=q) (e:=(P.length,1)) hb y;exact⟨⟨r,n,B _ (x _ F)⟩,u,o,A _ (D _ m1)⟩
  ·have z:i=P.length:=by
    have:=(gE1.mp v).1;simp at this;lia
   subst z;rw[List.getElem?_concat_length]at v;cases v;obtain⟨s,l,x⟩:=nA (k:=q) (e:=(P.length,1)) hb a1;exact⟨⟨s,l,x _ (mem_ins.mpr (.inl O))⟩,_,aI (gE1.mp hb).1,mem_ins.mpr (.inl O)⟩
 ·rw [lA1,aX];have old:∀ (j:Nat) (c:List (Nat×Nat)),(E.set a (ins h (P.length,0) g))[j]? = some c -> ∀ e∈c,e.1<P.length+1/\e.2<=1:=fun j c d e f=>by
   rcases kH ha d with⟨_,rfl⟩|⟨_,d⟩
   ·rcases mem_ins.mp f with rfl|f
    ·exact⟨by simp,by simp⟩
    ·have:=w.en a g ha e f;exact⟨by lia,this.2⟩
   ·have:=w.en j c d e f;exact⟨by lia,this.2⟩
  rcases kH hb d with⟨_,rfl⟩|⟨_,d⟩
  ·rcases mem_ins.mp f with rfl|f
   ·exact⟨by simp,by simp⟩
   ·exact old b t hb e f
  ·exact old j c d e f
 ·rcases kH hb d with⟨_,rfl⟩|⟨_,d⟩
  ·rw[lc];lia
  ·rcases kH ha d with⟨_,rfl⟩|⟨_,d⟩
   ·rw[lc];lia
   ·exact w.le j c d
 ·have H:=qx (row':=ins h (P.length,0) g) ha;have C:=qx (row':=ins q (P.length,1) t) hb;have:=w.tt;rw[lc]at H C;rw[lA1,aX];lia
def webD(w:ew):D:=.tup (w.map λrow=>.tup (row.map pD))
structure kb (m:Nat)(w:ew):Prop where
 len:w.length=m
 le:∀row∈w,row.length<=4
 to:∀row∈w,∀e∈row,∃r,w[e.1]?=some r/\e.2<r.length
theorem gy(w:ew):(webD w).und 0=M:=by
 unfold webD;rw[D.und];exact fb λa _=>by rw[D.und];exact fb λ_ _=>rfl
noncomputable def vw(E:ew)(P:List (Nat×Nat))(e:Nat×Nat):Nat×Nat:=
 let p:=P.getD e.1 (0,0)
 let room:=if e.2=0 then p.2 else p.1
 (room,((E.getD room []).findIdx? (· == (e.1,1-e.2))).getD 0)
theorem A3{m:Nat}{E:ew}{P:List (Nat×Nat)}(w:WI m E P){i:Nat}{row:List (Nat×Nat)}(hr:E[i]? = some row){e:Nat×Nat}(he:e∈row):
  ∃p a r j,P[e.1]?=Z p/\e.2<=1/\a=(if e.2=0 then p.2 else p.1)/\E[a]?=Z r/\r.findIdx? (· == (e.1,1-e.2))=Z j/\j<r.length/\vw E P e=(a,j):=by
 obtain⟨h1,h2⟩:=w.en i row hr e he;obtain⟨p,c⟩:∃p,P[e.1]?=some p:=⟨_,gG1 h1⟩;obtain⟨⟨o,q,s⟩,n,l,m1⟩:=w.pr _ p c;have b:∀(r:List (Nat×Nat)) (x:Nat×Nat),x∈r -> ∃j,r.findIdx? (· == x)=Z j/\j<r.length:=λr x t=>by
  cases h:r.findIdx? (· == x)with
  |none=>
   rw[List.findIdx?_eq_none_iff]at h;have:=h x t;simp at this
  |some j=>exact⟨j,O,(b6.mp h).1⟩
 by_cases g:e.2=0
 ·obtain⟨j,d,k⟩:=b n (e.1,1) m1;refine⟨p,p.2,n,j,c,h2,by rw[ak g],l,by rw[g];exact d,k,?_⟩;simp[vw,bJ,c,l,g,d]
 ·have f:e.2=1:=by lia
  obtain⟨j,d,k⟩:=b o (e.1,0) s;refine⟨p,p.1,o,j,c,h2,by rw[aj g],q,by rw[f];exact d,k,?_⟩;simp[vw,bJ,c,q,f,d]
theorem Ec{m:Nat}{E:ew}{P:List (Nat×Nat)}(w:WI m E P):kb m (E.map λa=>a.map (vw E P)):=by
 refine⟨by rw[lM1];exact w.len,?_,?_⟩
 ·intro a c;obtain⟨r,b,rfl⟩:=cf.mp c;obtain⟨i,hi⟩:=bo b;rw[lM1];exact w.le i r hi
 ·intro a c e f;obtain⟨r,b,rfl⟩:=cf.mp c;obtain⟨i,hi⟩:=bo b;obtain⟨x,k,rfl⟩:=cf.mp f;obtain⟨p,d,h,j,_,_,_,n,o,l,g⟩:=A3 w hi k;rw[g];exact⟨h.map (vw E P),by rw[gP1,n];rfl,by rw[lM1];exact l⟩
theorem pE:∀(k n:Nat),ke n (k+1)=ke n k++[.ref (n+k)]
 |0,n=>rfl
 |k+1,n=>by
  rw[ke,pE k (n+1),ke,bi,show n+1+k=n+(k+1) by lia]
theorem y6{t m:Nat}{T:Sto}(tl:T.length=t):WS t m T (aO m []) [] (T++(aO m (.lst [])++[.lst (ke (t+1) m),.lst []])):=by
 refine⟨tl,by rw[<- tl,da],by simp,λi a h=>?_,?_,?_⟩
 ·have hi:i<m:=by have:=(gE1.mp h).1;simpa using this
  rw[aR,ak hi]at h;cases h;rw[<- tl,im,gL1 (by simpa using hi),aR,ak hi];rfl
 ·rw[<- tl,im,gR1 (by simp)];simp
 ·rw[<- tl,bj,im,gR1 (by simp)];simp
theorem y7(m:Nat):WI m (aO m []) []:=by
 refine⟨by simp,λi p h=>by simp at h,λi a h=>?_,λi a h=>?_,by simp[tot]⟩
 ·rw[aR]at h;split at h
  ·cases h;intro e b;simp at b
  ·cases h
 ·rw[aR]at h;split at h
  ·cases h;simp
  ·cases h
theorem El{t m i n:Nat}{T U:Sto}{E:ew}{P:List (Nat×Nat)}{o:Ob}{x6:Option D}{Q:Fl×Ev×Sto->Prop}(w:WS t m T E P U)(v:WI m E P)(ho:gD o n)(hn:n<=2^44)(hP:P.length=i)(hi:i+1<m)(hm:m<=8)(he:∀j row,i+1<=j->E[j]?=some row->row=[])(h:∀S ao o' X R,WS t m T S ao X->WI m S ao->gD o' (n+3)->ao.length=i+1->(∀j row,i+2<=j->S[j]?=some row->row=[]) ->
   Q (.nx,[Z (.ref 0),Z (.int 8),Z (.int m),Z (.ref (t+m+1)),Z (.ref (t+m+2)),Z (.int ((i+1:Nat):Int)),R,Y,Y,Y],o'::X)):
  W (iU [Z (.ref 0),Z (.int 8),Z (.int m),Z (.ref (t+m+1)),Z (.ref (t+m+2)),Z (.int ((i+1:Nat):Int)),x6,Y,Y,Y] (o::U)) Q:=by
 have e:∀j,j<m -> ∃row,E[j]?=Z row:=λj f=>⟨_,gG1 (by rw[v.len];exact f)⟩
 let k:Nat->Bool:=λj=>decide ((E.getD j []).length<4)
 unfold iU;walk_at"w";rw[j6,Int.toNat_natCast];refine⟨fQ (by lia),?_⟩;refine io k (λj:Nat=>.int j) (λr=>∃x,r=[x,Z (.ref (t+m+1))]) O (af (i+1)) _ ⟨_,O⟩ ?_ ?_
 ·rintro j f r ⟨x,rfl⟩;have p:j<m:=by have:=aB.mp f;lia
  obtain⟨row,c⟩:=e j p;walk_at"w";refine jE w p ?_;walk_at"w";refine eK (xs:=row.map pD) (by rw[gC1];exact w.row j row c) ?_;walk_at"w";refine⟨?_,⟨_,O⟩,λ_=>trivial⟩;simp only[k,bJ,c,b7,lM1];rw[bQ,al,al];lia
 ·rintro r' _;walk_at"w";have B:(List.range (i+1)).filter k≠[]:=by
   intro z;have C:∀j row,j<i+1->E[j]?=Z row->4<=row.length:=λj row f hr=>by
    have:=List.filter_eq_nil_iff.mp z j (aB.mpr f);simp only[k,bJ,hr,b7,al]at this;lia
   have:=zf (E:=E) (k:=i+1) (by rw[v.len];lia) C;have:=v.tt;lia
  generalize aq:(af (i+1)).filter k=L at B;have K:∀j∈L,j<i+1/\k j=M:=λj f=>by
   rw[<- aq,aA]at f;exact⟨aB.mp f.1,f.2⟩
  have hLl:L.length<=8:=by
   rw[<- aq];have:=dj k (af (i+1));simp at this;lia
  refine⟨ee (by rw[lM1];lia),?_⟩;refine eK (xs:=L.map λj:Nat=>D.int j) (by rw[gC1,et];rfl) ?_;walk_at"w";rw[lM1];have wq:0<L.length:=c8.mpr B;refine eV ho (by lia) (by lia) (by lia) λd o1 am hd=>?_;have A:d<L.length:=by lia
  refine i9 (i:=d) (xs:=L.map λj:Nat=>D.int j) (x:=.int (L[d]:Nat)) (by rw[gC1,et];rfl) (by rw[gP1,gG1 A];rfl) ?_;generalize f:L[d]=j;obtain⟨hj1,H⟩:=K j (by rw[<- f];exact bS A);obtain⟨row,c⟩:=e j (by lia);have au:row.length<4:=by
   simp only[k,bJ,c,b7,al]at H;exact H
  obtain⟨I,l⟩:=e (i+1) hi;have s:=he (i+1) I (nR1 _) l;subst s;walk_at"w";refine zj (a:=j) (b:=i+1) (w.app (G:=[Ob.lst (L.map λj:Nat=>D.int j)])) am (by lia) (by lia) hi c (by lia) (λI V=>by rw[l]at V;cases V;simp) (by lia) λk1 k2 I o2 U2 N g w2=>?_;have q:j≠i+1:=by lia
  have y:I=[]:=by
   rw[gS1 q,l]at g;cases g;rfl
  walk_at"w";refine h _ _ o2 U2 _ w2 (v.tie c au g (by rw[y];simp)) (N.more (by lia)) (by simp[hP]) λj' F p u=>?_;rw[gS1 (by lia),gS1 (by lia)]at u;exact he j' F (by lia) u
theorem Fy{t m n:Nat}{T U:Sto}{E:ew}{P:List (Nat×Nat)}{o:Ob}{C H x au V:Option D}{Q:Fl×Ev×Sto->Prop}(w:WS t m T E P U)(v:WI m E P)(ho:gD o n)(hn:n<=2^44)(hP:P.length<100)(aq:0<m)(hm:m<=8)(h:∀ao z o' L B F,WS t m T ao z L->WI m ao z->gD o' (n+4)->z.length<=P.length+1 ->
   Q (.nx,[Z (.ref 0),Z (.int 8),Z (.int m),Z (.ref (t+m+1)),Z (.ref (t+m+2)),C,H,x,B,F],o'::L)):
  W (iT [Z (.ref 0),Z (.int 8),Z (.int m),Z (.ref (t+m+1)),Z (.ref (t+m+2)),C,H,x,au,V] (o::U)) Q:=by
 have f:∀j,j<m -> ∃row,E[j]?=Z row:=λj R=>⟨_,gG1 (by rw[v.len];exact R)⟩;unfold iT;walk_at"w";refine eV ho (by lia) (by lia) (by lia) λa o1 y ha=>?_;walk_at"w";refine eV y (by lia) (by lia) (by lia) λb K k q=>?_;obtain⟨N,d⟩:=f a (by lia);obtain⟨s,g⟩:=f b (by lia);walk_at"w";refine jE w (by lia) ?_;walk_at"w";refine eK (xs:=N.map pD) (by rw[gC1];exact w.row a N d) ?_;walk_at"w";rw[lM1];have e:Q (.nx,[Z (.ref 0),Z (.int 8),Z (.int m),Z (.ref (t+m+1)),Z (.ref (t+m+2)),C,H,x,Z (.int a),Z (.int b)],K::U):=
  h E P K U _ _ w v (k.more (by lia)) (by lia)
 split
 ·rename_i am;rw [decide_eq_true_eq] at am;refine jE w (by lia) ?_;walk_at"w";refine eK (xs:=s.map pD) (by rw [gC1];exact w.row b s g) ?_;walk_at"w";rw [lM1];have X:((a:Int) == (b:Int))=decide (a=b):=by
   rw[bQ,beq_iff_eq,al];lia
  rw[X];by_cases i:a=b
  ·subst i;rw[d]at g;cases g;walk_at"w";split
   ·rename_i p;simp at p;refine zj w k (by lia) (by lia) (by lia) d (by lia) (fun s q=>by rw [d] at q;cases q;lia) (by lia) fun wq S s u A l c G=>?_;have I:s.length<4:=by
     rw[aI (by rw[v.len];lia)]at c;cases c;rw[lc];lia
    exact h _ _ u A _ _ G (v.tie d (by lia) c I) (l.more (by lia)) (by simp)
   ·exact e
  ·simp only[ai i];walk_at"w";split
   ·rename_i p;simp at p;refine zj w k (by lia) (by lia) (by lia) d (by lia) (fun r q=>by rw [g] at q;cases q;lia) (by lia) fun wq S r u A l c G=>?_;have I:r.length<4:=by
     rw[gS1 i,g]at c;cases c;lia
    exact h _ _ u A _ _ G (v.tie d (by lia) c I) (l.more (by lia)) (by simp)
   ·exact e
 ·try walk_at"w"
  exact e
theorem Ig{t m i:Nat}{T U:Sto}{E:ew}{P:List (Nat×Nat)}{o:Ob}{row:List (Nat×Nat)}{e:Nat×Nat}{Q:D×Sto->Prop}(w:WS t m T E P U)(v:WI m E P)(hr:E[i]? = some row)(he:e∈row)(q:Q (pD (vw E P e),o::U)):
  W (dZ 3 gp [.ref (t+m+1),.ref (t+m+2),pD e] (o::U)) Q:=by
 obtain⟨p,a,r,j,h1,h2,z,c,u,B,n⟩:=A3 v hr he;have key:W (gp [.ref (t+m+1),.ref (t+m+2),pD e] (o::U)) λp=>p.2=o::U/\Q p:=by
  unfold gp;refine lW ?_;unfold oJ;have b:a<m:=by rw[<- v.len];exact(gE1.mp c).1
  have l:∀Q:D×Sto->Prop,Q (.int e.1,o::U)->W (dX (pD e) (.int 0) (o::U)) Q:=λQ q=>gC (i:=0) O q;have k:∀Q:D×Sto->Prop,Q (.int e.2,o::U)->W (dX (pD e) (.int 1) (o::U)) Q:=λQ q=>gC (i:=1) O q;have g:((1:Int)-(e.2:Int))=((1-e.2:Nat):Int):=by lia
  walk_at"w";refine l _ ?_;refine i9 (i:=e.1) (xs:=P.map pD) (x:=pD p) (by rw[gC1];exact w.prs) (by rw[gP1,h1];rfl) ?_;refine k _ ?_;walk_at"w";rw[g];refine gC (i:=1-e.2) (x:=.int a) ?_ ?_
  ·rw[z];by_cases h:e.2=0
   ·rw[h,ak O];rfl
   ·rw[aj h,show e.2=1 by lia];rfl
  walk_at"w";refine i8 ?_;walk_at"w";refine jE w b ?_;refine⟨t+a+1,r.map pD,O,by rw[gC1];exact w.row a r c,?_⟩;walk_at"w";refine l _ ?_;refine k _ ?_;walk_at"w";rw[g];refine GF (e:=(e.1,1-e.2)) (row:=r) (j:=j) (by rw[gC1];exact w.row a r c) (by have:=v.le a r c;lia) u ?_;refine⟨O,?_⟩;rw[n]at q;exact q
 obtain⟨⟨d,A⟩,y,f,s⟩:=key;dsimp only at f;subst f;exact⟨_,l5 y O O O,s⟩
theorem GT{o:Ob}{n:Nat}{T:Sto}{Q:D×Sto->Prop}(ho:gD o n)(hn:n<=2^40)(hT:T.all (Ob.und (T.length+1))=M)(h:∀m w o',0<m->m<=8->kb m w->gD o' (n+100)->Q (webD w,o'::T)):W (dZ 2 hA [.ref 0,.int 8] (o::T)) Q:=by
 refine xh O O hT ?_;unfold hA;refine lW ?_;unfold oG;generalize aq:T.length=t;refine eF (λr S=>∃(m:Nat) (s:Ob),0<m/\m<=8/\gD s (n+1)/\r=[Z (.ref 0),Z (.int 8),Z (.int m),Y,Y,Y,Y,Y,Y,Y]/\S=s::T) ?_ ?_
 ·walk_at"w";refine eV ho (by lia) (by lia) (by lia) λc s u hc=>?_;walk_at"w";exact⟨c+1,s,by lia,by lia,u,by simp[Int.add_comm],O⟩
 rintro r S ⟨m,s,I,R,u,rfl,rfl⟩;refine eF (λr S=>∃U,WS t m T (aO m []) [] U/\r=[Z (.ref 0),Z (.int 8),Z (.int m),Z (.ref (t+m+1)),Z (.ref (t+m+2)),Y,Y,Y,Y,Y]/\S=s::U) ?_ ?_
 ·walk_at"w";refine⟨fQ (by lia),?_⟩;rw[Int.toNat_natCast];refine jP (λi p r S=>p=ke (t+1) i/\S=s::(T++aO i (.lst [])) /\ ∃x,r=[x]) (gY 0 m) 0 [] _ _ ⟨O,by simp,_,O⟩ (λ_ _ _ _ _=>rfl) ?_ ?_
  ·rintro i d q p r S ⟨rfl,rfl,x,rfl⟩;walk_at"w";rw[bN];refine⟨?_,?_,_,O⟩
   ·rw[pE,aq,lR1]
    congr 3
    lia
   ·rw[List.replicate_succ']
  ·rintro xs r S ⟨e,rfl,_⟩;rw[cY,bN,ge]at e;subst e;rw[bN,ge];walk_at"w";rw[kQ];refine⟨ee (by lia),_,y6 aq,?_,O⟩;simp[aq]
 rintro r S ⟨U0,w0,rfl,rfl⟩;refine eF (λr S=>∃E P b U g k,WS t m T E P U/\WI m E P/\P.length<=8/\gD b (n+40)/\r=[Z (.ref 0),Z (.int 8),Z (.int m),Z (.ref (t+m+1)),Z (.ref (t+m+2)),g,k,Y,Y,Y]/\S=b::U) ?_ ?_
 ·walk_at"w";refine⟨Gx (by decide) (by decide),fQ (by lia),?_⟩;refine gi (λi r S=>i<=m-1 /\ ∃E P b U g k,WS t m T E P U/\WI m E P/\P.length=i/\(∀j row,i+1<=j->E[j]?=Z row->row=[])/\gD b (n+1+3*i)/\r=[Z (.ref 0),Z (.int 8),Z (.int m),Z (.ref (t+m+1)),Z (.ref (t+m+2)),g,k,Y,Y,Y]/\S=b::U) _ 0 _ _ ?_ (λ_ _ _ _=>rfl) ?_ ?_
  ·refine⟨by lia,_,_,s,U0,Y,Y,w0,y7 m,O,λj row _ L=>?_,u,O,O⟩;rw[aR]at L;split at L
   ·cases L;rfl
   ·cases L
  ·rintro i d q r S ⟨hi,E,P,b,U,g,k,w,v,am,K,a,rfl,rfl⟩;have l:=(gE1.mp q).1;rw [ge] at l;have wq:d = .int ((i+1:Nat):Int):=by
    rw[rr,gP1,cK l]at q;simp at q;rw[<- q]
    push_cast
    congr 1
    lia
   subst wq;rw[bN]at *
   walk_at"w";refine El w v a (by lia) am (by lia) R K λE' N o' au x6' y X A H ao=>?_;exact⟨O,by lia,E',N,o',au,_,_,y,X,H,ao,A.more (by lia),O,O⟩
  ·rintro r S ⟨hi,E,P,b,U,g,k,w,v,am,K,a,rfl,rfl⟩;exact⟨O,E,P,b,U,g,k,w,v,by lia,a.more (by lia),O,O⟩
 rintro r S ⟨E,P,b,U,g,k,w,v,am,a,rfl,rfl⟩;refine eF (λr S=>∃E P b U g k C B F,WS t m T E P U/\WI m E P/\gD b (n+100)/\r=[Z (.ref 0),Z (.int 8),Z (.int m),Z (.ref (t+m+1)),Z (.ref (t+m+2)),g,k,C,B,F]/\S=b::U) ?_ ?_
 ·walk_at"w";refine eV a (by lia) (by lia) (by lia) λc o3 V hc=>?_;walk_at"w";refine⟨fQ (by lia),?_⟩;rw[Int.toNat_natCast];refine gi (λi r S=>i<=c /\ ∃E P b U g k C B F,WS t m T E P U/\WI m E P/\P.length<=8+i/\gD b (n+41+4*i)/\r=[Z (.ref 0),Z (.int 8),Z (.int m),Z (.ref (t+m+1)),Z (.ref (t+m+2)),g,k,C,B,F]/\S=b::U) _ 0 _ _ ⟨by lia,E,P,o3,U,g,k,Y,Y,Y,w,v,by lia,V,O,O⟩ (λ_ _ _ _=>rfl) ?_ ?_
  ·rintro i d q r S ⟨hi,E,P,b,U,g,k,C,B,F,w,v,am,a,rfl,rfl⟩;have l:=(gE1.mp q).1;rw[ge]at l;rw[bN]at *
   walk_at"w";refine Fy w v a (by lia) (by lia) I R λE' N o' au x8' x9' y X A H=>?_;exact⟨O,by lia,E',N,o',au,_,_,_,_,_,y,X,by lia,A.more (by lia),O,O⟩
  ·rintro r S ⟨hi,E,P,b,U,g,k,C,B,F,w,v,am,a,rfl,rfl⟩;rw[ge,bN]at a;exact⟨O,E,P,b,U,_,_,_,_,_,w,v,a.more (by lia),O,O⟩
 rintro r S ⟨E,P,b,U,g,k,C,B,F,w,v,a,rfl,rfl⟩;walk_at"w";refine eK (S:=b::U) (xs:=ke (t+1) m) (by rw[gC1];exact w.ends) ?_;have z:∀j,j<m -> ∃row,E[j]?=Z row:=λj hj=>⟨_,gG1 (by rw[v.len];exact hj)⟩;refine jP (λi p r S=>∃G x,S=b::(U++G)/\r=[x,Z (.ref (t+m+1)),Z (.ref (t+m+2))]/\p=((E.take i).map λrow=>.tup ((row.map (vw E P)).map pD))) (ke (t+1) m) 0 [] _ _ ⟨[],Y,by simp,O,O⟩ ?_ ?_ ?_
 ·rintro i p r S ⟨G,x,rfl,_⟩;exact il (by rw[gC1];exact(w.app (G:=G)).ends)
 ·rintro i d q p r S ⟨G,x,rfl,rfl,rfl⟩;have hi:=(gE1.mp q).1;rw[kQ]at hi;rw[ra hi]at q;cases q;obtain⟨row,f⟩:=z i hi;have y:=w.app (G:=G);walk_at"w";refine eK (S:=b::(U++G)) (xs:=row.map pD) (by rw[show t+1+i=t+i+1 by lia,gC1];exact y.row i row f) ?_;refine nV (λe=>pD (vw E P e)) (λr=>∃x,r=[x,Z (.ref (t+m+1)),Z (.ref (t+m+2))]) (il (by rw[show t+1+i=t+i+1 by lia,gC1];exact y.row i row f)) row _ ⟨_,O⟩ ?_ ?_
  ·rintro e K r ⟨x,rfl⟩;walk_at"w";refine Ig y v f K ?_;exact⟨O,O,_,O⟩
  ·rintro r' _;walk_at"w";have hl:=v.le i row f;refine⟨ee (by rw[lM1];lia),?_⟩;refine eK (xs:=row.map λe=>pD (vw E P e)) (by rw[<- bG,gC1,<- lA1,et];rfl) ?_;refine⟨G++[Ob.lst (row.map λe=>pD (vw E P e))],_,O,O,?_⟩;rw[bN,cF,f];simp[Function.comp_def]
 ·rintro xs r S ⟨G,x,rfl,rfl,e⟩;rw [cY,bN,kQ,<- v.len,bY] at e;subst e;walk_at"w";have hlE:=v.len;refine ⟨ee (by rw [lM1];lia),?_⟩;refine eK (xs:=E.map fun row=>.tup ((row.map (vw E P)).map pD)) (by rw [<- bG,gC1,<- lA1,et];rfl) ?_;have e:D.tup (E.map fun row=>.tup ((row.map (vw E P)).map pD))=webD (E.map fun row=>row.map (vw E P)):=by
   simp[webD,Function.comp_def]
  refine⟨webD (E.map λrow=>row.map (vw E P)),b,U.drop t++(G++[Ob.lst (E.map λrow=>.tup ((row.map (vw E P)).map pD))]),?_,gy _,a.und,?_⟩
  ·rw[e,<- bG T,<- w.split]
  ·exact h m _ b I R (Ec v) a
theorem EW{items:List D}{k:Int}{n:Nat}{o:Ob}{T:Sto}{j:Option D}{Q:List D×Ev×Sto->Prop}(ho:gD o n)(hn:n+items.length<=2^50)(hk:0<k)(f:k<1073741824)(h:∀xs o' p,gD o' (n+items.length)->xs.Sublist items->Q (xs,[p,some (.ref 0)],o'::T)):
  W (fX [] (gN 0) (mB (m2 (b2 m9) (mN (dZ 2 dW) (dU (mV 1) (dU (mC (D.int k)) dV))) (mC (D.int (0))))) (eJ (mV 0)) items [j,Z (.ref 0)] (o::T)) Q:=by
 refine jP (λi c r S=>∃o x,S=o::T/\r=[x,Z (.ref 0)]/\gD o (n+i)/\i<=items.length/\c.Sublist (items.take i)) items 0 [] _ _ ⟨o,j,O,O,by simpa using ho,by lia,by simp⟩ (λ_ _ _ _ _=>rfl) ?_ ?_
 ·rintro i d l c r S ⟨o,x,rfl,rfl,ho,hi,a⟩;have m:i<items.length:=(gE1.mp l).1;have g:items.take (i+1)=items.take i++[d]:=by rw[cF,l];rfl
  walk_at"w";refine eV ho (by lia) hk f λe o' b q=>?_;walk_at"w";split
  ·exact⟨o',Z d,O,O,b.more (by lia),by lia,by rw[bN,g];simp at a;exact a.append (List.Sublist.refl _)⟩
  ·exact⟨o',Z d,O,O,b.more (by lia),by lia,by rw[bN,g];simp at a;exact a.trans (List.sublist_append_left _ _)⟩
 ·rintro xs r S ⟨o,x,rfl,rfl,ho,_,a⟩;refine h _ _ _ (by simpa using ho) (by simpa using a)
theorem Gf{o:Ob}{n:Nat}{T:Sto}{Q:D×Sto->Prop}(ho:gD o n)(hn:n<=2^45)(g:T.all (Ob.und (T.length+1))=M)(h:∀a b c d o',gD o' (n+4)->Q (.tup (fF a b c d),o'::T)):W (dZ 1 ft [.ref 0] (o::T)) Q:=by
 refine xh O O g ?_;unfold ft;refine lW ?_;unfold iM;walk_at"w";rw[gW];refine EW ho (by simp;lia) (by decide) (by decide) λxs f j e i=>?_;obtain⟨a,b,c,d,rfl⟩:=A4 i;walk_at"w";have k:=A5 a b c d;refine⟨ee (by lia),?_⟩;refine eK (xs:=fF a b c d) (by rw[gC1,et];rfl) ?_;exact⟨_,f,_,O,by rw[D.und];exact lj a b c d,e.und,h a b c d f e⟩
theorem xr{w:ew}{i:Nat}{row:List (Nat×Nat)}{S:Sto}{Q:D×Sto->Prop}(h:w[i]?=Z row)(q:Q (.tup (row.map pD),S)):W (dX (webD w) (.int i) S) Q:=
 gC (x:=.tup (row.map pD)) (by rw[gP1,h];rfl) q
theorem wG{w:ew}{S:Sto}:eU (webD w) S=Z (.int w.length,S):=by simp[webD,eU,d7]
noncomputable def crowd(ws:List Wk)(rm:Nat):Nat:=(ws.filter λu=>u.1 == rm).length
def v8(a b c d:Bool)(ws:List Wk)(cs:List Nat)(u:Wk)(row:List (Nat×Nat)):D:=
 u6 a b c d u.2.1 (if cs.contains u.1 then 1 else 0) row.length (if 1<crowd ws u.1 then 1 else 0)
theorem p7{ws:List Wk}{a:Nat}{S:Sto}{c:Option D}{Q:List D×Ev×Sto->Prop}(h:∀ b,Q ((ws.filter fun u=>u.1 == a).map eZ,b,S)):
  W (fX [] (gN 0) (mB (m2 (b2 m9) (m2 (b2 dX) (mV 0) (mC (D.int (0)))) (mV 1))) (eJ (mV 0)) (eH ws) [c,Z (.int a)] S) Q:=by
 refine io (λu:Wk=>u.1 == a) eZ (λr=>∃x,r=[x,Z (.int a)]) O ws _ ⟨_,O⟩ ?_ λb _=>h b;rintro u d r ⟨x,rfl⟩;walk_at"w";refine gC (i:=0) O ?_;walk_at"w";refine⟨?_,⟨_,O⟩,λ_=>trivial⟩;rw[bQ,beq_iff_eq,beq_iff_eq];lia
theorem DZ {w x y z:D}{S:Sto}{r:Ev}{m1 m2 a b:FE}{Q:D×Sto->Prop}(h1:m1 r S=some (w,S))(h2:m2 r S=some (x,S))(d:a r S=some (y,S))(c:b r S=some (z,S))
  (q:Q (.ref S.length,S++[.dct [(.inr "came",w),(.inr "chalk",x),(.inr "doors",y),(.inr "others",z)]])):
  W (tN [(mC (.str "came"),m1),(mC (.str "chalk"),m2),(mC (.str "doors"),a),(mC (.str "others"),b)] r S) Q:=by
 refine W.of ?_ q;simp only[tN,CQ,mC,h1,h2,d,c,oS1,oP1,wJ,tT];rfl
theorem C3 {w x y z:D}{S:Sto}{n:Nat}(h:S[n]? = some (.dct [(.inr "came",w),(.inr "chalk",x),(.inr "doors",y),(.inr "others",z)])):
  dX (.ref n) (.str "came") S=Z (w,S)/\dX (.ref n) (.str "chalk") S=Z (x,S)/\dX (.ref n) (.str "doors") S=Z (y,S)/\dX (.ref n) (.str "others") S=Z (z,S):=by
 refine⟨?_,?_,?_,?_⟩<;>(simp only[dX,h,mR,tT,oS1];rfl)
noncomputable def rW:Nat->D
 |0=>.str "came" |1=>.str "chalk" |2=>.str "doors" |_=>.str "others"
noncomputable def DQ:Nat->D
 |0=>.int 5|1=>.int 2|2=>.int 5|_=>.int 2
noncomputable def gX(a b c d:Bool)(w x y z:Int):Nat->D
 |0=>if a then .int w else .non
 |1=>if b then .int x else .non
 |2=>if c then .int y else .non
 |_=>if d then .int z else .non
theorem wp {a b c d:Bool}{w x y z:Int}{S:Sto}{n:Nat}(h:S[n]? = some (.dct [(.inr "came",.int w),(.inr "chalk",.int x),(.inr "doors",.int y),(.inr "others",.int z)])){i:Nat}(hi:i∈[0,1,2,3]){r:Ev}{f g j:Nat}
  (h1:r[f]?=Z (Z (rW i))) (h2:r[g]?=Z (Z (.tup (fF a b c d)))) (e:r[j]?=Z (Z (.ref n))):
  mIf (mB (m2 (b2 gF) (mV f) (mV g))) (m2 (b2 dX) (mV j) (mV f)) (mC D.non) r S=Z (gX a b c d w x y z i,S):=by
 obtain⟨l,m,k,o⟩:=C3 h;simp only[aF,bL,or_false]at hi;rcases hi with rfl|rfl|rfl|rfl
 ·cases a<;>simp only[mIf,mB,m2,b2,mV,h1,h2,e,rW,oS1,C8,l,gX,mC]<;>rfl
 ·cases b<;>simp only[mIf,mB,m2,b2,mV,h1,h2,e,rW,oS1,AQ,m,gX,mC]<;>rfl
 ·cases c<;>simp only[mIf,mB,m2,b2,mV,h1,h2,e,rW,oS1,AO,k,gX,mC]<;>rfl
 ·cases d<;>simp only[mIf,mB,m2,b2,mV,h1,h2,e,rW,oS1,yf,o,gX,mC]<;>rfl
theorem B2{w:ew}{ws:List Wk}{cs:List Nat}{a b c d:Bool}{k:Nat}{u:Wk}{row:List (Nat×Nat)}{S:Sto}{Q:D×Sto->Prop}(j:ws[k]? = Z u)(hr:w[u.1]? = Z row)(o:ws.length<=1000)(q:Q (v8 a b c d ws cs u row,S)):W (dZ 4 g0 [webD w,.tup (fF a b c d),d4 ws cs,.int k] S) Q:=by
 refine jz O (by simp[D.unds,gy,fZ];rw[D.und];exact⟨lj a b c d,O⟩) ?_;unfold g0;refine lW ?_;unfold oE;refine eF (λr S=>S=[]/\r=[Z (webD w),Z (.tup (fF a b c d)),Z (d4 ws cs),Z (.int k),Z (.tup (eH ws)),Z (.tup (eN cs)),Y,Y,Y,Y,Y]) ?_ ?_
 ·rw[d4];walk_at"w"
 rintro r S ⟨rfl,rfl⟩;refine eF (λr S=>S=[]/\r=[Z (webD w),Z (.tup (fF a b c d)),Z (d4 ws cs),Z (.int k),Z (.tup (eH ws)),Z (.tup (eN cs)),Z (.int u.1),Z (.int u.2.1),Z (.int u.2.2),Y,Y]) ?_ ?_
 ·walk_at"w";refine gC (i:=k) (x:=eZ u) (by rw[eH,gP1,j];rfl) ?_;rw[eZ];walk_at"w"
 rintro r S ⟨rfl,rfl⟩;refine eF (λr S=>S=[.lst ((ws.filter λv=>v.1 == u.1).map eZ)]/\r=[Z (webD w),Z (.tup (fF a b c d)),Z (d4 ws cs),Z (.int k),Z (.tup (eH ws)),Z (.tup (eN cs)),Z (.int u.1),Z (.int u.2.1),Z (.int u.2.2),Z (.ref 0),Y]) ?_ ?_
 ·walk_at"w";rw[gW];refine p7 λh=>?_;walk_at"w";have:=dj (λv:Wk=>v.1 == u.1) ws;have h2:((ws.filter λv:Wk=>v.1 == u.1).map eZ).length<=100000:=by rw[lM1];lia
  exact⟨ee h2,trivial⟩
 rintro r S ⟨rfl,rfl⟩;generalize g:[Ob.lst ((ws.filter λv=>v.1 == u.1).map eZ)]=S1;have f:S1[0]?=Z (Ob.lst ((ws.filter λv=>v.1 == u.1).map eZ)):=by rw[<- g];rfl
 refine eF (λr S=>S=S1++[.dct [(.inr "came",.int u.2.1),(.inr "chalk",.int (if cs.contains u.1 then 1 else 0)),(.inr "doors",.int row.length),(.inr "others",.int (if 1<crowd ws u.1 then 1 else 0))]]/\r=[Z (webD w),Z (.tup (fF a b c d)),Z (d4 ws cs),Z (.int k),Z (.tup (eH ws)),Z (.tup (eN cs)),Z (.int u.1),Z (.int u.2.1),Z (.int u.2.2),Z (.ref 0),Z (.ref S1.length)]) ?_ ?_
 ·unfold ea;rw[d2];have hc:(List.map eZ (ws.filter λv=>v.1 == u.1)).length=crowd ws u.1:=by rw[lM1];rfl
  refine DZ (w:=.int u.2.1) (x:=.int (if cs.contains u.1 then 1 else 0)) (y:=.int row.length) (z:=.int (if 1<crowd ws u.1 then 1 else 0)) O ?_ ?_ ?_ ?_
  ·simp only[mIf,mB,m2,b2,mV,gC1,dg,oS1,AN,mC];split<;>rfl
  ·have:W (dX (webD w) (.int u.1) S1) λp=>p=(.tup (row.map pD),S1):=xr hr O;obtain⟨p,e,rfl⟩:=this;simp only[mN,dU,dV,m2,b1,b2,mV,gC1,dg,oS1,e,gP,lM1]
  ·simp only[mIf,mB,mN,dU,dV,m2,b1,b2,mV,mC,gC1,dg,oS1,eU,gL f,oP1,ic,hc];by_cases h1:1<crowd ws u.1
   ·rw[ak h1,ak (by rw[al];lia)]
   ·rw[aj h1,aj (by rw[al];lia)]
  ·walk_at"w"
 rintro r S ⟨rfl,rfl⟩;generalize m:S1++[Ob.dct [(.inr "came",.int u.2.1),(.inr "chalk",.int (if cs.contains u.1 then 1 else 0)),(.inr "doors",.int row.length),(.inr "others",.int (if 1<crowd ws u.1 then 1 else 0))]]=S2;have l:S2[S1.length]?=Z (Ob.dct [(.inr "came",.int u.2.1),(.inr "chalk",.int (if cs.contains u.1 then 1 else 0)),(.inr "doors",.int row.length),(.inr "others",.int (if 1<crowd ws u.1 then 1 else 0))]):=by rw[<- m,et];rfl
 walk_at"w";have n:nh = .tup ([0,1,2,3].map λi:Nat=>D.tup [rW i,DQ i]):=rfl;rw[n,gW];refine nV (gX a b c d u.2.1 (if cs.contains u.1 then 1 else 0) row.length (if 1<crowd ws u.1 then 1 else 0)) (λr=>∃x y,r=[x,y,Z (.tup (fF a b c d)),Z (.ref S1.length)]) O _ _ ⟨_,_,O⟩ ?_ ?_
 ·rintro i hi r ⟨x,y,rfl⟩;refine⟨([Z (rW i),Z (DQ i),Z (.tup (fF a b c d)),Z (.ref S1.length)],S2),O,?_⟩;refine⟨(M,S2),O,O,?_⟩;exact⟨_,wp l hi O O O,O,O,_,_,O⟩
 ·rintro h _;walk_at"w";refine eK (xs:=[gX a b c d u.2.1 (if cs.contains u.1 then 1 else 0) row.length (if 1<crowd ws u.1 then 1 else 0) 0,gX a b c d u.2.1 (if cs.contains u.1 then 1 else 0) row.length (if 1<crowd ws u.1 then 1 else 0) 1,gX a b c d u.2.1 (if cs.contains u.1 then 1 else 0) row.length (if 1<crowd ws u.1 then 1 else 0) 2,gX a b c d u.2.1 (if cs.contains u.1 then 1 else 0) row.length (if 1<crowd ws u.1 then 1 else 0) 3]) (by rw[et];rfl) ?_;exact⟨py,q⟩
theorem tO{w:ew}{ws:List Wk}{cs:List Nat}{a b c d:Bool}{k:Nat}{u:Wk}{row:List (Nat×Nat)}{S:Sto}{Q:D×Sto->Prop}(l:ws[k]? = Z u)(hr:w[u.1]? = Z row)(t:ws.length<=1000)(q:Q (v8 a b c d ws cs u row,S)):W (dZ 4 fg [webD w,.tup (fF a b c d),d4 ws cs,.int k] S) Q:=by
 refine jz O (by simp[D.unds,gy,fZ];rw[D.und];exact⟨lj a b c d,O⟩) ?_;unfold fg;refine lW ?_;unfold lz;have g:∀(S:Sto) (Q:D×Sto->Prop),Q (.tup (eH ws),S)->W (dX (d4 ws cs) (.int 0) S) Q:=λS Q q=>gC (i:=0) O q;have o:∀(S:Sto),dX (d4 ws cs) (.int 1) S=Z (.tup (eN cs),S):=λS=>by
  obtain⟨p,e,h⟩:W (dX (d4 ws cs) (.int 1) S) λp=>p=(.tup (eN cs),S):=gC (i:=1) O O;rw[e,h]
 refine eF (λr S=>S=[]/\r=[Z (webD w),Z (.tup (fF a b c d)),Z (d4 ws cs),Z (.int k),Z (.int u.1),Z (.int u.2.1),Z (.int u.2.2),Y,Y]) ?_ ?_
 ·walk_at"w";refine g _ _ ?_;refine gC (i:=k) (x:=eZ u) (by rw[eH,gP1,l];rfl) ?_;rw[eZ];walk_at"w"
 rintro r S ⟨rfl,rfl⟩;refine eF (λr S=>r=[Z (webD w),Z (.tup (fF a b c d)),Z (d4 ws cs),Z (.int k),Z (.int u.1),Z (.int u.2.1),Z (.int u.2.2),Z (.int (crowd ws u.1)),Y]) ?_ ?_
 ·walk_at"w";refine g _ _ ?_;rw[gW];refine p7 λj=>?_;walk_at"w";have:=dj (λv:Wk=>v.1 == u.1) ws;have h2:((ws.filter λv:Wk=>v.1 == u.1).map eZ).length<=100000:=by rw[lM1];lia
  refine⟨ee h2,?_⟩;refine eK (xs:=(ws.filter λv:Wk=>v.1 == u.1).map eZ) O ?_;rw[lM1];rfl
 rintro r f rfl;refine eF (λr S=>S=f++[.dct [(.inr "came",.int u.2.1),(.inr "chalk",.int (if cs.contains u.1 then 1 else 0)),(.inr "doors",.int row.length),(.inr "others",.int (if 1<crowd ws u.1 then 1 else 0))]]/\r=[Z (webD w),Z (.tup (fF a b c d)),Z (d4 ws cs),Z (.int k),Z (.int u.1),Z (.int u.2.1),Z (.int u.2.2),Z (.int (crowd ws u.1)),Z (.ref f.length)]) ?_ ?_
 ·unfold ea;rw[d2];refine DZ (w:=.int u.2.1) (x:=.int (if cs.contains u.1 then 1 else 0)) (y:=.int row.length) (z:=.int (if 1<crowd ws u.1 then 1 else 0)) O ?_ ?_ ?_ ?_
  ·simp only[mN,dU,dV,b1,m2,b2,mV,gC1,dg,oS1,o,AN,mC,oj]
  ·obtain⟨p,e,rfl⟩:W (dX (webD w) (.int u.1) f) λp=>p=(.tup (row.map pD),f):=xr hr O;simp only[mN,dU,dV,m2,b1,b2,mV,gC1,dg,oS1,e,gP,lM1]
  ·simp only[mN,dU,dV,m2,b1,b2,mV,mC,gC1,dg,oS1,ic,oj];by_cases h1:1<crowd ws u.1
   ·rw[ak h1,ak (by rw[al];lia)]
   ·rw[aj h1,aj (by rw[al];lia)]
  ·walk_at"w"
 rintro r S ⟨rfl,rfl⟩;generalize n:f++[Ob.dct [(.inr "came",.int u.2.1),(.inr "chalk",.int (if cs.contains u.1 then 1 else 0)),(.inr "doors",.int row.length),(.inr "others",.int (if 1<crowd ws u.1 then 1 else 0))]]=S2;have m:S2[f.length]?=Z (Ob.dct [(.inr "came",.int u.2.1),(.inr "chalk",.int (if cs.contains u.1 then 1 else 0)),(.inr "doors",.int row.length),(.inr "others",.int (if 1<crowd ws u.1 then 1 else 0))]):=by rw[<- n,et];rfl
 walk_at"w";have s:([D.str "came",D.str "chalk",D.str "doors",D.str "others"]:List D)=[0,1,2,3].map rW:=rfl;rw[gW,s];refine nV (gX a b c d u.2.1 (if cs.contains u.1 then 1 else 0) row.length (if 1<crowd ws u.1 then 1 else 0)) (λr=>∃x,r=[x,Z (.tup (fF a b c d)),Z (.ref f.length)]) O _ _ ⟨_,O⟩ ?_ ?_
 ·rintro i hi r ⟨x,rfl⟩;refine⟨([Z (rW i),Z (.tup (fF a b c d)),Z (.ref f.length)],S2),O,?_⟩;refine⟨(M,S2),O,O,?_⟩;exact⟨_,wp m hi O O O,O,O,_,O⟩
 ·rintro j _;walk_at"w";refine eK (xs:=[gX a b c d u.2.1 (if cs.contains u.1 then 1 else 0) row.length (if 1<crowd ws u.1 then 1 else 0) 0,gX a b c d u.2.1 (if cs.contains u.1 then 1 else 0) row.length (if 1<crowd ws u.1 then 1 else 0) 1,gX a b c d u.2.1 (if cs.contains u.1 then 1 else 0) row.length (if 1<crowd ws u.1 then 1 else 0) 2,gX a b c d u.2.1 (if cs.contains u.1 then 1 else 0) row.length (if 1<crowd ws u.1 then 1 else 0) 3]) (by rw[et];rfl) ?_;exact⟨py,q⟩
noncomputable def pt(b:Bool)(x:Nat):D:=if b=M then .int x else .non
def Kk(a b c d:Bool)(x y z w:Nat):D:=.tup [pt a x,pt b y,pt c z,pt d w]
noncomputable def mD:List D:=[.str "leave",.str "mark",.str "wipe"]
noncomputable def i4:List D:=[.non,.int 0,.int 1,.int 2,.int 3]
structure gk (x:D):Prop where
 is:∃m h t,x = .tup [.int (m:Nat),h,t]/\m<4000/\h∈mD/\t∈i4
theorem gk.und{x:D}(h:gk x):x.und 0=M:=by
 obtain⟨m,x,t,rfl,_,h1,h2⟩:=h.is;have a:x.und 0=M:=by simp[mD]at h1;rcases h1 with z|z|z<;>subst z<;>rfl
 have b:t.und 0=M:=by simp[i4]at h2;rcases h2 with z|z|z|z|z<;>subst z<;>rfl
 simp[D.und,D.unds,a,b]
noncomputable def cx(b:Bool)(x:Nat):Nat:=if b=M then x else 0
def jc:List Bool->List Nat->Nat
 |b::bs,x::xs=>cx b x*8^bs.length+jc bs xs
 |_,_=>0
theorem l0:∀{bs:List Bool} {xs:List Nat},(∀x∈xs,x<=7)->jc bs xs<8^bs.length
 |[],_,_=>by rw[jc];simp;simp
 |b::bs,[],_=>by
  rw[jc]
  ·exact Nat.pos_of_ne_zero (by simp)
  ·simp
 |b::bs,x::xs,h=>by
  have h1:=l0 (bs:=bs) λy a=>h y (mC1 _ a);have h2:cx b x<=7:=by unfold cx;split;exact h x mS1;lia
  rw[jc,lC1,Nat.pow_succ];have c:cx b x*8^bs.length<=7*8^bs.length:=dk _ h2;lia
theorem Dj{S:Sto}{n:Nat}{xs ys:List D}:ga S (n+1) (.tup xs) (.tup ys)=jS (ga S n) xs ys:=by
 rw[ga];simp[d7]
theorem JN{S:Sto}{n:Nat}{xs ys:List D}:ku S (n+1) (.tup xs) (.tup ys)=oY (ga S n) (ku S n) xs ys:=by
 rw[ku];simp[IW,d7]
theorem DX{S:Sto}{n:Nat}{b:Bool}{x y:Nat}:ga S (n+1) (pt b x) (pt b y)=Z (decide (cx b x=cx b y)):=by
 cases b with
 |false=>rfl
 |true=>
  show Z ((x:Int) == (y:Int))=Z (decide (x=y))
  congr 1
  rw[bQ,beq_iff_eq,al];lia
theorem HN{S:Sto}{n:Nat}{b:Bool}{x y:Nat}(h:cx b x≠cx b y):ku S (n+1) (pt b x) (pt b y)=Z (decide (cx b x<cx b y)):=by
 cases b with
 |false=>exact absurd O h
 |true=>
  show Z (decide ((x:Int)<(y:Int)))=Z (decide (x<y))
  congr 1
  rw[bQ,al,al];omega
theorem Io{A B P u v:Nat}(a:u<P)(hv:v<P):(A*P+u=B*P+v↔A=B/\u=v)/\(A*P+u<B*P+v↔A<B\/(A=B/\u<v)):=by
 rcases Nat.lt_trichotomy A B with h|h|h
 ·have:=dk P (show A+1<=B from h);rw[Nat.succ_mul]at this;constructor<;>lia
 ·subst h;constructor<;>lia
 ·have:=dk P (show B+1<=A from h);rw[Nat.succ_mul]at this;constructor<;>lia
theorem rZ{S:Sto}{n:Nat}:∀ {bs:List Bool} {xs ys:List Nat},xs.length=bs.length->ys.length=bs.length->(∀ x∈xs,x<=7)->(∀ y∈ys,y<=7) ->
  jS (ga S (n+1)) (dq pt bs xs) (dq pt bs ys)=Z (decide (jc bs xs=jc bs ys))
 |[],xs,ys,_,_,_,_=>by simp[jS,jc]
 |b::bs,[],ys,h,_,_,_=>by simp at h
 |b::bs,x::xs,[],_,h,_,_=>by simp at h
 |b::bs,x::xs,y::ys,h1,h2,hx,hy=>by
  have ih:=rZ (S:=S) (n:=n) (bs:=bs) (xs:=xs) (ys:=ys) (by simpa using h1) (by simpa using h2) (λz a=>hx z (mC1 _ a)) (λz a=>hy z (mC1 _ a));have b1:=l0 (bs:=bs) (xs:=xs) λz a=>hx z (mC1 _ a);have b2:=l0 (bs:=bs) (xs:=ys) λz a=>hy z (mC1 _ a);rw[dr,dr,jS,DX,ih,jc,jc];have c:=(Io (A:=cx b x) (B:=cx b y) b1 b2).1;rw[oS1,oP1]
  congr 1
  rw[bQ,bA1,al,al,al];exact c.symm
theorem AA{S:Sto}{n:Nat}:∀ {bs:List Bool} {xs ys:List Nat},xs.length=bs.length->ys.length=bs.length->(∀ x∈xs,x<=7)->(∀ y∈ys,y<=7) ->
  oY (ga S (n+1)) (ku S (n+1)) (dq pt bs xs) (dq pt bs ys)=Z (decide (jc bs xs<jc bs ys))
 |[],xs,ys,_,_,_,_=>by simp[oY,jc]
 |b::bs,[],ys,h,_,_,_=>by simp at h
 |b::bs,x::xs,[],_,h,_,_=>by simp at h
 |b::bs,x::xs,y::ys,h1,h2,hx,hy=>by
  have ih:=AA (S:=S) (n:=n) (bs:=bs) (xs:=xs) (ys:=ys) (by simpa using h1) (by simpa using h2) (λz a=>hx z (mC1 _ a)) (λz a=>hy z (mC1 _ a));have b1:=l0 (bs:=bs) (xs:=xs) λz a=>hx z (mC1 _ a);have b2:=l0 (bs:=bs) (xs:=ys) λz a=>hy z (mC1 _ a);have c:=(Io (A:=cx b x) (B:=cx b y) b1 b2).2;rw[dr,dr,oY,DX,oS1,jc,jc];by_cases z:cx b x=cx b y
  ·rw[ak (ah z),ih]
   congr 1
   rw[bQ,al,al];lia
  ·rw[aj (by rw[al];exact z),HN z]
   congr 1
   rw[bQ,al,al];lia
structure Ky where
 m:Nat
 x:Nat
 y:Nat
 z:Nat
 w:Nat
structure Ky.Ok (k:Ky):Prop where
 m:k.m<4000
 x:k.x<=4
 y:k.y<=4
 z:k.z<=4
 w:k.w<=4
abbrev E4:=Bool×Bool×Bool×Bool
noncomputable def E4.bs(e:E4):List Bool:=[e.1,e.2.1,e.2.2.1,e.2.2.2]
noncomputable def Ky.xs(k:Ky):List Nat:=[k.x,k.y,k.z,k.w]
noncomputable def DP(b:Bool)(x:Nat):TK:=if b=M then .int x else .non
def Ky.sg(k:Ky)(e:E4):D:=Kk e.1 e.2.1 e.2.2.1 e.2.2.2 k.x k.y k.z k.w
def Ky.d(k:Ky)(e:E4):D:=.tup [.int k.m,k.sg e]
def Ky.tk(k:Ky)(e:E4):TK:=.tup [.int k.m,.tup [DP e.1 k.x,DP e.2.1 k.y,DP e.2.2.1 k.z,DP e.2.2.2 k.w]]
def Ky.code(k:Ky)(e:E4):Nat:=k.m*4096+jc e.bs k.xs
theorem Ky.keyT(k:Ky)(e:E4):Mi.keyT (k.d e)=Z (k.tk e):=by
 obtain⟨a,b,c,d⟩:=e;cases a<;>cases b<;>cases c<;>cases d<;>rfl
theorem Ky.tkD(k:Ky)(e:E4):Mi.tkD (k.tk e)=k.d e:=(wK (k.keyT e)).1
theorem Ky.sg_zip(k:Ky)(e:E4):k.sg e = .tup (dq pt e.bs k.xs):=rfl
theorem Ky.Ok.all{k:Ky}(h:k.Ok):∀x∈k.xs,x<=7:=by
 intro x a;have:=h.x;have:=h.y;have:=h.z;have:=h.w
 simp[Ky.xs]at a;lia
theorem gB{k:Ky}(h:k.Ok)(e:E4):jc e.bs k.xs<4096:=l0 (bs:=e.bs) h.all
theorem Ky.eq{k l:Ky}{e:E4}{S:Sto}{n:Nat}(hk:k.Ok)(a:l.Ok):ga S (n+3) (k.d e) (l.d e)=Z (decide (k.code e=l.code e)):=by
 have b:ga S (n+2) (.int k.m) (.int l.m)=Z ((k.m:Int) == (l.m:Int)):=rfl;have d:ga S (n+2) (k.sg e) (l.sg e)=Z (decide (jc e.bs k.xs=jc e.bs l.xs)):=by rw[Ky.sg_zip,Ky.sg_zip,Dj,rZ O O hk.all a.all]
 unfold Ky.d Ky.code;rw[Dj,jS,b,oS1,jS,d,jS];have c:=(Io (A:=k.m) (B:=l.m) (gB hk e) (gB a e)).1;show Z (((k.m:Int) == (l.m:Int))&&(decide (jc e.bs k.xs=jc e.bs l.xs)&&M))=_
 congr 1
 rw[bQ,bM,bA1,al,al,beq_iff_eq,c];lia
theorem Ky.lt{k l:Ky}{e:E4}{S:Sto}{n:Nat}(hk:k.Ok)(a:l.Ok):ku S (n+3) (k.d e) (l.d e)=Z (decide (k.code e<l.code e)):=by
 have g:ga S (n+2) (.int k.m) (.int l.m)=Z ((k.m:Int) == (l.m:Int)):=rfl;have d:ku S (n+2) (.int k.m) (.int l.m)=Z (decide ((k.m:Int)<(l.m:Int))):=rfl;have c:ga S (n+2) (k.sg e) (l.sg e)=Z (decide (jc e.bs k.xs=jc e.bs l.xs)):=by rw[Ky.sg_zip,Ky.sg_zip,Dj,rZ O O hk.all a.all]
 have f:ku S (n+2) (k.sg e) (l.sg e)=Z (decide (jc e.bs k.xs<jc e.bs l.xs)):=by rw[Ky.sg_zip,Ky.sg_zip,JN,AA O O hk.all a.all]
 unfold Ky.d Ky.code;have h:=(Io (A:=k.m) (B:=l.m) (gB hk e) (gB a e)).2;rw[JN,oY,g,oS1];by_cases z:k.m=l.m
 ·rw[ak (by rw[beq_iff_eq];lia),oY,c,oS1];by_cases b:jc e.bs k.xs=jc e.bs l.xs
  ·rw[ak (ah b),oY]
   congr 1
   rw[eq_comm,decide_eq_false_iff_not];lia
  ·rw[aj (by rw[al];exact b),f]
   congr 1
   rw[bQ,al,al];lia
 ·rw[aj (by rw[beq_iff_eq];lia),d]
  congr 1
  rw[bQ,al,al];lia
theorem Ky.und(k:Ky)(e:E4)(n:Nat):(k.d e).und n=M:=by
 rw[<- k.tkD e];exact uT _
theorem Ky.sgu(k:Ky)(e:E4)(n:Nat):(k.sg e).und n=M:=by
 have:=k.und e n;unfold Ky.d at this;simp only[D.und,D.unds,bM,Bool.true_and]at this;exact this
noncomputable def dO(F:List (TK×D)):Ob:=match F with
 |[]=>.dct []
 |_=>.dcT F
theorem D0{F:List (TK×D)}(h:F≠[]):dO F = .dcT F:=by
 cases F with
 |nil=>exact absurd O h
 |cons _ _=>rfl
structure RW (e:E4)(F:List (TK×D)):Prop where
 row:∀p∈F,∃k:Ky,k.Ok/\p.1=k.tk e/\gk p.2
 nd:(F.map (·.1)).Nodup
theorem RW.und{e:E4}{F:List (TK×D)}(h:RW e F)(n:Nat):(dO F).und n=M:=by
 have:D.unds n (F.map (·.2))=M:=Mi.fb λp a=>by
  obtain⟨_,_,_,b⟩:=h.row p a;exact fU b.und
 cases F with
 |nil=>rfl
 |cons _ _=>exact this
theorem Hd{e:E4}{F:List (TK×D)}{k:Ky}{x:D}{n:Nat}{S:Sto}(b:S[n]?=Z (dO F))(c:F.length<=100000):hL (.ref n) (k.d e) x S=Z (.non,S.set n (dO (e6 F (k.tk e) x))):=by
 cases F with
 |nil=>
  have a:S[n]?=Z (.dct []):=b;simp only[hL,a,k.keyT e];rfl
 |cons p F=>
  have a:S[n]?=Z (.dcT (p::F)):=b;rw[D0 zL];simp only[hL,a,k.keyT e,oS1];rw[ak (bH c (by decide))]
abbrev Rw:=Ky×D
def fe(e:E4)(p:Rw):D:=.tup [p.1.d e,p.2]
def jG(p:Rw):Prop:=p.1.Ok/\gk p.2
theorem RW.list{e:E4}:∀{F:List (TK×D)},(∀p∈F,∃k:Ky,k.Ok/\p.1=k.tk e/\gk p.2) -> ∃L:List Rw,L.map (λp=>(p.1.tk e,p.2))=F /\ ∀p∈L,jG p
 |[],_=>⟨[],O,λp a=>by cases a⟩
 |x::F,h=>by
  obtain⟨L,h1,h2⟩:=RW.list (F:=F) λp a=>h p (mC1 _ a);obtain⟨k,c,b,d⟩:=h x mS1;refine⟨(k,x.2)::L,by rw[mP1,h1,<- b],λp a=>?_⟩;rcases aF.mp a with z|z
  ·subst z;exact⟨c,d⟩
  ·exact h2 p z
theorem EO(b:Bool)(x:Nat):DP b x=if b=M then .int (cx b x)else .non:=by unfold DP cx;cases b<;>rfl
theorem xa{b:Bool}{x y:Nat}(h:DP b x=DP b y):cx b x=cx b y:=by
 cases b with
 |false=>rfl
 |true=>
  have h':TK.int (x:Int)=TK.int (y:Int):=h;injection h' with h';exact(by lia:x=y)
theorem Gs(a b c d x y z w:_):jc [a,b,c,d] [x,y,z,w]=((cx a x*8+cx b y)*8+cx c z)*8+cx d w:=by
 simp only[jc,lC1,bd];lia
theorem vZ{k l:Ky}{e:E4}(hk:k.Ok)(f:l.Ok):k.tk e=l.tk e↔k.code e=l.code e:=by
 obtain⟨a,b,c,d⟩:=e;have s:k.code (a,b,c,d)=k.m*4096+(((cx a k.x*8+cx b k.y)*8+cx c k.z)*8+cx d k.w):=by unfold Ky.code;rw[<- Gs];rfl
 have i:l.code (a,b,c,d)=l.m*4096+(((cx a l.x*8+cx b l.y)*8+cx c l.z)*8+cx d l.w):=by unfold Ky.code;rw[<- Gs];rfl
 have le:∀(b:Bool) (x:Nat),x<=4->cx b x<=4:=λb x h=>by unfold cx;split<;>lia
 rw[s,i];constructor
 ·intro h;unfold Ky.tk at h;injection h with h;injection h with h1 h2;injection h1 with h1;injection h2 with h2 _;injection h2 with h2;injection h2 with p h2;injection h2 with p2 h2;injection h2 with n h2;injection h2 with j _;rw[xa p,xa p2,xa n,xa j,show k.m=l.m by lia]
 ·intro h;have t:=le a _ hk.x;have u:=le b _ hk.y;have v:=le c _ hk.z;have z:=le d _ hk.w
  have w:=le a _ f.x;have r2:=le b _ f.y;have A:=le c _ f.z;have y:=le d _ f.w
  have m:k.m=l.m:=by lia
  have g:cx a k.x=cx a l.x:=by lia
  have o:cx b k.y=cx b l.y:=by lia
  have r:cx c k.z=cx c l.z:=by lia
  have q:cx d k.w=cx d l.w:=by lia
  unfold Ky.tk;simp only[EO,m,g,o,r,q]
def yP(e:E4)(L:List Rw):Prop:=L.Pairwise λp q=>p.1.code e<q.1.code e
theorem ou{α:Type}{p q:α->Bool}:∀{l:List α},(∀x∈l,p x=q x)->l.find? p=l.find? q
 |[],_=>rfl
 |a::l,h=>by
  rw[aZ,aZ,h a mS1,ou λx b=>h x (mC1 _ b)]
theorem hM{α:Type}{f:α->Nat}{c:Nat}{a:α}:∀{l:List α},(l.map f).Nodup->((l.find? λx=>decide (f x=c))=Z a↔a∈l/\f a=c)
 |[],_=>by simp
 |b::l,nd=>by
  rw[mP1,aN]at nd;rw[aZ];by_cases z:f b=c
  ·rw[ah z];constructor
   ·intro h;cases h;exact⟨mS1,z⟩
   ·rintro⟨h1,h2⟩;rcases aF.mp h1 with y|y
    ·rw[y]
    ·exact absurd (cf.mpr ⟨a,y,h2.trans z.symm⟩) nd.1
  ·rw[ai z];show(l.find? λx=>decide (f x=c))=Z a↔_;rw[hM nd.2];constructor
   ·rintro⟨h1,h2⟩;exact⟨mC1 _ h1,h2⟩
   ·rintro⟨h1,h2⟩;rcases aF.mp h1 with y|y
    ·rw[y]at h2;exact absurd h2 z
    ·exact⟨y,h2⟩
theorem yp{α:Type}{f:α->Nat}{c:Nat}{l m:List α}(p:l.Perm m)(nd:(m.map f).Nodup):(l.find? λx=>decide (f x=c))=m.find? λx=>decide (f x=c):=by
 have b:(l.map f).Nodup:=(p.map f).nodup_iff.mpr nd;apply Option.ext;intro a;rw[hM b,hM nd,p.mem_iff]
theorem yP.le{e:E4}{L:List Rw}(h:yP e L)(ok:∀p∈L,jG p){i j:Nat}{p q:Rw}(hi:L[i]?=Z p)(a:L[j]?=Z q)(d:i<=j):p.1.m<=q.1.m/\(i<j->p.1.code e<q.1.code e):=by
 have c:=(ok p (gM1 hi)).1;have f:=(ok q (gM1 a)).1;by_cases z:i=j
 ·subst z;rw[hi]at a;cases a;exact⟨nR1 _,λz=>by lia⟩
 ·obtain⟨h1,g⟩:=gE1.mp hi;obtain⟨h2,b⟩:=gE1.mp a;have:=cu.mp h i j h1 h2 (by lia);rw[g,b]at this;refine⟨?_,λ_=>this⟩;have k:=gB c e;have l:=gB f e;unfold Ky.code at this;lia
theorem JS{e:E4}{L:List Rw}{i:Nat}{p:Rw}{S:Sto}(h:L[i]?=Z p):dX (.tup (L.map (fe e))) (.int (i:Nat)) S=Z (fe e p,S):=by
 obtain⟨x,a,b⟩:=(gC (i:=i) (xs:=L.map (fe e)) (x:=fe e p) (S:=S) (Q:=λx=>x=(fe e p,S)) (by rw[gP1,h];rfl) O);rw[a,b]
theorem JT{e:E4}{p:Rw}{S:Sto}:dX (fe e p) (.int 0) S=Z (p.1.d e,S):=rfl
theorem Le{e:E4}{p:Rw}{S:Sto}:dX (fe e p) (.int 1) S=Z (p.2,S):=rfl
theorem Ku{e:E4}{k:Ky}{S:Sto}:dX (k.d e) (.int 0) S=Z (.int k.m,S):=rfl
theorem Lc{e:E4}{k:Ky}{S:Sto}:dX (k.d e) (.int 1) S=Z (k.sg e,S):=rfl
theorem kM{e:E4}{L:List Rw}(ok:∀p∈L,jG p)(n:Nat):(D.tup (L.map (fe e))).und n=M:=by
 rw[D.und];refine Mi.fb λp a=>?_;have h1:=p.1.und e n;have h2:=fU (n:=n) (ok p a).2.und;simp[fe,D.und,D.unds,h1,h2]
theorem FY{e:E4}{L:List Rw}{S:Sto}:eU (.tup (L.map (fe e))) S=Z (.int L.length,S):=by simp[eU,d7]
theorem DF{c:FT}{b:FS}{Q:Fl×Ev×Sto->Prop}(I:Nat->Ev->Sto->Prop)(N:Nat)(step:∀k r S,I k r S->W (c r S) fun p=>if p.1=true then k<N/\W (b r p.2) fun q=>q.1 = .nx/\I (k+1) q.2.1 q.2.2 else Q (.nx,r,p.2)):
  ∀(a k:Nat) (r:Ev) (S:Sto),N-k<a->I k r S->W (sx c b a r S) Q
 |0,k,r,S,hf,_=>by lia
 |a+1,k,r,S,hf,hi=>by
  rw[sx];dsimp only;rw[d2];obtain⟨⟨t,n⟩,e,h⟩:=step k r S hi;refine⟨_,e,?_⟩;dsimp only at h ⊢;cases t with
  |true=>
   rw[ak O]at h ⊢;obtain⟨m,⟨f,j,l⟩,i,g,d⟩:=h;dsimp only at g d;subst g;rw[i,oS1];exact DF I N step a (k+1) j l (by lia) d
  |false=>
   rw[aj (by decide)]at h ⊢;exact eG.mpr h
theorem Di{e:E4}{L:List Rw}{q:Nat}{S:Sto}{Q:D×Sto->Prop}(g:yP e L)(ok:∀ p∈L,jG p)(v:L.length<=4000)(h:∀a:Nat,a<=L.length->(∀i p,L[i]?=Z p->i<a->p.1.m<q)->(∀i p,L[i]?=Z p->a<=i->q<=p.1.m)->Q (.int a,S)):W (dZ 2 g9 [.tup (L.map (fe e)),.int (q:Nat)] S) Q:=by
 refine jz O (by rw[D.unds,kM ok,D.unds,D.und];rfl) ?_;unfold g9;refine lW ?_;unfold oF;generalize n:D.tup (L.map (fe e))=R;refine eF (λr S=>S=[]/\r=[Z R,Z (.int (q:Nat)),Z (.int ((0:Nat):Int)),Y,Y]) ?_ ?_
 ·walk_at"w";rfl
 rintro r l ⟨rfl,rfl⟩;refine eF (λr S=>S=[]/\r=[Z R,Z (.int (q:Nat)),Z (.int ((0:Nat):Int)),Z (.int (L.length:Nat)),Y]) ?_ ?_
 ·subst n
  ((try walk_at"w");repeat(simp only[FY];try walk_at"w"))
  rw[lM1]
 rintro r l ⟨rfl,rfl⟩;refine eF (λr S=>∃(a:Nat) (f:Option D),S=[]/\a<=L.length/\(∀i p,L[i]?=Z p->i<a->p.1.m<q)/\(∀i p,L[i]?=Z p->a<=i->q<=p.1.m)/\r=[Z R,Z (.int (q:Nat)),Z (.int (a:Nat)),Z (.int (a:Nat)),f]) ?_ ?_
 ·refine DF (λk r S=>∃(a high:Nat) (f:Option D),S=[]/\a<=high/\high<=L.length/\high-a+k<=L.length/\(∀i p,L[i]?=Z p->i<a->p.1.m<q)/\(∀i p,L[i]?=Z p->high<=i->q<=p.1.m)/\r=[Z R,Z (.int (q:Nat)),Z (.int (a:Nat)),Z (.int (high:Nat)),f]) L.length ?_ 100000 0 _ _ (by lia) ⟨0,L.length,_,O,by lia,by lia,by lia,λi p _ z=>by lia,λi p d z=>?_,O⟩
  ·rintro k r S ⟨a,high,f,rfl,h1,h2,o,s,m,rfl⟩;unfold kT;walk_at"w";by_cases z:a<high
   ·rw[ak (by rw[al];lia)];refine⟨by lia,?_⟩;unfold kS;have c:(a+high)/2<L.length:=by lia
    obtain⟨p,d⟩:∃p,L[(a+high)/2]?=some p:=⟨_,gG1 c⟩;have j:pd (.int ((a:Int)+(high:Int))) (.int 2) []=Z (.int (((a+high)/2:Nat):Int),[]):=by
     simp only[pd];rw[ak ⟨by lia,by lia⟩]
     push_cast
     rfl
    subst n
    ((try walk_at"w");repeat(simp only[j,JS d,JT,Ku];try walk_at"w"))
    by_cases t:p.1.m<q
    ·rw[ak (by rw[al];lia)];refine⟨(a+high)/2+1,high,_,by lia,h2,by lia,λi u b hi=>?_,m,by push_cast;rfl⟩;exact bH (g.le ok b d (by lia)).1 t
    ·rw[aj (by rw[al];lia)];refine⟨a,(a+high)/2,_,by lia,by lia,by lia,s,λi u b hi=>?_,O⟩;exact aC (by lia) (g.le ok d b hi).1
   ·rw[aj (by rw[al];lia)];have:a=high:=by lia
    subst this;exact⟨a,_,h2,s,m,O⟩
  ·have:=(gE1.mp d).1;lia
 rintro r l ⟨a,f,rfl,h1,h2,o,rfl⟩;walk_at"w";exact⟨O,h a h1 h2 o⟩
theorem y9{c:FT}{b:FS}{Q:Fl×Ev×Sto->Prop}(I:Nat->Ev->Sto->Prop)(N:Nat)(step:∀k r S,I k r S->W (c r S) fun p=>if p.1=true then k<N/\W (b r p.2) fun q=>(q.1 = .nx/\I (k+1) q.2.1 q.2.2) \/ ∃d,q.1 = .rt d/\Q q else Q (.nx,r,p.2)):
  ∀(a k:Nat) (r:Ev) (S:Sto),N-k<a->I k r S->W (sx c b a r S) Q
 |0,k,r,S,hf,_=>by lia
 |a+1,k,r,S,hf,hi=>by
  rw[sx];dsimp only;rw[d2];obtain⟨⟨t,u⟩,e,h⟩:=step k r S hi;refine⟨_,e,?_⟩;dsimp only at h ⊢;cases t with
  |true=>
   rw[ak O]at h ⊢;obtain⟨s,⟨f,m,o⟩,l,j⟩:=h;rw[l,oS1];rcases j with⟨g,i⟩|⟨d,g,n⟩
   ·dsimp only at g i;subst g;exact y9 I N step a (k+1) m o (by lia) i
   ·dsimp only at g;subst g;exact eG.mpr n
  |false=>
   rw[aj (by decide)]at h ⊢;exact eG.mpr h
theorem Ij{k l:Ky}{e:E4}{S:Sto}(hk:k.Ok)(a:l.Ok):m9 (k.sg e) (l.sg e) S=Z (.bl (decide (jc e.bs k.xs=jc e.bs l.xs)),S):=by
 show(ga S (58+1+1) (k.sg e) (l.sg e)).map _=_;rw[Ky.sg_zip,Ky.sg_zip,Dj,rZ O O hk.all a.all];rfl
theorem yP.nd{e:E4}:∀{L:List Rw},yP e L->(L.map λp=>p.1.code e).Nodup:=λh=>
 df.mpr (List.Pairwise.imp (λz=>nN1 z) h)
noncomputable def vz(k:Ky):D:=.tup [.int k.m,.str "leave",.non]
def jV(e:E4)(L:List Rw)(k:Ky):D:=((L.find? λp=>decide (p.1.code e=k.code e)).map (·.2)).getD (vz k)
theorem Be{e:E4}{L:List Rw}{k:Ky}{E:D}{S:Sto}{Q:D×Sto->Prop}(l:yP e L)(ok:∀ p∈L,jG p)(N:L.length<=4000)(hk:k.Ok)(au:E.und 0=M)(q:Q (jV e L k,S)):W (dZ 3 gn [.tup [E,.tup (L.map (fe e))],.int k.m,k.sg e] S) Q:=by
 refine jz O (by
  have C:=kM (e:=e) ok 0;have r2:=k.sgu e 0;rw[D.und]at C;simp[D.unds,D.und,au,C,r2]) ?_
 unfold gn;refine lW ?_;unfold qt;generalize am:D.tup [E,.tup (L.map (fe e))]=ao;refine eF (λr S=>S=[]/\r=[Z ao,Z (.int k.m),Z (k.sg e),Z (.tup (L.map (fe e))),Y]) ?_ ?_
 ·subst am;have K:dX (.tup [E,.tup (L.map (fe e))]) (.int 1) []=Z (.tup (L.map (fe e)),[]):=rfl
  ((try walk_at"w");repeat(simp only[K];try walk_at"w"))
 rintro r F ⟨rfl,rfl⟩;refine eF (λr S=>∃a:Nat,S=[]/\a<=L.length/\(∀i p,L[i]?=Z p->i<a->p.1.m<k.m)/\(∀i p,L[i]?=Z p->a<=i->k.m<=p.1.m)/\r=[Z ao,Z (.int k.m),Z (k.sg e),Z (.tup (L.map (fe e))),Z (.int (a:Nat))]) ?_ ?_
 ·walk_at"w";refine Di l ok N λa h1 h2 y=>?_;exact⟨a,O,h1,h2,y,O⟩
 rintro r F ⟨a,rfl,h1,h2,y,rfl⟩;have hnd:=l.nd;have d:(∀(i:Nat) (p:Rw),L[i]?=Z p->p.1.code e≠k.code e)->jV e L k=vz k:=λh=>by
  unfold jV;rw[dw.mpr λp c=>?_]
  ·rfl
  ·obtain⟨i,hi⟩:=bo c;rw[al];exact h i p hi
 have o:∀p,p∈L->p.1.m≠k.m->p.1.code e≠k.code e:=λp c u z=>by
  have:=(Io (A:=p.1.m) (B:=k.m) (gB (ok p c).1 e) (gB hk e)).1.mp z;exact u this.1
 unfold d6;refine d2.mpr ?_;refine y9 (λj r S=>S=[]/\a+j<=L.length/\(∀i p,L[i]?=Z p->i<a+j->p.1.code e≠k.code e)/\r=[Z ao,Z (.int k.m),Z (k.sg e),Z (.tup (L.map (fe e))),Z (.int ((a+j:Nat):Int))]) L.length ?_ 100000 0 _ _ (by lia) ⟨O,by lia,λi p c hi=>o p (gM1 c) (by have:=h2 i p c (by lia);lia),O⟩;rintro j r S ⟨rfl,P,t,rfl⟩;unfold mo;by_cases w:a+j<L.length
 ·obtain⟨p,c⟩:∃p,L[a+j]?=some p:=⟨_,gG1 w⟩;have m:=gM1 c
  ((try walk_at"w");repeat(simp only[FY,JS c,JT,Ku,lM1];try walk_at"w"))
  rw[ak (by rw[al];lia)];by_cases G:p.1.m=k.m
  ·rw[ak (by rw[beq_iff_eq];lia)];refine⟨by lia,?_⟩;unfold mm
   ((try walk_at"w");repeat(simp only[JS c,JT,Lc,Le,Ij (ok p m).1 hk];try walk_at"w"))
   have g:p.1.code e=k.code e↔jc e.bs p.1.xs=jc e.bs k.xs:=by unfold Ky.code;rw[G];lia
   by_cases hc:jc e.bs p.1.xs=jc e.bs k.xs
   ·rw[ak (ah hc)];right;have H:(L.find? λp=>decide (p.1.code e=k.code e))=Z p:=(hM (f:=λp:Rw=>p.1.code e) hnd).mpr ⟨m,g.mpr hc⟩;have I:jV e L k=p.2:=by unfold jV;rw[H];rfl
    rw[I]at q;exact⟨_,O,(ok p m).2.und,q⟩
   ·rw[aj (by rw[al];exact hc)];refine W.of (x:=(.nx,[Z ao,Z (.int k.m),Z (k.sg e),Z (.tup (L.map (fe e))),Z (.int (((a+j:Nat):Int)+1))],[])) O ?_;left;refine⟨O,O,by lia,λi n b hi=>?_,by push_cast;rfl⟩;by_cases v:i=a+j
    ·subst v;rw[c]at b;cases b;exact λz=>hc (g.mp z)
    ·exact t i n b (by lia)
  ·rw [if_neg (by rw [beq_iff_eq];lia)];have s:jV e L k=vz k:=d fun i n b=>by
    by_cases hi:i<a+j
    ·exact t i n b hi
    ·have b1:=y (a+j) p c (by lia);have b2:=(l.le ok c b (by lia)).1;exact o n (gM1 b) (by lia)
   rw[s]at q;exact⟨O,q⟩
 ·((try walk_at"w");repeat(simp only[FY,lM1];try walk_at"w"))
  rw[aj (by rw[al];lia)];have s:jV e L k=vz k:=d λi n b=>by
   have:=(gE1.mp b).1;exact t i n b (by lia)
  rw[s]at q;exact⟨O,q⟩
noncomputable def dm:D->Nat
 | .tup [.int m,_,_]=>m.toNat
 |_=>0
noncomputable def dh:D->Str
 | .tup [_,.str h,_]=>h
 |_=>""
noncomputable def dt:D->Option Nat
 | .tup [_,_,.int t]=>Z t.toNat
 |_=>Y
noncomputable def tD:Option Nat->D
 |none=>.non
 |some t=>.int (t:Nat)
theorem gk.eta{x:D}(h:gk x):x = .tup [.int (dm x:Nat),.str (dh x),tD (dt x)]/\dm x<4000:=by
 obtain⟨m,y,t,rfl,a,h1,h2⟩:=h.is;simp only[mD,aF,bL,or_false]at h1;simp only[i4,aF,bL,or_false]at h2;rcases h1 with e|e|e<;>subst e<;>rcases h2 with e|e|e|e|e<;>subst e<;>exact⟨O,a⟩
def eW(w:ew)(u:Wk)(x:D):Wk:=match dt x with
 |some t=>match (w[u.1]?).bind (·[t]?)with
  |some p=>(p.1,p.2+1,dm x)
  |none=>(u.1,u.2.1,dm x)
 |none=>(u.1,u.2.1,dm x)
theorem AM{t:Nat}{S:Sto}:Dd (.int (t:Nat)) .non S=Z (.bl J,S):=rfl
theorem Gc{S:Sto}:Dd .non .non S=Z (.bl M,S):=rfl
theorem xI{w:ew}{u:Wk}{row:List (Nat×Nat)}{x:D}{S:Sto}{Q:D×Sto->Prop}(hr:w[u.1]?=Z row)(hx:gk x)(q:Q (eZ (eW w u x),S)):W (dZ 3 iJ [webD w,eZ u,x] S) Q:=by
 refine jz O (by simp[D.unds,gy,hx.und];rfl) ?_;unfold iJ;refine lW ?_;unfold qq;have ex:=hx.eta.1;unfold eW at q;simp only[hr,oS1]at q;generalize o:dm x=m at *
 generalize n:dh x=h at *
 generalize l:dt x=t at *
 refine eF (λr V=>V=[]/\r=[Z (webD w),Z (eZ u),Z x,Z (.int u.1),Z (.int u.2.1),Z (.int u.2.2),Y,Y,Y,Y,Y]) ?_ ?_
 ·generalize g:eZ u=U;have c:U = .tup [.int u.1,.int u.2.1,.int u.2.2]:=g.symm;subst c;walk_at"w"
 rintro r V ⟨rfl,rfl⟩;refine eF (λr V=>V=[]/\r=[Z (webD w),Z (eZ u),Z x,Z (.int u.1),Z (.int u.2.1),Z (.int u.2.2),Z (.int (m:Nat)),Z (.str h),Z (tD t),Y,Y]) ?_ ?_
 ·subst ex;walk_at"w"
 rintro r V ⟨rfl,rfl⟩;cases t with
 |none=>
  have d:tD Y = .non:=rfl;rw[d]
  ((try walk_at"w");repeat(simp only[Gc];try walk_at"w"))
  exact⟨O,q⟩
 |some t=>
  have d:tD (Z t) = .int (t:Nat):=rfl;rw[d];have b:∀a,dX (webD w) (.int (u.1:Nat)) a=Z (.tup (row.map pD),a):=λa=>by
   obtain⟨p,e,h⟩:W (dX (webD w) (.int (u.1:Nat)) a) λp=>p=(.tup (row.map pD),a):=xr hr O;rw[e,h]
  dsimp only at q;by_cases j:t<row.length
  ·have f:=gG1 j;rw[f]at q;refine eF (λr V=>V=[]/\r=[Z (webD w),Z (eZ u),Z x,Z (.int u.1),Z (.int u.2.1),Z (.int u.2.2),Z (.int (m:Nat)),Z (.str h),Z (.int (t:Nat)),Y,Y]) ?_ ?_
   ·((try walk_at"w");repeat(simp only[AM,b,gP,lM1];try walk_at"w"))
    rw[aj (by rw[al];lia)];trivial
   rintro r V ⟨rfl,rfl⟩;have i:∀a,dX (.tup (row.map pD)) (.int (t:Nat)) a=Z (pD row[t],a):=λa=>by
    obtain⟨p,e,h⟩:W (dX (.tup (row.map pD)) (.int (t:Nat)) a) λp=>p=(pD row[t],a):=gC (by rw[gP1,f];rfl) O;rw[e,h]
   generalize row[t]=p at *
   refine eF (λr V=>V=[]/\r=[Z (webD w),Z (eZ u),Z x,Z (.int u.1),Z (.int u.2.1),Z (.int u.2.2),Z (.int (m:Nat)),Z (.str h),Z (.int (t:Nat)),Z (.int p.1),Z (.int p.2)]) ?_ ?_
   ·((try walk_at"w");repeat(simp only[b,i,pD];try walk_at"w"))
   rintro r V ⟨rfl,rfl⟩;walk_at"w";have k:(1:Int)+(p.2:Int)=((p.2+1:Nat):Int):=by lia
   rw[k];exact⟨O,q⟩
  ·rw[b4 (by lia)]at q
   ((try walk_at"w");repeat(simp only[AM,b,gP,lM1];try walk_at"w"))
   rw[ak (by rw[al];lia)];exact⟨O,q⟩
theorem xT{S:Sto}{x n:Nat}{cs:List Nat}(h:S[n]?=Z (.lst (eN cs))):fP (.int x) (.ref n) S=Z (.bl (!cs.contains x),S):=by
 simp only[fP,i3,lV,h,d7,oS1,eM,show(60:Nat)=59+1 from rfl,vo,oP1]
theorem wL{x:D}(h:gk x)(S:Sto):dX x (.int 1) S=Z (.str (dh x),S):=by
 have e:=h.eta.1;generalize dm x=a at e;generalize dt x=c at e;generalize dh x=b at *
 subst e;rfl
theorem m7{u:Wk}{S:Sto}:dX (eZ u) (.int 0) S=Z (.int u.1,S):=rfl
theorem rK{u:Wk}{S:Sto}:dX (eZ u) (.int 2) S=Z (.int u.2.2,S):=rfl
def gM(ws:List Wk)(dd:Wk->D)(h:Str)(r:Nat):Bool:=ws.any λu=>u.1 == r&&dh (dd u) == h
def eA(m:Nat)(ws:List Wk)(dd:Wk->D)(cs:List Nat):List Nat:=(af m).filter λr=>gM ws dd "mark" r||(cs.contains r && !gM ws dd "wipe" r)
theorem Ai(a b:List Nat):eN a++eN b=eN (a++b):=by simp[eN]
def oP(ws:List Wk)(dd:Wk->D)(h:Str):List Nat:=(ws.filter λu=>dh (dd u) == h).map (·.1)
theorem xp{ws:List Wk}{dd:Wk->D}{h:Str}{r:Nat}:r∈oP ws dd h↔gM ws dd h r=M:=by
 unfold oP gM;rw[cf,bR];constructor
 ·rintro⟨u,a,rfl⟩;obtain⟨h1,h2⟩:=aA.mp a;exact⟨u,h1,by simp[h2]⟩
 ·rintro⟨u,a,e⟩;rw[bA1,beq_iff_eq]at e;exact⟨u,aA.mpr ⟨a,e.2⟩,e.1⟩
theorem AX{h:Str}{ws:List Wk}{dd:Wk->D}{n:Nat}{S:Sto}{Q:D×Sto->Prop}{m:FA}{r:Ev}(hd:∀ u∈ws,gk (dd u))(d:ws.length<=8)(a:S[n]? = Z (.lst (ws.map dd)))(hm:m r S=Z ([.tup (eH ws),.ref n],S))(hr:oZ 2 [] r=[Y,Y])(q:Q (.ref S.length,S++[.lst (eN (oP ws dd h))])):W (eQ 2 [] (BG m) (gT 2 (gCs (gN 0) (gCs (gN 1) gNl))) (mB (m2 (b2 m9) (m2 (b2 dX) (mV 1) (mC (D.int (1)))) (mC (D.str h)))) (eJ (m2 (b2 dX) (mV 0) (mC (D.int (0))))) r S) Q:=by
 rw[lE];refine sv hm a ?_;dsimp only;rw[hr,eH,nl];refine io (λu:Wk=>dh (dd u) == h) (λu:Wk=>D.int u.1) (λr=>∃x y,r=[x,y]) (il a) ws _ ⟨_,_,O⟩ ?_ λc _=>?_
 ·rintro u b r ⟨x,y,rfl⟩
  ((try walk_at"w");repeat(simp only[wL (hd u b)];try walk_at"w"))
  refine⟨⟨_,_,O⟩,λ_=>?_⟩
  ((try walk_at"w");repeat(simp only[m7];try walk_at"w"))
 ·have e:(ws.filter λu:Wk=>dh (dd u) == h).map (λu:Wk=>D.int (u.1:Nat))=eN (oP ws dd h):=by unfold eN oP;rw[bt];rfl
  rw[e];have f:=dj (λu:Wk=>dh (dd u) == h) ws;refine⟨ee ?_,q⟩;dsimp only;rw[ix];unfold oP;rw[lM1];lia
theorem yk{m:Nat}{ws:List Wk}{cs:List Nat}{dd:Wk->D}{n:Nat}{S:Sto}{Q:D×Sto->Prop}(hd:∀ u∈ws,gk (dd u))(v:ws.length<=8)(hc:cs.length<=8)(hw:∀ u∈ws,u.1<m)(o:∀ r∈cs,r<m)(k:S[n]? = Z (.lst (ws.map dd)))(l:S.all (Ob.und S.length)=M)(q:Q (.tup (eN (eA m ws dd cs)),S)):W (dZ 2 iK [d4 ws cs,.ref n] S) Q:=by
 refine lr O (by simp[D.unds,D.und]) ?_;unfold iK;refine lW ?_;unfold qr;have y:=(gE1.mp k).1;refine eF (λr V=>V=S/\r=[Z (d4 ws cs),Z (.ref n),Z (.tup (eH ws)),Z (.tup (eN cs)),Y,Y,Y]) ?_ ?_
 ·generalize A:d4 ws cs=ao;have j:ao = .tup [.tup (eH ws),.tup (eN cs)]:=A.symm;subst j;walk_at"w"
 rintro r V ⟨H,rfl⟩;subst H;refine eF (λr i=>i=V++[.lst (eN (oP ws dd "mark"))]/\r=[Z (d4 ws cs),Z (.ref n),Z (.tup (eH ws)),Z (.tup (eN cs)),Z (.ref V.length),Y,Y]) ?_ ?_
 ·unfold ea;refine d2.mpr (AX hd v k O O ?_);walk_at"w"
 rintro r a ⟨b,rfl⟩;have G:a[n]?=Z (.lst (ws.map dd)):=by rw[b,gL1 y];exact k
 have s:a[V.length]?=Z (.lst (eN (oP ws dd "mark"))):=by rw[b,et];rfl
 refine eF (λr i=>i=a++[.lst (eN (oP ws dd "wipe"))]/\r=[Z (d4 ws cs),Z (.ref n),Z (.tup (eH ws)),Z (.tup (eN cs)),Z (.ref V.length),Z (.ref a.length),Y]) ?_ ?_
 ·unfold ea;refine d2.mpr (AX hd v G O O ?_);walk_at"w"
 rintro r g ⟨c,rfl⟩;have t:g[V.length]?=Z (.lst (eN (oP ws dd "mark"))):=by rw[c,gL1 (gE1.mp s).1];exact s
 have C:g[a.length]?=Z (.lst (eN (oP ws dd "wipe"))):=by rw[c,et];rfl
 refine eF (λr i=>i=g++[.lst (eN (cs.filter λr=> !(oP ws dd "wipe").contains r))]/\r=[Z (d4 ws cs),Z (.ref n),Z (.tup (eH ws)),Z (.tup (eN cs)),Z (.ref V.length),Z (.ref a.length),Z (.ref g.length)]) ?_ ?_
 ·walk_at"w";rw[gW];refine io (f:=λr:Nat=>D.int r) (λr:Nat=> !(oP ws dd "wipe").contains r) (λr:Nat=>D.int r) (λr=>∃x,r=[x,Z (.ref a.length)]) O cs _ ⟨_,O⟩ ?_ λam _=>?_
  ·rintro u p r ⟨x,rfl⟩
   ((try walk_at"w");repeat(simp only[xT C];try walk_at"w"))
   exact⟨⟨_,O⟩,λ_=>trivial⟩
  ·walk_at"w";have E:=dj (λr:Nat=> !(oP ws dd "wipe").contains r) cs;exact⟨ee (by rw[lM1];lia),O,trivial⟩
 rintro r w ⟨d,rfl⟩;have F:w[V.length]?=Z (.lst (eN (oP ws dd "mark"))):=by rw[d,gL1 (gE1.mp t).1];exact t
 have z:w[g.length]?=Z (.lst (eN (cs.filter λr=> !(oP ws dd "wipe").contains r))):=by rw[d,et];rfl
 have E:=dj (λr:Nat=> !(oP ws dd "wipe").contains r) cs;have I:(oP ws dd "mark").length<=ws.length:=by unfold oP;rw[lM1];exact dj _ _
 walk_at"w";refine(Bv z F).mpr ⟨ee (by rw[ix,ix];lia),?_⟩;rw[Ai];refine yL (xs:=cs.filter (λr=> !(oP ws dd "wipe").contains r)++oP ws dd "mark") (m:=m) (f:=λr=>gM ws dd "mark" r||(cs.contains r && !gM ws dd "wipe" r)) (by rw[et];rfl) (λr=>?_) (by rw[lA1];lia) ?_
 ·have B:(oP ws dd "wipe").contains r=gM ws dd "wipe" r:=by
   rw[bQ,cQ,xp]
  rw[aG,aA,xp,B];constructor
  ·rintro(⟨h1,h2⟩|h1)
   ·exact⟨o r h1,by rw[cQ.mpr h1,h2];simp⟩
   ·refine⟨?_,by rw[h1];rfl⟩;unfold gM at h1;obtain⟨u,p,e⟩:=bR.mp h1;rw[bA1,beq_iff_eq]at e;rw[<- e.1];exact hw u p
  ·rintro⟨_,h⟩;rw[bO,bA1]at h;rcases h with h|⟨h1,h2⟩
   ·exact .inr h
   ·exact .inl ⟨cQ.mp h1,h2⟩
 ·walk_at"w";refine eK (xs:=eN (eA m ws dd cs)) (by rw[im];rfl) ?_;rw[rR (by rw[D.und];exact rz _) l (by rw[d,c,b];simp only[bG];exact bu _ _)];exact q
theorem CF{m:Nat}{w:ew}{ws:List Wk}{cs:List Nat}{dd:Wk->D}{n:Nat}{S:Sto}{Q:D×Sto->Prop}(h:w.length=m)(hd:∀ u∈ws,gk (dd u))(z:ws.length<=8)(hc:cs.length<=8)(hw:∀ u∈ws,u.1<m)(i:∀ r∈cs,r<m)(d:S[n]? = Z (.lst (ws.map dd)))(b:S.all (Ob.und S.length)=M)(q:Q (d4 (ws.map λu=>eW w u (dd u)) (eA m ws dd cs),S)):W (dZ 3 k4 [webD w,d4 ws cs,.ref n] S) Q:=by
 refine lr O (by simp[D.unds,D.und]) ?_;unfold k4;refine lW ?_;unfold xl;have l:=(gE1.mp d).1;refine eF (λr V=>V=S/\r=[Z (webD w),Z (d4 ws cs),Z (.ref n),Z (.tup (eH ws)),Z (.tup (eN cs)),Y]) ?_ ?_
 ·generalize p:d4 ws cs=ao;have g:ao = .tup [.tup (eH ws),.tup (eN cs)]:=p.symm;subst g;walk_at"w"
 rintro r V ⟨B,rfl⟩;subst B;refine eF (λr t=>t=V++[.lst (eH (ws.map λu=>eW w u (dd u)))]/\r=[Z (webD w),Z (d4 ws cs),Z (.ref n),Z (.tup (eH ws)),Z (.tup (eN cs)),Z (.ref V.length)]) ?_ ?_
 ·unfold ea;refine d2.mpr ?_;rw[lE];refine sv (xs:=eH ws) (ys:=ws.map dd) (n:=n) O d ?_;dsimp only;rw[eH,nl];refine nV (λu:Wk=>eZ (eW w u (dd u))) (λr=>∃x y,r=[x,y,Z (webD w)]) (il d) ws _ ⟨_,_,O⟩ ?_ λE _=>?_
  ·rintro u j r ⟨x,y,rfl⟩;obtain⟨row,c⟩:∃row,w[u.1]?=some row:=⟨_,gG1 (by rw[h];exact hw u j)⟩;walk_at"w";refine xI c (hd u j) ?_;exact⟨O,O,_,_,O⟩
  ·have e:ws.map (λu:Wk=>eZ (eW w u (dd u)))=eH (ws.map λu=>eW w u (dd u)):=by unfold eH;rw[bt];rfl
   rw[e];refine⟨ee (by dsimp only;rw[jJ,lM1];lia),?_⟩;walk_at"w"
 rintro r f ⟨a,rfl⟩;have A:f[n]?=Z (.lst (ws.map dd)):=by rw[a,gL1 l];exact d
 have k:f[V.length]?=Z (.lst (eH (ws.map λu=>eW w u (dd u)))):=by rw[a,et];rfl
 have C:f.all (Ob.und f.length)=M:=by
  rw[a,dy,bA1,lA1];rw[bB]at b;refine⟨bB.mpr λo v=>kX (bq _ _) (b o v),?_⟩;rw[bP,Ob.und,iC (kB _)];rfl
 walk_at"w";refine eK k ?_;refine yk hd z hc hw i A C ?_;walk_at"w";have s:D.tup [.tup (eH (ws.map λu=>eW w u (dd u))),.tup (eN (eA m ws dd cs))]=d4 (ws.map λu=>eW w u (dd u)) (eA m ws dd cs):=rfl;rw[s,rR fZ b (by rw[a];exact bu _ _)];exact q
def oO(e:E4):D:=.tup (fF e.1 e.2.1 e.2.2.1 e.2.2.2)
theorem rX(e:E4):(oO e).und 0=M:=by unfold oO;rw[D.und];exact lj _ _ _ _
def mcD(e:E4)(L:List Rw):D:=.tup [oO e,.tup (L.map (fe e))]
theorem rB{e:E4}{L:List Rw}(ok:∀p∈L,jG p):(mcD e L).und 0=M:=by
 have h1:=rX e;have h2:=kM (e:=e) ok 0;unfold mcD;rw[D.und,D.unds,D.unds,h1,h2];rfl
theorem vy{e:E4}{L:List Rw}{k:Ky}(ok:∀p∈L,jG p)(hk:k.Ok):gk (jV e L k):=by
 unfold jV;cases h:L.find? λp=>decide (p.1.code e=k.code e)with
 |none=>exact⟨k.m,_,_,O,hk.m,by simp[mD],by simp[i4]⟩
 |some p=>exact(ok p (dz h)).2
def ky(w:ew)(ws:List Wk)(cs:List Nat)(u:Wk):Ky:=⟨u.2.2,u.2.1,if cs.contains u.1 then 1 else 0,((w[u.1]?).getD []).length,if 1<crowd ws u.1 then 1 else 0⟩
theorem q0{w:ew}{ws:List Wk}{cs:List Nat}{u:Wk}{row:List (Nat×Nat)}{e:E4}(h:w[u.1]?=Z row):v8 e.1 e.2.1 e.2.2.1 e.2.2.2 ws cs u row=(ky w ws cs u).sg e:=by
 have c:∀b:Bool,((if b=M then 1 else 0:Nat):Int)=if b=M then(1:Int)else 0:=λb=>by cases b<;>rfl
 have a:((if 1<crowd ws u.1 then 1 else 0:Nat):Int)=if 1<crowd ws u.1 then(1:Int)else 0:=by split<;>rfl
 unfold v8 u6 Ky.sg Kk ky pt;rw[h];dsimp only;rw[c,a];rfl
structure hU (m:Nat)(w:ew)(ws:List Wk)(cs:List Nat):Prop where
 web:kb m w
 m8:m<=8
 few:ws.length<=8
 cl:cs.length<=8
 wk:∀u∈ws,∃row,w[u.1]?=some row/\u.2.1<=row.length/\u.2.2<4000
 ch:∀r∈cs,r<m
theorem hU.lt{m:Nat}{w:ew}{ws:List Wk}{cs:List Nat}(h:hU m w ws cs):∀u∈ws,u.1<m:=λu b=>by
 obtain⟨a,e,_⟩:=h.wk u b;have:=(gE1.mp e).1;rw[h.web.len]at this;exact this
theorem hU.ky{m:Nat}{w:ew}{ws:List Wk}{cs:List Nat}(h:hU m w ws cs):∀u∈ws,(ky w ws cs u).Ok:=λu b=>by
 obtain⟨a,e,h1,h2⟩:=h.wk u b;have c:=h.web.le a (gM1 e);refine⟨h2,?_,?_,?_,?_⟩
 ·show u.2.1<=4;lia
 ·show(if cs.contains u.1 then 1 else 0)<=4;split<;>lia
 ·show((w[u.1]?).getD []).length<=4;rw[e];exact c
 ·show(if 1<crowd ws u.1 then 1 else 0)<=4;split<;>lia
theorem BV{m:Nat}{w:ew}{ws:List Wk}{cs:List Nat}{e:E4}{S:Sto}{Q:D×Sto->Prop}(h:hU m w ws cs)(q:Q (.ref S.length,S++[.lst (ws.map λu=>(ky w ws cs u).d e)])):W (dZ 3 k3 [webD w,oO e,d4 ws cs] S) Q:=by
 refine Iq O (by simp[D.unds,gy,fZ,rX]) ?_;unfold k3;refine lW ?_;unfold xk eS;rw[d2,lE];refine IC (xs:=eH ws) O ?_;dsimp only;have i:=h.few;rw[eH,Bb];refine nV (λp:Wk×Nat=>(ky w ws cs p.1).d e) (λr=>∃x y,r=[x,y,Z (webD w),Z (oO e),Z (d4 ws cs)]) O ws.zipIdx _ ⟨_,_,O⟩ ?_ λg _=>?_
 ·rintro⟨u,k⟩ c r ⟨x,y,rfl⟩;have a:ws[k]?=Z u:=xy c;obtain⟨d,b,_⟩:=h.wk u (gM1 a)
  ((try walk_at"w");repeat(simp only[rK];try walk_at"w"))
  refine B2 a b (by lia) ?_;walk_at"w";rw[q0 b];exact⟨O,_,_,O⟩
 ·have f:(ws.zipIdx.map λp:Wk×Nat=>(ky w ws cs p.1).d e)=ws.map λu=>(ky w ws cs u).d e:=uN (λu=>(ky w ws cs u).d e) ws;rw[f];refine⟨ee (by dsimp only;rw[lM1];lia),?_⟩;walk_at"w";exact⟨_,O,Mi.fb λu _=>Ky.und _ e 0,q⟩
def ddW(w:ew)(ws:List Wk)(cs:List Nat)(e:E4)(L:List Rw)(u:Wk):D:=jV e L (ky w ws cs u)
def oD(m:Nat)(w:ew)(ws:List Wk)(cs:List Nat)(e:E4)(L:List Rw):D:=d4 (ws.map λu=>eW w u (ddW w ws cs e L u)) (eA m ws (ddW w ws cs e L) cs)
theorem Gz{m:Nat}{w:ew}{ws:List Wk}{cs:List Nat}{e:E4}{L:List Rw}{S:Sto}{Q:D×Sto->Prop}(h:hU m w ws cs)(b:yP e L)(ok:∀p∈L,jG p)(f:L.length<=4000)(q:Q (oD m w ws cs e L,S)):W (dZ 3 nX [webD w,mcD e L,d4 ws cs] S) Q:=by
 refine jz O (by simp[D.unds,gy,fZ,rB ok]) ?_;unfold nX
 refine lW ?_;unfold Bo
 have j:=h.few;have c:∀u∈ws,gk (ddW w ws cs e L u):=λu a=>vy ok (h.ky u a);refine eF (λr V=>V=[.lst (ws.map λu=>(ky w ws cs u).d e)]/\r=[Z (webD w),Z (mcD e L),Z (d4 ws cs),Z (.ref 0)]) ?_ ?_
 ·have g:∀S,dX (mcD e L) (.int 0) S=Z (oO e,S):=λS=>rfl
  ((try walk_at"w");repeat(simp only[g];try walk_at"w"))
  refine BV h ?_;walk_at"w"
 rintro r V ⟨rfl,rfl⟩;unfold eS;rw[d2];have key:W (eQ 2 [1] (hK (mV 3)) (gT 2 (gCs (gN 0) (gCs (gN 1) gNl))) fW (eJ (mN (dZ 3 gn) (dU (mV 2) (dU (mV 0) (dU (mV 1) dV))))) [Z (webD w),Z (mcD e L),Z (d4 ws cs),Z (.ref 0)] [.lst (ws.map λu=>(ky w ws cs u).d e)]) λp=>p=(.ref 1,[.lst (ws.map λu=>(ky w ws cs u).d e),.lst (ws.map (ddW w ws cs e L))]):=by
  walk_at"w";refine eK (xs:=ws.map λu=>(ky w ws cs u).d e) O ?_;refine nV (ddW w ws cs e L) (λr=>∃x y,r=[x,y,Z (mcD e L)]) (il O) ws _ ⟨_,_,O⟩ ?_ λi _=>?_
  ·rintro u a r ⟨x,y,rfl⟩;unfold Ky.d;walk_at"w";refine Be b ok f (h.ky u a) (rX e) ?_;exact⟨O,O,_,_,O⟩
  ·refine⟨ee (by dsimp only;rw[lM1];lia),?_⟩;walk_at"w"
 obtain⟨p,d,rfl⟩:=key;generalize eQ 2 [1] (hK (mV 3)) (gT 2 (gCs (gN 0) (gCs (gN 1) gNl))) fW (eJ (mN (dZ 3 gn) (dU (mV 2) (dU (mV 0) (dU (mV 1) dV)))))=G at *
 ((try walk_at"w");repeat(simp only[d];try walk_at"w"))
 refine CF h.web.len c h.few h.cl h.lt h.ch (dd:=ddW w ws cs e L) O ?_ ?_
 ·rw[bP,bP,Ob.und,Ob.und,Mi.fb λu _=>Ky.und _ e _,Mi.fb λu a=>fU (c u a).und];rfl
 ·exact⟨fZ,q⟩
theorem rP{S:Sto}{n:Nat}{x:Str}:∀a:List Str,yS (ga S (n+1)) (.str x) (a.map D.str)=Z (a.contains x)
 |[]=>rfl
 |c::a=>by
  have b:ga S (n+1) (.str c) (.str x)=Z (c == x):=rfl;have d:(c == x)=(x == c):=by rw[bQ,beq_iff_eq,beq_iff_eq];exact eq_comm
  rw[mP1,yS,b,d,rP a,ca];rfl
theorem C7{S:Sto}{x:Str}{n:Nat}{cs:List Str}(h:S[n]?=Z (.lst (cs.map D.str))):gF (.str x) (.ref n) S=Z (.bl (cs.contains x),S):=by
 simp only[gF,ua,Gd,h,d7,oS1,eM,show(60:Nat)=59+1 from rfl,rP,oP1]
theorem vg{S:Sto}{x:Str}{n:Nat}{cs:List Str}(h:S[n]?=Z (.lst (cs.map D.str))):fP (.str x) (.ref n) S=Z (.bl (!cs.contains x),S):=by
 simp only[fP,i3,lV,h,d7,oS1,eM,show(60:Nat)=59+1 from rfl,rP,oP1]
def o4(ws:List Wk)(dd:Wk->D)(r:Nat):List Str:=(ws.filter λu=>u.1 == r).map λu=>dh (dd u)
theorem C9{ws:List Wk}{dd:Wk->D}{r:Nat}{h:Str}:(o4 ws dd r).contains h=gM ws dd h r:=by
 unfold o4 gM;rw[bQ,cQ,cf,bR];constructor
 ·rintro⟨u,b,e⟩;obtain⟨h1,h2⟩:=aA.mp b;exact⟨u,h1,by rw[h2,e];simp⟩
 ·rintro⟨u,b,e⟩;rw[bA1,beq_iff_eq (a:=dh (dd u))]at e;exact⟨u,aA.mpr ⟨b,e.1⟩,e.2⟩
theorem qw{ws:List Wk}{cs:List Nat}{S:Sto}:dX (d4 ws cs) (.int 0) S=Z (.tup (eH ws),S):=rfl
theorem Ea{ws:List Wk}{cs:List Nat}{S:Sto}:dX (d4 ws cs) (.int 1) S=Z (.tup (eN cs),S):=rfl
theorem yC{m:Nat}{w:ew}{ws:List Wk}{cs:List Nat}{dd:Wk->D}{n:Nat}{S:Sto}{Q:D×Sto->Prop}(A:w.length=m)(hm:m<=8)(hd:∀ u∈ws,gk (dd u))(U:ws.length<=8)(B:S[n]? = Z (.lst (ws.map dd)))(z:S.all (Ob.und S.length)=M)(q:Q (.tup (eN (eA m ws dd cs)),S)):W (dZ 3 fL [webD w,d4 ws cs,.ref n] S) Q:=by
 refine lr O (by simp[D.unds,D.und]) ?_;unfold fL;refine lW ?_;unfold jD;have ao:=(gE1.mp B).1;refine eF (λr V=>V=S++[.lst (eN [])]/\r=[Z (webD w),Z (d4 ws cs),Z (.ref n),Z (.ref S.length),Y,Y]) ?_ ?_
 ·walk_at"w";exact⟨O,trivial⟩
 rintro r V ⟨R,rfl⟩;refine eF (λr V=>∃G a c,V=S ++ .lst (eN (eA m ws dd cs))::G/\r=[Z (webD w),Z (d4 ws cs),Z (.ref n),Z (.ref S.length),a,c]) ?_ ?_
 ·((try walk_at"w");repeat(simp only[wG];try walk_at"w"))
  rw[j6,Int.toNat_natCast,A];refine⟨fQ (by lia),?_⟩;refine gi (λi r V=>∃G a c,i<=m/\V=S ++ .lst (eN (eA i ws dd cs))::G/\r=[Z (webD w),Z (d4 ws cs),Z (.ref n),Z (.ref S.length),a,c]) _ 0 _ _ ⟨[],_,_,by lia,R,O⟩ (λ_ _ _ _=>rfl) ?_ ?_
  ·rintro i d g r I ⟨G,a,c,hi,rfl,rfl⟩;have s:=(gE1.mp g).1;rw[lM1,dA]at s;rw[bN]at *
   have v:d = .int (i:Nat):=by
    rw[gP1,cK s]at g;exact(Option.some.inj g).symm
   subst v;walk_at"w";unfold iI;have am:(S++Ob.lst (eN (eA i ws dd cs))::G)[n]?=Z (.lst (ws.map dd)):=by rw[gL1 ao];exact B
   have E:(S++Ob.lst (eN (eA i ws dd cs))::G)[S.length]?=Z (.lst (eN (eA i ws dd cs))):=by rw[et];rfl
   refine eF (λr V=>V=S ++ .lst (eN (eA i ws dd cs))::G++[.lst ((o4 ws dd i).map D.str)]/\r=[Z (webD w),Z (d4 ws cs),Z (.ref n),Z (.ref S.length),Z (.int (i:Nat)),Z (.ref (S++Ob.lst (eN (eA i ws dd cs))::G).length)]) ?_ ?_
   ·unfold ea;rw[d2,lE];refine sv (xs:=eH ws) (ys:=ws.map dd) (n:=n) O am ?_;dsimp only;rw[eH,nl];refine io (λu:Wk=>u.1 == i) (λu:Wk=>D.str (dh (dd u))) (λr=>∃x y,r=[x,y,Z (.int (i:Nat))]) (il am) ws _ ⟨_,_,O⟩ ?_ λT _=>?_
    ·rintro u L r ⟨x,y,rfl⟩
     ((try walk_at"w");repeat(simp only[m7];try walk_at"w"))
     refine⟨?_,⟨_,_,O⟩,λ_=>?_⟩
     ·rw[bQ,beq_iff_eq,beq_iff_eq];lia
     ·((try walk_at"w");repeat(simp only[wL (hd u L)];try walk_at"w"))
    ·have e:(ws.filter λu:Wk=>u.1 == i).map (λu:Wk=>D.str (dh (dd u)))=(o4 ws dd i).map D.str:=by unfold o4;rw[bt];rfl
     rw[e];have p:=dj (λu:Wk=>u.1 == i) ws;refine⟨ee (by dsimp only;unfold o4;rw[lM1,lM1];lia),?_⟩;walk_at"w"
   rintro r j ⟨k,rfl⟩;have H:j[(S++Ob.lst (eN (eA i ws dd cs))::G).length]?=Z (.lst ((o4 ws dd i).map D.str)):=by rw[k,et];rfl
   have K:j[S.length]?=Z (.lst (eN (eA i ws dd cs))):=by rw[k,gL1 (gE1.mp E).1];exact E
   have f:j=S++Ob.lst (eN (eA i ws dd cs))::(G++[Ob.lst ((o4 ws dd i).map D.str)]):=by rw[k];simp
   have t:j.set S.length (.lst (eN (eA i ws dd cs)++[.int (i:Nat)]))=S++Ob.lst (eN (eA i ws dd cs++[i]))::(G++[Ob.lst ((o4 ws dd i).map D.str)]):=by
    rw[f,c4 _ _ (nR1 _),cP,c5];simp[eN]
   have C:∀b:Bool,(gM ws dd "mark" i||(cs.contains i && !gM ws dd "wipe" i))=b->eA (i+1) ws dd cs=if b=M then eA i ws dd cs++[i]else eA i ws dd cs:=λb N=>by
    unfold eA;rw[List.range_succ,List.filter_append,de,N];cases b<;>simp
   have P:(eA i ws dd cs).length<=8:=by
    have:=dj (λr=>gM ws dd "mark" r||(cs.contains r && !gM ws dd "wipe" r)) (af i);rw[dA]at this;exact aC this (by lia)
   generalize X:(S++Ob.lst (eN (eA i ws dd cs))::G).length=p at *
   have app:∀ Q':D×Sto->Prop,Q' (.non,S++Ob.lst (eN (eA i ws dd cs++[i]))::(G++[Ob.lst ((o4 ws dd i).map D.str)])) ->
     W (pP (b2 kl) (mV 3) (dU (mV 4) dV) [Z (webD w),Z (d4 ws cs),Z (.ref n),Z (.ref S.length),Z (.int (i:Nat)),Z (.ref p)] j) Q':=λQ' au=>by
    refine i8 ?_;walk_at"w";refine⟨S.length,_,O,K,?_⟩;refine(oM K).mpr ⟨ee (by rw[ix];lia),?_⟩;rw[t];exact au
   unfold gj;rw[d2]
   ((try walk_at"w");repeat(simp only[C7 H,vg H,Ea,AN,C9];try walk_at"w"))
   have o:(gM ws dd "mark" i||(cs.contains i && !gM ws dd "wipe" i))=M->W (pP (b2 kl) (mV 3) (dU (mV 4) dV) [Z (webD w),Z (d4 ws cs),Z (.ref n),Z (.ref S.length),Z (.int (i:Nat)),Z (.ref p)] j) λx=>∃G a c,i+1<=m/\x.2=S++Ob.lst (eN (eA (i+1) ws dd cs))::G/\[Z (webD w),Z (d4 ws cs),Z (D.ref n),Z (.ref S.length),Z (.int (i:Nat)),Z (.ref p)]=[Z (webD w),Z (d4 ws cs),Z (.ref n),Z (.ref S.length),a,c]:=λh=>by
    have h2:=C M h;rw[ak O]at h2;exact app _ ⟨_,_,_,by lia,by rw[h2],O⟩
   have F:(gM ws dd "mark" i||(cs.contains i && !gM ws dd "wipe" i))=J -> ∃G a c,i+1<=m/\j=S++Ob.lst (eN (eA (i+1) ws dd cs))::G/\[Z (webD w),Z (d4 ws cs),Z (D.ref n),Z (.ref S.length),Z (.int (i:Nat)),Z (.ref p)]=[Z (webD w),Z (d4 ws cs),Z (.ref n),Z (.ref S.length),a,c]:=λh=>by
    have h2:=C J h;rw[aj (by decide)]at h2;exact⟨_,_,_,by lia,by rw[h2];exact f,O⟩
   generalize gM ws dd "mark" i=b1 at *
   generalize cs.contains i=b2 at *
   generalize gM ws dd "wipe" i=b3 at *
   cases b1
   ·rw[aj (by decide)];cases b2
    ·rw[aj (by decide)];exact F O
    ·rw[ak O];cases b3
     ·rw[ak (by decide)];exact o O
     ·rw[aj (by decide)];exact F O
   ·rw[ak O];exact o O
  ·rintro r I ⟨G,a,c,hi,rfl,rfl⟩;rw[lM1,dA,bN];exact⟨O,_,_,_,O,O⟩
 rintro r I ⟨G,a,c,l,rfl⟩;walk_at"w";refine eK (xs:=eN (eA m ws dd cs)) (by rw[l,et];rfl) ?_;rw[rR (by rw[D.und];exact rz _) z (by rw[l];exact bu _ _)];exact q
theorem Dn{F:List (TK×D)}{n:Nat}{S:Sto}(h:S[n]?=Z (dO F)):yw S n=Z F:=by
 unfold yw;rw[h];cases F<;>rfl
structure RL (e:E4)(F:List (TK×D))(L:List Rw):Prop where
 inc:yP e L
 ok:∀p∈L,jG p
 len:L.length<=4000
 lk:∀k:Ky,k.Ok->d3 F (k.tk e)=(L.find? λp=>decide (p.1.code e=k.code e)).map (·.2)
theorem H7{e:E4}{F:List (TK×D)}{L:List Rw}{k:Ky}{n:Nat}{S:Sto}{a b c:FE}{r:Ev}{Q:D×Sto->Prop}(d:RL e F L)(hk:k.Ok)(ha:a r S=Z (.ref n,S))(f:S[n]?=Z (dO F))(hb:b r S=Z (k.d e,S))(hc:c r S=Z (vz k,S))(q:Q (jV e L k,S)):W (rF a b c r S) Q:=by
 refine W.of (x:=(jV e L k,S)) ?_ q;simp only[rF,ha,hb,hc,oS1,Dn f,k.keyT e];rw[oP1,d.lk k hk];rfl
abbrev oQ(w:ew)(ws:List Wk)(cs:List Nat)(e:E4)(L:List Rw)(S:Sto)(i:Nat):Sto:=S++[.lst (ws.map (ddW w ws cs e L)),.lst (eH ((ws.take i).map λu=>eW w u (ddW w ws cs e L u)))]
abbrev mL(w:ew)(e:E4)(n:Nat)(ws:List Wk)(cs:List Nat)(S:Sto)(r:Ev):Ev:=Z (webD w)::Z (oO e)::Z (.ref n)::Z (d4 ws cs)::Z (.ref S.length)::Z (.ref (S.length+1))::r
theorem CU{m:Nat}{w:ew}{ws:List Wk}{cs:List Nat}{e:E4}{F:List (TK×D)}{L:List Rw}{n:Nat}{S:Sto}{Q:D×Sto->Prop}(h:hU m w ws cs)(rl:RL e F L)(hS:S[n]? = some (dO F))(I:S.all (Ob.und S.length)=true)(q:Q (oD m w ws cs e L,S)):
  W (dZ 4 gA [webD w,oO e,.ref n,d4 ws cs] S) Q:=by
 refine lr O (by simp[D.unds,D.und]) ?_;unfold gA
 refine lW ?_;unfold mJ
 have hn:=(gE1.mp hS).1;have hf:=h.few;have aq:∀u∈ws,gk (ddW w ws cs e L u):=λu A=>vy rl.ok (h.ky u A);have ao:∀a b:Ob,(S++[a,b])[S.length]?=Z a:=λa b=>by rw[et];rfl
 have H:∀a b:Ob,(S++[a,b])[S.length+1]?=Z b:=λa b=>by rw[im];rfl
 have st:∀a b c:Ob,(S++[a,b]).set S.length c=S++[c,b]:=λa b c=>by rw[c4 _ _ (nR1 _),cP];rfl
 have st1:∀a b c:Ob,(S++[a,b]).set (S.length+1) c=S++[a,c]:=λa b c=>by rw[c4 _ _ (by lia),show S.length+1-S.length=1 by lia];rfl
 have T:∀a b:Ob,(S++[a,b])[n]?=Z (dO F):=λa b=>by rw[gL1 hn];exact hS
 refine eF (λr V=>V=S++[.lst [],.lst []]/\r=(mL w e n ws cs S [Y,Y,Y,Y,Y,Y,Y])) ?_ ?_
 ·walk_at"w"
 rintro r V ⟨rfl,rfl⟩;refine eF (λr V=>∃j y,V=S++[.lst (ws.map (ddW w ws cs e L)),.lst []]/\r=(mL w e n ws cs S [j,y,Y,Y,Y,Y,Y])) ?_ ?_
 ·((try walk_at"w");repeat(simp only[qw,gP,jJ];try walk_at"w"))
  rw[j6,Int.toNat_natCast];refine⟨fQ (by lia),?_⟩;refine gi (λi r V=>∃j y,i<=ws.length/\V=S++[.lst ((ws.take i).map (ddW w ws cs e L)),.lst []]/\r=(mL w e n ws cs S [j,y,Y,Y,Y,Y,Y])) _ 0 _ _ ⟨_,_,by lia,O,O⟩ (λ_ _ _ _=>rfl) ?_ ?_
  ·rintro i d x r P ⟨j,y,hi,rfl,rfl⟩;have z:=(gE1.mp x).1;rw[lM1,dA]at z;rw[bN]at *
   have wq:d = .int (i:Nat):=by
    rw[gP1,cK z]at x;exact(Option.some.inj x).symm
   subst wq;walk_at"w";unfold jZ;obtain⟨u,A⟩:∃u,ws[i]?=some u:=⟨_,gG1 z⟩;have B:=gM1 A;obtain⟨g,N,_⟩:=h.wk u B;have R:∀f,dX (.tup (eH ws)) (.int (i:Nat)) f=Z (eZ u,f):=λf=>by
    obtain⟨p,e,h⟩:W (dX (.tup (eH ws)) (.int (i:Nat)) f) λp=>p=(eZ u,f):=gC (by rw[eH,gP1,A];rfl) O;rw[e,h]
   refine eF (λr V=>V=S++[.lst ((ws.take i).map (ddW w ws cs e L)),.lst []]/\r=(mL w e n ws cs S [Z (.int (i:Nat)),Z (.int u.2.2),Y,Y,Y,Y,Y])) ?_ ?_
   ·((try walk_at"w");repeat(simp only[qw,R,rK];try walk_at"w"))
   rintro r P ⟨rfl,rfl⟩;unfold fM;rw[d2];refine i8 ?_;walk_at"w";refine⟨S.length,_,O,ao _ _,?_⟩;have es:W (eD (dU (mV 7) (dU (mN (dZ 4 fg) (dU (mV 0) (dU (mV 1) (dU (mV 3) (dU (mV 6) dV))))) dV)) (mL w e n ws cs S [Z (.int (i:Nat)),Z (.int u.2.2),Y,Y,Y,Y,Y]) (S++[.lst ((ws.take i).map (ddW w ws cs e L)),.lst []])) λp=>p=((ky w ws cs u).d e,S++[.lst ((ws.take i).map (ddW w ws cs e L)),.lst []]):=by
    walk_at"w";refine tO A N (by lia) ?_;walk_at"w";rw[q0 N];rfl
   obtain⟨p,es,rfl⟩:=es;refine H7 (n:=n) (F:=F) (L:=L) (e:=e) (k:=ky w ws cs u) rl (h.ky u B) O (T _ _) es O ?_;walk_at"w";refine(oM (ao _ _)).mpr ⟨ee (by rw[lM1,aQ];lia),?_⟩;refine⟨_,_,by lia,?_,O⟩;rw[st,cF,A,cE];rfl
  ·rintro r P ⟨j,y,hi,rfl,rfl⟩;rw[lM1,dA,bN,bY];exact⟨O,_,_,O,O⟩
 rintro r V ⟨j,y,rfl,rfl⟩;refine eF (λr V=>∃j y C E s l v,V=S++[.lst (ws.map (ddW w ws cs e L)),.lst (eH (ws.map λu=>eW w u (ddW w ws cs e L u)))]/\r=(mL w e n ws cs S [j,y,C,E,s,l,v])) ?_ ?_
 ·unfold hH;rw[d2];refine sv (xs:=eH ws) (ys:=ws.map (ddW w ws cs e L)) (n:=S.length) O (ao _ _) ?_;dsimp only;have ezz:uM (eH ws) (ws.map (ddW w ws cs e L))=ws.map λu=>D.tup [eZ u,ddW w ws cs e L u]:=nl ws;rw[ezz];refine gi (λi r V=>∃j y C E s l v,i<=ws.length/\V=(oQ w ws cs e L S i)/\r=(mL w e n ws cs S [j,y,C,E,s,l,v])) _ 0 _ _ ⟨_,_,_,_,_,_,_,by lia,O,O⟩ (λ_ _ V ⟨_,_,_,_,_,_,_,_,hv,_⟩=>by rw[hv];exact il (ao _ _)) ?_ ?_
  ·rintro i d x r P ⟨j,y,C,E,s,l,v,hi,rfl,rfl⟩;have z:=(gE1.mp x).1;rw[lM1]at z;rw[bN]at *
   obtain ⟨u,A⟩:∃ u,ws[i]? = some u:=⟨_,gG1 z⟩;have B:=gM1 A;obtain ⟨g,N,_⟩:=h.wk u B;rw [gP1,A] at x;obtain rfl:d=D.tup [eZ u,ddW w ws cs e L u]:=(Option.some.inj x).symm;have hx:=aq u B;have G:eW w u (ddW w ws cs e L u)=match dt (ddW w ws cs e L u) with
     |some t=>match g[t]? with
      |some p=>(p.1,p.2+1,dm (ddW w ws cs e L u))
      |none=>(u.1,u.2.1,dm (ddW w ws cs e L u))
     |none=>(u.1,u.2.1,dm (ddW w ws cs e L u)):=by
    unfold eW;rw[N];rfl
   have eT:(ws.take (i+1)).map (λu=>eW w u (ddW w ws cs e L u))=(ws.take i).map (λu=>eW w u (ddW w ws cs e L u))++[eW w u (ddW w ws cs e L u)]:=by
    rw[cF,A,cE];rfl
   have ex:=hx.eta.1;generalize hX:ddW w ws cs e L u=X at *
   generalize hm:dm X=dmx at *
   generalize hh:dh X=dhx at *
   generalize ht:dt X=dtx at *
   have R:eZ u = .tup [.int u.1,.int u.2.1,.int u.2.2]:=rfl;rw[R,ex];walk_at"w";unfold jY;have am:∀f,dX (webD w) (.int (u.1:Nat)) f=Z (.tup (g.map pD),f):=λf=>by
    obtain⟨p,e,h⟩:W (dX (webD w) (.int (u.1:Nat)) f) λp=>p=(.tup (g.map pD),f):=xr N O;rw[e,h]
   have lw:((ws.take i).map λu=>eW w u (ddW w ws cs e L u)).length<=8:=by rw[lM1,aQ];lia
   have K:∀(a b:Nat) (j:Option D),eW w u X=(a,b,dmx)->W (fM (pP (b2 kl) (mV 5) (dU (eD (dU (mV 8) (dU (mV 9) (dU (mV 10) dV)))) dV)) (mL w e n ws cs S [j,Z (.int u.2.2),Z (.int (a:Nat)),Z (.int (b:Nat)),Z (.int (dmx:Nat)),Z (.str dhx),Z (tD dtx)]) (oQ w ws cs e L S i)) λq=>q.1 = .nx /\ ∃j y C E s l v,i+1<=ws.length/\q.2.2=(oQ w ws cs e L S (i+1))/\q.2.1=(mL w e n ws cs S [j,y,C,E,s,l,v]):=by
    intro a b j U;unfold fM;rw[d2];refine i8 ?_;walk_at"w";refine⟨S.length+1,_,O,H _ _,?_⟩;refine(oM (H _ _)).mpr ⟨ee (by rw[jJ];lia),?_⟩;refine⟨_,_,_,_,_,_,_,by lia,?_,O⟩;unfold oQ;rw[st1,eT,U];simp[eH,eZ]
   cases dtx with
   |none=>
    dsimp only at G;refine eF (λr V=>V=(oQ w ws cs e L S i)/\r=(mL w e n ws cs S [j,Z (.int u.2.2),Z (.int u.1),Z (.int u.2.1),Z (.int (dmx:Nat)),Z (.str dhx),Z (tD Y)])) ?_ ?_
    ·have au:fz (tD Y) .non (oQ w ws cs e L S i)=Z (.bl J,(oQ w ws cs e L S i)):=rfl
     ((try walk_at"w");repeat(simp only[au];try walk_at"w"))
    rintro r V ⟨rfl,rfl⟩;exact K u.1 u.2.1 j G
   |some t=>
    dsimp only at G;have au:∀f,fz (tD (Z t)) .non f=Z (.bl M,f):=λf=>rfl;have el:∀f,yT (tD (Z t)) (.int (g.length:Nat)) f=Z (.bl (decide ((t:Int)<(g.length:Int))),f):=λf=>rfl;by_cases hl:t<g.length
    ·have eg:=gG1 hl;rw [eg] at G;have e2:∀ f,dX (.tup (g.map pD)) (tD (some t)) f=some (pD g[t],f):=fun f=>by
      obtain⟨p,e,h⟩:W (dX (.tup (g.map pD)) (.int (t:Nat)) f) λp=>p=(pD g[t],f):=gC (by rw[gP1,eg];rfl) O;show dX (.tup (g.map pD)) (.int (t:Nat)) f=_;rw[e,h]
     generalize g[t]=p at *
     refine eF (λr V=>V=(oQ w ws cs e L S i)/\r=(mL w e n ws cs S [j,Z (.int u.2.2),Z (.int p.1),Z (.int ((p.2+1:Nat):Int)),Z (.int (dmx:Nat)),Z (.str dhx),Z (tD (Z t))])) ?_ ?_
     ·have p0:∀f,dX (pD p) (.int 0) f=Z (.int p.1,f):=λf=>rfl;have p1:∀f,dX (pD p) (.int 1) f=Z (.int p.2,f):=λf=>rfl
      ((try walk_at"w");repeat(simp only[au,am,gP,lM1,el];try walk_at"w"))
      rw[ak (by rw[al];lia)]
      ((try walk_at"w");repeat(simp only[am,e2,p0,p1];try walk_at"w"))
      rw[show(1:Int)+(p.2:Int)=((p.2+1:Nat):Int) by lia]
     rintro r V ⟨rfl,rfl⟩;exact K p.1 (p.2+1) j G
    ·rw[b4 (by lia)]at G;refine eF (λr V=>V=(oQ w ws cs e L S i)/\r=(mL w e n ws cs S [j,Z (.int u.2.2),Z (.int u.1),Z (.int u.2.1),Z (.int (dmx:Nat)),Z (.str dhx),Z (tD (Z t))])) ?_ ?_
     ·((try walk_at"w");repeat(simp only[au,am,gP,lM1,el];try walk_at"w"))
      rw[aj (by rw[al];lia)];trivial
     rintro r V ⟨rfl,rfl⟩;exact K u.1 u.2.1 j G
  ·rintro r P ⟨j,y,C,E,s,l,v,hi,rfl,rfl⟩;unfold oQ;rw[lM1,bN,bY];exact⟨O,_,_,_,_,_,_,_,O,O⟩
 rintro r V ⟨j,y,C,E,s,l,v,rfl,rfl⟩;walk_at"w";refine eK (H _ _) ?_;refine yC (dd:=ddW w ws cs e L) h.web.len h.m8 aq h.few (ao _ _) ?_ ?_
 ·rw[dy,bA1,lA1];rw[bB]at I;refine⟨bB.mpr λo ho=>kX (bq _ _) (I o ho),?_⟩;rw[bP,bP,Ob.und,Ob.und,iC (kB _),Mi.fb λu A=>fU (aq u A).und];rfl
 walk_at"w";have e2:D.tup [.tup (eH (ws.map λu=>eW w u (ddW w ws cs e L u))),.tup (eN (eA m ws (ddW w ws cs e L) cs))]=oD m w ws cs e L:=rfl;rw[e2,rR (d:=oD m w ws cs e L) fZ I (bu _ _)];exact q
noncomputable def qz:List D:=[.non,.int 0,.int 1,.int 2,.int 3,.int 0,.int 1]
noncomputable def n9:List D:=[.str "leave",.str "leave",.str "mark",.str "wipe"]
theorem xH:∀x∈qz,x∈i4:=by
 intro x a;simp only[qz,aF,bL,or_false]at a;rcases a with e|e|e|e|e|e|e<;>subst e<;>simp[i4]
theorem yh:∀x∈n9,x∈mD:=by
 intro x a;simp only[n9,aF,bL,or_false]at a;rcases a with e|e|e|e<;>subst e<;>simp[mD]
theorem Go{o:Ob}{n:Nat}{T:Sto}{Q:D×Sto->Prop}(ho:gD o n)(hn:n<=2^45)(g:T.all (Ob.und (T.length+1))=M)(q:∀x o',gk x->gD o' (n+5)->Q (x,o'::T)):W (dZ 1 gz [.ref 0] (o::T)) Q:=by
 refine xh O O g ?_;unfold gz;refine lW ?_;unfold mI;refine eF (λr S=>∃(t:D) (c:Ob),t∈i4/\gD c (n+1)/\S=c::T/\r=[Z (.ref 0),Z t]) ?_ ?_
 ·walk_at"w";refine eV ho (by lia) (by lia) (by lia) λy b a k=>?_;refine gC (i:=y) (xs:=qz) (x:=qz[y]'(by show y<7;lia)) (gG1 _) ?_;exact⟨_,b,xH _ (bS _),a,O,O⟩
 rintro r S ⟨t,c,h,e,rfl,rfl⟩;walk_at"w";refine eV e (by lia) (by lia) (by lia) λm p d l=>?_;walk_at"w";refine eV d (by lia) (by lia) (by lia) λx b a j=>?_;refine gC (i:=x) (xs:=n9) (x:=n9[x]'(by show x<4;lia)) (gG1 _) ?_;walk_at"w";have f:gk (.tup [.int (m:Nat),n9[x]'(by show x<4;lia),t]):=⟨m,_,_,O,by lia,yh _ (bS _),h⟩;exact⟨_,b,[],by rw[aM],f.und,a.und,q _ b f (a.more (by lia))⟩
structure RN (e:E4)(F:List (TK×D)):Prop where
 row:∀p∈F,∃k:Ky,k.Ok/\p.1=k.tk e/\(gk p.2\/p.2 = .non)
 nd:(F.map (·.1)).Nodup
theorem RN.nil{e:E4}:RN e []:=⟨λp a=>(by cases a),bn⟩
theorem RN.vu{e:E4}{F:List (TK×D)}(h:RN e F){p:TK×D}(hp:p∈F)(n:Nat):p.2.und n=M:=by
 obtain⟨_,_,_,a⟩:=h.row p hp;rcases a with a|a
 ·exact fU a.und
 ·rw[a];rfl
theorem RN.und{e:E4}{F:List (TK×D)}(h:RN e F)(n:Nat):(dO F).und n=M:=by
 have:D.unds n (F.map (·.2))=M:=Mi.fb λp a=>h.vu a n;cases F with
 |nil=>rfl
 |cons _ _=>exact this
theorem RN.put{e:E4}{F:List (TK×D)}{k:Ky}{x:D}(h:RN e F)(hk:k.Ok)(hx:gk x\/x = .non):RN e (e6 F (k.tk e) x):=by
 unfold e6;split
 ·refine⟨λp c=>?_,?_⟩
  ·obtain⟨g,d,rfl⟩:=cf.mp c;obtain⟨l,h1,h2,m⟩:=h.row g d;by_cases z:g.1=k.tk e
   ·rw[ak z];exact⟨l,h1,h2,hx⟩
   ·rw[aj z];exact⟨l,h1,h2,m⟩
  ·rw [bt];have:(F.map ((fun p:TK×D=>p.1)∘fun p=>if p.1=k.tk e then (p.1,x) else p))=F.map (·.1):=by
    apply db;intro p _;simp only[Function.comp];split<;>rfl
   rw[this];exact h.nd
 ·rename_i i;refine⟨λp c=>?_,?_⟩
  ·rcases aG.mp c with z|z
   ·exact h.row p z
   ·simp at z;subst z;exact⟨k,hk,O,hx⟩
  ·rw[cE,bw];refine⟨h.nd,by simp,λa j b f z=>?_⟩;simp at f;subst f;subst z;obtain⟨p,c,n⟩:=cf.mp j;exact i (bR.mpr ⟨p,c,ah n⟩)
theorem Fm{S:Sto}{n:Nat}{F:List (TK×D)}{d:D}{k:TK}(h:S[n]?=Z (dO F))(hk:keyT d=Z k):jR d (.ref n) S=Z (.bl (!(d3 F k).isSome),S):=by
 cases F with
 |nil=>
  have h':S[n]?=Z (.dct []):=h;simp only[jR,h',hk];rfl
 |cons p F=>
  have h':S[n]?=Z (.dcT (p::F)):=h;simp only[jR,fP,h',hk,oP1]
theorem gc_same{n:Nat}{p:D×Sto}(h:p.2.length=n):gc n p=p:=by
 unfold gc;rw[<- h,bY];split<;>rfl
def Sub(F F':List (TK×D)):Prop:=∀k d,d3 F k=Z d->d3 F' k=Z d
theorem Sub.refl(F:List (TK×D)):Sub F F:=λ_ _ h=>h
theorem Sub.trans{F G am:List (TK×D)}(a:Sub F G)(b:Sub G am):Sub F am:=λk d h=>b k d (a k d h)
theorem Sub.put{F a:List (TK×D)}{k:TK}{v:D}(s:Sub F a)(h:(d3 F k).isSome=J):Sub F (e6 a k v):=λb d e=>by
 rw[tR];split
 ·rename_i z;subst z;rw[e]at h;cases h
 ·exact s b d e
theorem B8{F:List (TK×D)}{k:TK}{a b:D}:e6 (e6 F k a) k b=e6 F k b:=by
 by_cases h:(F.any λp=>decide (p.1=k))=M
 ·have h2:((F.map fun p=>if p.1=k then (p.1,a) else p).any fun p=>decide (p.1=k))=true:=by
   obtain⟨p,c,e⟩:=bR.mp h;have e:=of_decide_eq_true e;exact bR.mpr ⟨(p.1,a),cf.mpr ⟨p,c,by rw[ak e]⟩,ah e⟩
  unfold e6;rw[ak h,ak h2,ak h,bt];apply db;intro p _;simp only[Function.comp];by_cases z:p.1=k
  ·rw[ak z,ak z,ak z]
  ·rw[aj z,aj z]
 ·have h2:((F++[(k,a)]).any fun p=>decide (p.1=k))=true:=bR.mpr ⟨(k,a),mA1 _ (cM.mpr rfl),decide_eq_true rfl⟩;unfold e6;rw [if_neg h,if_neg h,if_pos h2,cE];have e:F.map (fun p=>if p.1=k then (p.1,b) else p)=F:=by
   conv=>rhs;rw[<- List.map_id F]
   apply db;intro p c;rw[aj λz=>h (bR.mpr ⟨p,c,ah z⟩)];rfl
  rw[e];simp
theorem Da{m:Nat}{w:ew}{ws:List Wk}{cs:List Nat}{e:E4}{F:List (TK×D)}{o:Ob}{n:Nat}{T:Sto}{Q:D×Sto->Prop}(h:hU m w ws cs)(X:RN e F)(hT:T.all (Ob.und 0)=true)(ho:gD o n)(hn:n<=2^40)(hl:F.length<=10000)(q:∀g o',RN e g->g.length<=F.length+ws.length->gD o' (n+100)->Sub F g->(∀u∈ws,(d3 g ((ky w ws cs u).tk e)).isSome=true)->Q (.non,o'::dO g::T)):
  W (dZ 5 gh [.ref 0,webD w,oO e,.ref 1,d4 ws cs] (o::dO F::T)) Q:=by
 refine lr O O ?_;unfold gh;refine lW ?_;unfold lB;have hf:=h.few;have wq:∀F,RN e F->(dO F::T).all (Ob.und ((dO F::T).length+1))=M:=λF X=>by
  rw[bP,X.und,Bool.true_and,bB];exact λx R=>kX (bh _) (bB.mp hT x R)
 ((try walk_at"w");repeat(simp only[qw,gP,jJ];try walk_at"w"))
 rw[j6,Int.toNat_natCast];refine⟨fQ (by lia),?_⟩;refine gi (λi r S=>∃g o' P aq,i<=ws.length/\RN e g/\g.length<=F.length+i/\gD o' (n+10*i)/\Sub F g/\(∀j u,j<i->ws[j]?=Z u->(d3 g ((ky w ws cs u).tk e)).isSome=M)/\S=o'::dO g::T/\r=[Z (.ref 0),Z (webD w),Z (oO e),Z (.ref 1),Z (d4 ws cs),P,aq]) _ 0 _ _ ⟨F,o,_,_,by lia,X,by lia,ho,Sub.refl F,λj u ao _=>by lia,O,O⟩ (λ_ _ _ _=>rfl) ?_ ?_
 ·rintro i d C r S ⟨a,A,P,aq,hi,l,am,y,b,s,rfl,rfl⟩;have E:=(gE1.mp C).1;rw[lM1,dA]at E;rw[bN]at *
  have V:d = .int (i:Nat):=by
   rw[gP1,cK E]at C;exact(Option.some.inj C).symm
  subst V;walk_at"w";unfold jm;obtain⟨u,G⟩:∃u,ws[i]?=some u:=⟨_,gG1 E⟩;have L:=gM1 G;obtain⟨row,er,_,hmd⟩:=h.wk u L;have hk:=h.ky u L;have eu:∀H,dX (.tup (eH ws)) (.int (i:Nat)) H=Z (eZ u,H):=λH=>by
   obtain⟨p,e,h⟩:W (dX (.tup (eH ws)) (.int (i:Nat)) H) λp=>p=(eZ u,H):=gC (by rw[eH,gP1,G];rfl) O;rw[e,h]
  refine eF (λr S=>S=A::dO a::T/\r=[Z (.ref 0),Z (webD w),Z (oO e),Z (.ref 1),Z (d4 ws cs),Z (.int (i:Nat)),Z ((ky w ws cs u).d e)]) ?_ ?_
  ·((try walk_at"w");repeat(simp only[qw,eu,rK];try walk_at"w"))
   refine tO G er (by lia) ?_;rw[q0 er];walk_at"w";rfl
  rintro r S ⟨rfl,rfl⟩;have au:∀(N:List (TK×D)),(∀k d,d3 a k=Z d->d3 N k=Z d)->(d3 N ((ky w ws cs u).tk e)).isSome=M -> ∀j v,j<i+1->ws[j]?=Z v->(d3 N ((ky w ws cs v).tk e)).isSome=M:=λN h1 h2 j v ao hv=>by
   by_cases z:j=i
   ·subst z;rw[G]at hv;cases hv;exact h2
   ·obtain⟨d,hd⟩:=aP.mp (s j v (by lia) hv);rw[h1 _ _ hd];rfl
  have B:=Fm (S:=A::dO a::T) (n:=1) (F:=a) O ((ky w ws cs u).keyT e);cases hin:(d3 a ((ky w ws cs u).tk e)).isSome with
  |true=>
   rw[hin]at B
   ((try walk_at"w");repeat(simp only[B];try walk_at"w"))
   exact⟨a,A,_,_,by lia,l,by lia,y.more (by lia),b,au a (λ_ _ h=>h) hin,O,O⟩
  |false=>
   rw[hin]at B;have s1:=Hd (e:=e) (F:=a) (k:=ky w ws cs u) (x:=.non) (n:=1) (S:=A::dO a::T) O (by lia);have K:=l.put hk (x:=.non) (.inr O);have l2:(e6 a ((ky w ws cs u).tk e) D.non).length<=a.length+1:=wf;have f:∀x,(d3 (e6 a ((ky w ws cs u).tk e) x) ((ky w ws cs u).tk e)).isSome=M:=λx=>by rw[tR,ak O];rfl
   have c:∀x,Sub a (e6 a ((ky w ws cs u).tk e) x):=λx=>(Sub.refl a).put hin
   ((try walk_at"w");repeat(simp only[B,s1];try walk_at"w"))
   refine eV y (by lia) (by lia) (by lia) λt o2 I ht=>?_;walk_at"w";split
   ·refine Go I (by lia) (wq _ K) λx o3 R U=>?_;have s2:=Hd (e:=e) (F:=e6 a ((ky w ws cs u).tk e) .non) (k:=ky w ws cs u) (x:=x) (n:=1) (S:=o3::dO (e6 a ((ky w ws cs u).tk e) .non)::T) O (by lia)
    ((try walk_at"w");repeat(simp only[s2];try walk_at"w"))
    have e2:e6 (e6 a ((ky w ws cs u).tk e) .non) ((ky w ws cs u).tk e) x=e6 a ((ky w ws cs u).tk e) x:=B8;rw[e2];have l3:(e6 a ((ky w ws cs u).tk e) x).length<=a.length+1:=wf;exact⟨_,o3,_,_,by lia,l.put hk (.inl R),by lia,U.more (by lia),b.trans (c x),au _ (c x) (f x),O,O⟩
   ·exact⟨_,o2,_,_,by lia,K,by lia,I.more (by lia),b.trans (c .non),au _ (c .non) (f .non),O,O⟩
 ·rintro r S ⟨a,A,P,aq,hi,l,am,y,b,s,rfl,rfl⟩;rw[lM1,dA,bN]at *
  have e1:gc (T.length+2) (D.non,A::dO a::T)=(D.non,A::dO a::T):=gc_same O;show Q (gc (T.length+2) (D.non,A::dO a::T));rw[e1];exact q a A l am (y.more (by lia)) b λu G=>by
   obtain⟨j,ao⟩:=bo G;exact s j u (gE1.mp ao).1 ao
noncomputable def isT:D->Bool
 | .tup _=>M
 |_=>J
def dv(d:D):Option D:=if isT d=M then Z d else Y
def gO(F:List (TK×D)):List (TK×D):=F.filter λp=>isT p.2
def wg(p:TK×D):D:=.tup [Mi.tkD p.1,p.2]
theorem gk.isT{x:D}(h:gk x):isT x=M:=by
 obtain⟨_,_,_,rfl,_⟩:=h.is;rfl
theorem k7{e:E4}{F:List (TK×D)}(h:RN e F):RW e (gO F):=by
 refine⟨λp d=>?_,List.Sublist.nodup (List.Sublist.map _ List.filter_sublist) h.nd⟩;obtain⟨h1,h2⟩:=aA.mp d;obtain⟨k,c,b,a⟩:=h.row p h1;rcases a with a|a
 ·exact⟨k,c,b,a⟩
 ·rw[a]at h2;cases h2
theorem live_len(F:List (TK×D)):(gO F).length<=F.length:=dj _ _
theorem pR:∀{F:List (TK×D)} (k:TK),(F.map (·.1)).Nodup->d3 (gO F) k=(d3 F k).bind dv
 |[],_,_=>rfl
 |(a,d)::F,k,nd=>by
  rw[mP1,aN]at nd;have ih:=pR (F:=F) k nd.2;unfold gO at ih ⊢;rw[de,e9];by_cases z:a=k
  ·have b:d3 F k=none:=lR (by
    rw[Bool.eq_false_iff];intro y;obtain⟨p,c,e⟩:=bR.mp y;exact nd.1 (cf.mpr ⟨p,c,(of_decide_eq_true e).trans z.symm⟩))
   rw[b]at ih;rw[ak z];cases hd:isT d with
   |true=>rw[ak O,e9,ak z];simp[dv,hd]
   |false=>rw[aj (by simp),ih];simp[dv,hd]
  ·rw[aj z];cases hd:isT d with
   |true=>rw[ak O,e9,aj z,ih]
   |false=>rw[aj (by simp),ih]
theorem wW:∀(ps acc:List (TK×D)),((acc++ps).map (·.1)).Nodup->ps.foldl (λF p=>e6 F p.1 p.2) acc=acc++ps
 |[],acc,_=>by simp
 |p::ps,acc,nd=>by
  have e:e6 acc p.1 p.2=acc++[p]:=by
   unfold e6;rw[aj];intro y;obtain⟨q,a,e⟩:=bR.mp y;rw[cE,bw]at nd;exact nd.2.2 _ (cf.mpr ⟨q,a,O⟩) _ (cf.mpr ⟨p,mS1,O⟩) (of_decide_eq_true e)
  rw[b9,e,wW ps (acc++[p]) (by rw[bG];exact nd),bG];rfl
theorem pJ:∀{F:List (TK×D)},(∀p∈F,Mi.keyT (Mi.tkD p.1)=Z p.1)->jl (F.map wg)=Z F
 |[],_=>rfl
 |p::F,h=>by
  rw[mP1,jl,pJ λq a=>h q (mC1 _ a)];have:=h p mS1;simp only[wg,wu,this,oP1,oS1]
theorem RN.key{e:E4}{F:List (TK×D)}(h:RN e F){p:TK×D}(hp:p∈F):Mi.keyT (Mi.tkD p.1)=Z p.1:=by
 obtain⟨k,_,h2,_⟩:=h.row p hp;rw[h2,k.tkD,k.keyT e]
theorem Gq(F:List (TK×D)):Kx F=dO F:=by cases F<;>rfl
theorem Ce{e:E4}{F:List (TK×D)}(h:RN e F)(n:Nat):D.unds n ((gO F).map wg)=M:=Mi.fb λp a=>by
 have a:=(aA.mp a).1;unfold wg;simp only[D.und,D.unds,h.vu a,uT,Bool.and_self]
theorem wF:∀{F:List (TK×D)},(F.map (·.1)).Nodup -> ∀{p:TK×D},p∈F->d3 F p.1=Z p.2
|[],_,_,hp=>by cases hp
|y::F,nd,p,hp=>by
 rw[mP1,aN]at nd;obtain⟨a,b⟩:=y;rw[e9];rcases aF.mp hp with z|z
 ·subst z;rw[ak rfl]
 ·rw[aj (λw=>nd.1 (cf.mpr ⟨p,z,w.symm⟩))];exact wF nd.2 z
theorem wt{e:E4}{F:List (TK×D)}{n:Nat}{r:Ev}{S:Sto}{Q:D×Sto->Prop}(g:RN e F)(t:F.length<=10000)(b:S[n]? = Z (dO F))(hr:r[5]? = Z (Z (.ref n)))(q:Q (.ref S.length,S++[.lst ((gO F).map wg)])):W (lX 1 [5] (mV 5) (gN 0) (mB (m2 (b2 fz) (m2 (b2 dX) (mV 1) (mV 0)) (mC D.non))) (eJ (eD (dU (mV 0) (dU (m2 (b2 dX) (mV 1) (mV 0)) dV)))) r S) Q:=by
 have m:=(gE1.mp b).1;have v:mV 5 r S=Z (.ref n,S):=by simp[mV,hr]
 have j:oZ 1 [5] r=[Y,Z (.ref n)]:=by simp[oZ,hr]
 have l:(S.set n (.dcF F))[n]?=Z (.dcF F):=by rw[aI m]
 unfold lX;rw[v,oS1];dsimp only;have s:AI (dO F)=Z F:=by cases F<;>rfl
 rw[b,oS1,s,oS1,d2,j];refine io (f:=λq:TK×D=>Mi.tkD q.1) (λp:TK×D=>isT p.2) wg (λr=>∃z,r=[z,Z (.ref n)]) O F _ ⟨_,O⟩ ?_ λw _=>?_
 ·rintro p d r ⟨z,rfl⟩;have u:dX (.ref n) (Mi.tkD p.1) (S.set n (.dcF F))=some (p.2,S.set n (.dcF F)):=by
   simp only[dX,l];rw[g.key d,oS1,wF g.nd d];rfl
  have o:fz p.2 .non (S.set n (.dcF F))=Z (.bl (isT p.2),S.set n (.dcF F)):=by
   obtain⟨k,_,_,a⟩:=g.row p d;rcases a with a|a
   ·obtain⟨_,_,_,z,_⟩:=a.is;rw[z];rfl
   ·rw[a];rfl
  ((try walk_at"w");repeat(simp only[u,o];try walk_at"w"))
  exact⟨⟨_,O⟩,λ_=>⟨O,trivial⟩⟩
 ·dsimp only;have c:=live_len F;rw [if_pos (by rw [lM1];exact aC (aC c t) (by decide)),eG,aV,List.set_set];have:S.set n (dO F)=S:=by
   apply bZ;intro i;by_cases h:n=i
   ·subst h;rw[aI m,b]
   ·rw[gS1 h]
  rw[this];exact q
theorem Gj{e:E4}{F:List (TK×D)}{n:Nat}{S:Sto}{Q:D×Sto->Prop}(a:RN e F)(d:F.length<=10000)(b:S[n]?=Z (.lst ((gO F).map wg)))(q:Q (.ref S.length,S++[dO (gO F)])):W (om (.ref n) S) Q:=by
 refine W.of ?_ q;unfold om;rw[gL b];dsimp only;rw[pJ (F:=gO F) λp c=>a.key (aA.mp c).1,oS1,lM1,ak (aC (live_len F) (by lia))];have:mF (gO F)=gO F:=by
  unfold mF;rw[wW _ _ (by rw[cY];exact(k7 a).nd),cY]
 rw[this,Gq]
theorem wP{α:Type}{f:α->D}{c:α->Nat}{a:α}:∀ {zs:List α},(∀ b∈zs,ku [] 51 (f a) (f b)=some (decide (c a<c b)))->(∀ b∈zs,c b≠c a)->zs.Pairwise (fun x y=>c x<c y) ->
  ∃ys:List α,ye (f a) (zs.map f)=ys.map f/\ys.Perm (a::zs)/\ys.Pairwise (λx y=>c x<c y)
 |[],_,_,_=>⟨[a],O,.refl _,by simp⟩
 |b::zs,h,hn,hp=>by
  rw[cb]at hp;rw[mP1,ye];have k:=h b mS1;unfold JO;rw[k];by_cases z:c a<c b
  ·rw[ah z,ak (show(Z M == Z M)=M from rfl)];refine⟨a::b::zs,O,.refl _,cb.mpr ⟨λy d=>?_,cb.mpr hp⟩⟩;rcases aF.mp d with rfl|d
   ·exact z
   ·exact bg z (hp.1 y d)
  ·rw[ai z,aj (by decide)];obtain⟨ys,e,i,j⟩:=wP (λx g=>h x (mC1 _ g)) (λx g=>hn x (mC1 _ g)) hp.2;refine⟨b::ys,by rw[e];rfl,(i.cons b).trans (.swap _ _ _),cb.mpr ⟨λy d=>?_,j⟩⟩;rcases aF.mp (i.mem_iff.mp d)with rfl|d
   ·have:=hn b mS1;lia
   ·exact hp.1 y d
theorem sQ{α:Type}{f:α->D}{c:α->Nat}:∀ {ks:List α},(∀ a∈ks,∀ b∈ks,ku [] 51 (f a) (f b)=some (decide (c a<c b)))->(ks.map c).Nodup ->
  ∃zs:List α,kF (ks.map f)=zs.map f/\zs.Perm ks/\zs.Pairwise (λx y=>c x<c y)/\mi (zs.map f)=M
 |[],_,_=>⟨[],O,.refl _,.nil,O⟩
 |a::ks,h,hn=>by
  rw[mP1,aN]at hn;obtain⟨zs,e,o,q,_⟩:=sQ (ks:=ks) (λx g y k=>h x (mC1 _ g) y (mC1 _ k)) hn.2;obtain⟨ys,p,l,j⟩:=wP (a:=a) (zs:=zs) (λb m=>h a mS1 b (mC1 _ (o.mem_iff.mp m))) (λb m z=>hn.1 (cf.mpr ⟨b,o.mem_iff.mp m,z⟩)) q;have i:ys.Perm (a::ks):=l.trans (o.cons a);refine⟨ys,by rw[mP1,kF,e,p],i,j,?_⟩;have k:∀x∈ys,∀y∈ys,ku [] 51 (f x) (f y)=Z (decide (c x<c y)):=λx g y k=>h x (i.mem_iff.mp g) y (i.mem_iff.mp k);clear p l i
  induction ys with
  |nil=>rfl
  |cons y ys ih=>
   rw[cb]at j;rw[mP1,mi,ih j.2 λx g z s=>k x (mC1 _ g) z (mC1 _ s),bM,bB];intro d r;obtain⟨x,g,rfl⟩:=cf.mp r;unfold pS;have n:=j.1 x g;rw[k y mS1 x (mC1 _ g),k x (mC1 _ g) y mS1,ah n,ai (by lia)];rfl
theorem Dm{x:D}{S:Sto}{n:Nat}(h:gk x):ga S (n+3) x x=Z M:=by
 have e:=h.eta.1;generalize dm x=a at e;generalize dh x=b at e;generalize dt x=c at e;subst e;have d:∀i:Int,ga S (n+2) (.int i) (.int i)=Z M:=λi=>by show Z (i == i)=_;simp
 have g:ga S (n+2) (.str b) (.str b)=Z M:=by show Z (b == b)=_;simp
 have f:ga S (n+2) (tD c) (tD c)=Z M:=by
  cases c with
  |none=>rfl
  |some t=>exact d t
 rw[Dj,jS,d,oS1,jS,g,oS1,jS,f,oS1,jS];rfl
theorem EI{e:E4}{p q:Rw}(hp:jG p)(a:jG q)(h:p.1.code e=q.1.code e->p=q):ku [] 51 (fe e p) (fe e q)=Z (decide (p.1.code e<q.1.code e)):=by
 unfold fe;rw[JN,oY,Ky.eq (n:=47) hp.1 a.1,oS1];by_cases z:p.1.code e=q.1.code e
 ·rw[ak (ah z),oY];have:=h z;subst this;rw[Dm (n:=47) hp.2,oS1,ak O,oY];simp
 ·rw[aj (by rw[al];exact z),Ky.lt (n:=47) hp.1 a.1]
theorem pl_tk:∀k:TK,pl (Mi.tkD k)=M:=λk=>k.rec (motive_1:=λk=>pl (Mi.tkD k)=M) (motive_2:=λks=>m4 (Mi.ja ks)=M) O (λ_=>rfl) (λ_ ih=>by rw[Mi.tkD,pl];exact ih) O (λ_ _ a b=>by rw[Mi.ja,m4,a,b];rfl)
theorem Ci{x:D}(h:gk x):pl x=M:=by
 have e:=h.eta.1;generalize dm x=a at e;generalize dh x=b at e;generalize dt x=c at e;subst e;cases c<;>rfl
theorem wh{α:Type}{f:α->D}:∀{l:List α},(∀x∈l,pl (f x)=M)->m4 (l.map f)=M
 |[],_=>rfl
 |x::l,h=>by rw[mP1,m4,h x mS1,wh λy a=>h y (mC1 _ a)];rfl
theorem vp{e:E4}:∀L:List Rw,∃f,n6 (L.map (fe e))=Z f
 |[]=>⟨_,O⟩
 |p::L=>by
  refine⟨J,?_⟩;have a:∀q:Rw,ju (fe e q)=Z J:=λq=>rfl;rw[mP1,n6,a];dsimp only;rw[ak];rw[bB];intro d b;obtain⟨q,_,rfl⟩:=cf.mp b;rw[a];rfl
theorem nv{e:E4}{F:List (TK×D)}(h:RW e F)(C:F.length<=4000):
  ∃L:List Rw,RL e F L /\ ∀(n:Nat) (S:Sto),S[n]?=Z (.lst (F.map wg))->og (.ref n) S=Z (.ref S.length,S++[.lst (L.map (fe e))]):=by
 obtain⟨d,l,ok⟩:=RW.list h.row;have q:∀p∈d,p.1.Ok:=λp g=>(ok p g).1;have nd:(d.map λp=>p.1.code e).Nodup:=by
  have:=h.nd;rw[<- l,bt]at this;refine(df.mpr ((df.mp this).imp_of_mem λ{a b} j i m z=>?_));exact m ((vZ (q a j) (q b i)).mpr z)
 have inj:∀a∈d,∀b∈d,a.1.code e=b.1.code e->a=b:=λa j b i z=>by
  have w:=(hM (f:=λp:Rw=>p.1.code e) (c:=b.1.code e) (a:=a) nd).mpr ⟨j,z⟩;have s:=(hM (f:=λp:Rw=>p.1.code e) (c:=b.1.code e) (a:=b) nd).mpr ⟨i,O⟩;rw[w]at s;exact Option.some.inj s
 obtain⟨L,y,o,A,v⟩:=sQ (f:=fe e) (c:=λp:Rw=>p.1.code e) (ks:=d) (λa j b i=>EI (ok a j) (ok b i) (inj a j b i)) nd;have B:d.length=F.length:=by rw[<- l,lM1]
 have u:∀k:Ky,k.Ok->d3 F (k.tk e)=(L.find? λp=>decide (p.1.code e=k.code e)).map (·.2):=λk t=>by
  have a1:d3 F (k.tk e)=(d.find? λp=>decide (p.1.code e=k.code e)).map (·.2):=by
   rw[<- l];unfold d3;rw[List.find?_map,Option.map_map];have:(d.find? ((λp:TK×D=>decide (p.1=k.tk e))∘λp:Rw=>(p.1.tk e,p.2)))=d.find? λp=>decide (p.1.code e=k.code e):=by
    apply ou;intro p g;simp only[Function.comp];rw[bQ,al,al];exact vZ (q p g) t
   rw[this];rfl
  rw[a1,yp (f:=λp:Rw=>p.1.code e) o nd]
 refine⟨L,⟨A,λp g=>ok p (o.mem_iff.mp g),by rw[o.length_eq];lia,u⟩,λn S r=>?_⟩;have ep:F.map wg=d.map (fe e):=by
  rw[<- l,bt];apply db;intro p _;show D.tup [Mi.tkD (p.1.tk e),p.2]=_;rw[p.1.tkD];rfl
 rw[ep]at r;obtain⟨f,x⟩:=vp (e:=e) d;unfold og;rw[gL r];dsimp only;have g:m4 (d.map (fe e))=M:=wh λp g=>by
  unfold fe;rw[pl,m4,m4,m4,Ci (ok p g).2,<- p.1.tkD e,pl_tk];rfl
 rw[x,oS1,y,ak (by rw[g,v,lM1,ah (by lia)];rfl)]
def yt(e:E4)(F:List (TK×D))(k:Ky):D:=((d3 F (k.tk e)).bind dv).getD (vz k)
theorem RL.due{e:E4}{F:List (TK×D)}{L:List Rw}(a:RL e (gO F) L)(b:RN e F){k:Ky}(hk:k.Ok):jV e L k=yt e F k:=by
 unfold jV yt;rw[<- a.lk k hk,pR _ b.nd]
theorem AE{F:List (TK×D)}{k:TK}{d:D}(h:d3 F k=Z d):(k,d)∈F:=by
 unfold d3 at h;obtain⟨p,e,f⟩:=oM1.mp h;have c:=List.find?_some e;have g:=dz e;obtain⟨a,b⟩:=p;have c:=of_decide_eq_true c;dsimp only at f c;subst f;subst c;exact g
theorem Dk{e:E4}{F:List (TK×D)}(c:RN e F){k:Ky}(hk:k.Ok):gk (yt e F k):=by
 have b:gk (vz k):=⟨k.m,_,_,O,hk.m,by simp[mD],by simp[i4]⟩;unfold yt;cases h:d3 F (k.tk e)with
 |none=>exact b
 |some d=>
  obtain⟨_,_,_,a⟩:=c.row _ (AE h);rcases a with a|a
  ·rw[oS1,dv,ak a.isT];exact a
  ·dsimp only at a;rw[a];exact b
abbrev Wh:=List Wk×List Nat
def whD(a:Wh):D:=d4 a.1 a.2
def GQ(w:ew)(e:E4)(F:List (TK×D))(a:Wh)(u:Wk):D:=yt e F (ky w a.1 a.2 u)
def jX(m:Nat)(w:ew)(e:E4)(F:List (TK×D))(a:Wh):Wh:=(a.1.map λu=>eW w u (GQ w e F a u),eA m a.1 (GQ w e F a) a.2)
theorem qu{α:Type}{p q:α->Bool}:∀{l:List α},(∀x∈l,p x=q x)->l.any p=l.any q
 |[],_=>rfl
 |x::l,h=>by rw[a0,a0,h x mS1,qu λy a=>h y (mC1 _ a)]
theorem sj{m:Nat}{ws:List Wk}{f g:Wk->D}{cs:List Nat}(h:∀u∈ws,f u=g u):eA m ws f cs=eA m ws g cs:=by
 have:∀s r,gM ws f s r=gM ws g s r:=λs r=>qu λu a=>by rw[h u a]
 unfold eA;simp only[this]
theorem iQ{m:Nat}{w:ew}{ws:List Wk}{f g:Wk->D}{cs:List Nat}(h:∀u∈ws,f u=g u):((ws.map λu=>eW w u (f u),eA m ws f cs):Wh)=(ws.map λu=>eW w u (g u),eA m ws g cs):=by
 rw[sj h]
 congr 1
 apply db;intro u a;rw[h u a]
theorem Bm{m:Nat}{w:ew}{e:E4}{F:List (TK×D)}{L:List Rw}{a:Wh}(h:hU m w a.1 a.2)(c:RL e (gO F) L)(b:RN e F):oD m w a.1 a.2 e L=whD (jX m w e F a):=by
 have:=iQ (m:=m) (w:=w) (ws:=a.1) (cs:=a.2) (f:=ddW w a.1 a.2 e L) (g:=GQ w e F a) λu d=>c.due b (h.ky u d);unfold oD whD jX;rw[<- this]
theorem xJ{m:Nat}{w:ew}{e:E4}{F b:List (TK×D)}{a:Wh}(s:Sub F b)(h:∀u∈a.1,(d3 F ((ky w a.1 a.2 u).tk e)).isSome=M):jX m w e b a=jX m w e F a:=by
 refine iQ λu f=>?_;obtain⟨d,c⟩:=aP.mp (h u f);unfold GQ yt;rw[c,s _ _ c]
theorem qh{m:Nat}{ws:List Wk}{f:Wk->D}{cs:List Nat}(hm:m<=8):(eA m ws f cs).length<=8 /\ ∀r∈eA m ws f cs,r<m:=by
 unfold eA;refine⟨?_,λr a=>aB.mp (aA.mp a).1⟩;refine aC (dj _ _) ?_;rw[dA];exact hm
theorem sN{m:Nat}{w:ew}{ws:List Wk}{cs:List Nat}(h:hU m w ws cs){u:Wk}(d:u∈ws){x:D}(hx:gk x):∃a,w[(eW w u x).1]?=Z a/\(eW w u x).2.1<=a.length/\(eW w u x).2.2<4000:=by
 have c:=hx.eta.2;obtain⟨a,b,h1,h2⟩:=h.wk u d;unfold eW;rw[b];have base:∃a,w[(u.1,u.2.1,dm x).1]?=Z a/\(u.1,u.2.1,dm x).2.1<=a.length/\(u.1,u.2.1,dm x).2.2<4000:=⟨a,b,h1,c⟩;cases dt x with
 |none=>exact base
 |some t=>
  dsimp only[oS1];cases ep:a[t]? with
  |none=>exact base
  |some p=>
   obtain⟨r,f,e⟩:=h.web.to a (gM1 b) p (gM1 ep);exact⟨r,f,e,c⟩
theorem hU.step{m:Nat}{w:ew}{e:E4}{F:List (TK×D)}{a:Wh}(h:hU m w a.1 a.2)(c:RN e F):hU m w (jX m w e F a).1 (jX m w e F a).2:=by
 have hc:=qh (m:=m) (ws:=a.1) (f:=GQ w e F a) (cs:=a.2) h.m8;refine⟨h.web,h.m8,by show(a.1.map _).length<=8;rw[lM1];exact h.few,hc.1,λv d=>?_,hc.2⟩;obtain⟨u,b,rfl⟩:=cf.mp d;exact sN h b (Dk c (h.ky u b))
theorem mY(a:Wh)(n:Nat):(whD a).und n=M:=fU fZ
theorem vS(Ws:List Wh)(n:Nat):D.unds n (Ws.map whD)=M:=Mi.fb λa _=>mY a n
structure uE (m:Nat)(w:ew)(e:E4)(F:List (TK×D))(k:Nat)(Ws:List Wh):Prop where
 ok:∀a∈Ws,hU m w a.1 a.2/\a.1.length=k
 nx:∀(j:Nat) (a b:Wh),Ws[j]?=some a->Ws[j+1]?=some b->b=jX m w e F a /\ ∀u∈a.1,(d3 F ((ky w a.1 a.2 u).tk e)).isSome=true
theorem uE.more{m:Nat}{w:ew}{e:E4}{F g:List (TK×D)}{k:Nat}{Ws:List Wh}{a:Wh}(h:uE m w e F k Ws)(s:Sub F g)(l:RN e g)(i:Ws[Ws.length-1]?=Z a)(ha:∀u∈a.1,(d3 g ((ky w a.1 a.2 u).tk e)).isSome=M):uE m w e g k (Ws++[jX m w e g a]):=by
 have p:=(gE1.mp i).1;have n:=gM1 i;refine⟨λb f=>?_,λj b c f hc=>?_⟩
 ·rcases aG.mp f with f|f
  ·exact h.ok b f
  ·rw[cM.mp f];exact⟨(h.ok a n).1.step l,by show(a.1.map _).length=k;rw[lM1];exact(h.ok a n).2⟩
 ·by_cases z:j+1<Ws.length
  ·rw[gL1 (by lia)]at f;rw[gL1 z]at hc;obtain⟨h1,h2⟩:=h.nx j b c f hc;refine⟨by rw[xJ s h2];exact h1,λu o=>?_⟩;obtain⟨d,r⟩:=aP.mp (h2 u o);rw[s _ _ r];rfl
  ·have q:j+1=Ws.length:=by
    have:=(gE1.mp hc).1;rw[lA1,aX]at this;lia
   rw[gL1 (by lia),show j=Ws.length-1 by lia,i]at f;rw[gR1 (by lia),q,cP]at hc;cases f;have:jX m w e g a=c:=by simpa using hc
   exact⟨this.symm,ha⟩
structure vI (m:Nat)(rs cs:List Nat):Prop where
 few:rs.length<=8
 cl:cs.length<=8
 rs:∀r∈rs,r<m
 cs:∀r∈cs,r<m
def standD(rs cs:List Nat):D:=.tup [.tup (eN rs),.tup (eN cs)]
noncomputable def eP(rs cs:List Nat):Wh:=(rs.map λr=>(r,0,0),cs)
theorem su{m:Nat}{w:ew}{rs cs:List Nat}(hw:kb m w)(hm:m<=8)(h:vI m rs cs):hU m w (eP rs cs).1 (eP rs cs).2:=by
 refine⟨hw,hm,by show(rs.map _).length<=8;rw[lM1];exact h.few,h.cl,λu b=>?_,h.cs⟩;obtain⟨r,a,rfl⟩:=cf.mp b;exact⟨_,gG1 (by rw[hw.len];exact h.rs r a),bh _,by show 0<4000;decide⟩
theorem jK(rs cs:List Nat)(n:Nat):(standD rs cs).und n=M:=fU (by simp[standD,D.und,D.unds,rz])
theorem Es{rs cs:List Nat}{S:Sto}:dX (standD rs cs) (.int 0) S=Z (.tup (eN rs),S):=rfl
theorem Er{rs cs:List Nat}{S:Sto}:dX (standD rs cs) (.int 1) S=Z (.tup (eN cs),S):=rfl
theorem xj{rs:List Nat}{S:Sto}{c:Option D}{Q:List D×Ev×Sto->Prop}(h:∀ b,Q (eH (eP rs []).1,b,S)):
  W (fX [] (gN 0) fW (eJ (eD (dU (mV 0) (dU (mC (D.int 0)) (dU (mC (D.int 0)) dV))))) (eN rs) [c] S) Q:=by
 refine nV (f:=λr:Nat=>D.int r) (λr:Nat=>eZ (r,0,0)) (λr=>∃x,r=[x]) O rs _ ⟨_,O⟩ ?_ λb _=>?_
 ·rintro a d r ⟨x,rfl⟩;walk_at"w";exact⟨O,_,O⟩
 ·have e:(rs.map λr:Nat=>eZ (r,0,0))=eH (eP rs []).1:=by unfold eH eP;rw[bt];rfl
  rw[e];exact h b
theorem Dx{rs cs:List Nat}{S:Sto}{Q:D×Sto->Prop}(b:rs.length<=1000)(q:Q (whD (eP rs cs),S)):W (dZ 1 k6 [standD rs cs] S) Q:=by
 refine jz O (by rw[D.unds,jK];rfl) ?_;unfold k6;refine lW ?_;unfold xm;refine eF (λr V=>V=[]/\r=[Z (standD rs cs),Z (.tup (eN rs)),Z (.tup (eN cs))]) ?_ ?_
 ·unfold standD;walk_at"w"
 rintro r V ⟨rfl,rfl⟩;walk_at"w";rw[gW];refine xj λc=>?_;have a:(eH (eP rs []).1).length=rs.length:=by rw[jJ];exact lM1 _
 walk_at"w";refine⟨ee (by rw[a];lia),?_⟩;refine eK (xs:=eH (eP rs []).1) O ?_;exact⟨mY (eP rs cs) 0,q⟩
theorem yM{g:G1}{m:FE}{r:Ev}{S:Sto}{Q:D×Sto->Prop}(h:W (m r S) λp=>W (g p.1 p.2) Q):W (mN (b1 g) (dU m dV) r S) Q:=by
 obtain⟨p,e,h⟩:=h;unfold mN dU dV;rw[e];exact h
theorem Bu{a:FE}{b:FA}{r:Ev}{S:Sto}{Q:List D×Sto->Prop}(h:W (a r S) λp=>W (b r p.2) λq=>Q (p.1::q.1,q.2)):W (dU a b r S) Q:=by
 obtain⟨p,e,q,c,h⟩:=h;unfold dU;rw[e,oS1,c];exact⟨_,O,h⟩
theorem Iz{S:Sto}(h:S.all (Ob.und 0)=M)(n:Nat):S.all (Ob.und n)=M:=by
 rw[bB]at h ⊢;exact λx a=>kX (bh _) (h x a)
theorem lO{e:E4}{F:List (TK×D)}(h:RN e F)(n:Nat):(Ob.lst ((gO F).map wg)).und n=M:=by rw[Ob.und];exact Ce h n
theorem Dl{m:Nat}{w:ew}{e:E4}{rs cs:List Nat}{o:Ob}{n b:Nat}{Q:D×Sto->Prop}(hw:kb m w)(hm:m<=8)(hst:vI m rs cs)(ho:gD o n)(hn:n<=2^35)(hb:b<=400)(hlim:b*rs.length<=3000)(q:∀F L c o' G,RN e F->RL e (gO F) L->uE m w e F rs.length c->c.length=b+1->c[0]?=some (eP rs cs)->gD o' (n+100*b)->G.all (Ob.und 0)=true->G[2]?=some (.lst (c.map whD))->Q (.tup [mcD e L,.ref 3],o'::G)):
  W (dZ 5 fh [.ref 0,webD w,oO e,standD rs cs,.int b] [o]) Q:=by
 refine lr O O ?_;unfold fh;refine lW ?_;unfold iq;have N:(eH (eP rs []).1).length=rs.length:=by rw[jJ];exact lM1 _
 have hfew:=hst.few;refine eF (λr S=>r=[Z (.ref 0),Z (webD w),Z (oO e),Z (standD rs cs),Z (.int (b:Nat)),Z (.ref 1),Z (.ref 3),Y,Y,Y]/\S=[o,.dct [],.lst (eH (eP rs []).1),.lst [whD (eP rs cs)]]) ?_ ?_
 ·((try walk_at"w");repeat(simp only[tL,Es,Er];try walk_at"w"))
  rw[gW];refine xj λr'=>?_;walk_at"w";refine⟨ee (by rw[N];lia),?_⟩;refine eK (xs:=eH (eP rs []).1) O ?_
  first|rfl|exact⟨rfl,rfl⟩
 rintro r S ⟨rfl,rfl⟩;refine eF (λr S=>∃F c o' G I v,RN e F/\F.length<=3000/\gD o' (n+100*b)/\uE m w e F rs.length c/\c.length=b+1/\c[0]?=Z (eP rs cs)/\G.all (Ob.und 0)=M/\S=o'::dO F :: .lst (eH (eP rs []).1) :: .lst (c.map whD)::G/\r=[Z (.ref 0),Z (webD w),Z (oO e),Z (standD rs cs),Z (.int (b:Nat)),Z (.ref 1),Z (.ref 3),I,v,Y]) ?_ ?_
 ·walk_at"w";rw[j6,Int.toNat_natCast];refine⟨fQ (by lia),?_⟩;refine gi (λi r S=>∃F c o' G I v,i<=b/\RN e F/\F.length<=i*rs.length/\gD o' (n+100*i)/\uE m w e F rs.length c/\c.length=i+1/\c[0]?=Z (eP rs cs)/\G.all (Ob.und 0)=M/\S=o'::dO F :: .lst (eH (eP rs []).1) :: .lst (c.map whD)::G/\r=[Z (.ref 0),Z (webD w),Z (oO e),Z (standD rs cs),Z (.int (b:Nat)),Z (.ref 1),Z (.ref 3),I,v,Y]) _ 0 _ _ ?_ (λ_ _ _ _=>rfl) ?_ ?_
  ·refine⟨[],[eP rs cs],o,[],Y,Y,bh _,RN.nil,bh _,ho,⟨λa ao=>?_,λj a b ao hb=>?_⟩,O,O,O,O,O⟩
   ·rw[cM.mp ao];exact⟨su hw hm hst,lM1 _⟩
   ·simp at hb
  ·rintro i d C r S ⟨F,c,au,G,I,v,hi,t,P,l,K,k,p,B,rfl,rfl⟩;have aq:=(gE1.mp C).1;rw[lM1,dA]at aq;rw[bN]at *
   have hd':d = .int (i:Nat):=by
    rw[gP1,cK aq]at C;exact(Option.some.inj C).symm
   subst hd';have hmul:(i+1)*rs.length<=b*rs.length:=dk _ (by lia);have hmul2:(i+1)*rs.length=i*rs.length+rs.length:=by rw[Nat.add_mul,Nat.one_mul]
   obtain⟨a,ao⟩:∃a,c[i]?=some a:=⟨_,gG1 (by lia)⟩;have ham:=gM1 ao;obtain⟨E,hal⟩:=K.ok a ham;have X:(c.map whD)[i]?=Z (whD a):=by rw[gP1,ao];rfl
   walk_at"w";unfold gH;have hX:(Ob.lst (eH (eP rs []).1)).und 0=M:=by rw[Ob.und];exact kB _
   have wq:(Ob.lst (c.map whD)).und 0=M:=by rw[Ob.und];exact vS _ 0
   refine eF (λr S=>∃g z,RN e g/\g.length<=F.length+rs.length/\gD z (n+100*i+100)/\Sub F g/\(∀u∈a.1,(d3 g ((ky w a.1 a.2 u).tk e)).isSome=M)/\S=z::dO g :: .lst (eH (eP rs []).1) :: .lst (c.map whD)::G/\r=[Z (.ref 0),Z (webD w),Z (oO e),Z (standD rs cs),Z (.int (b:Nat)),Z (.ref 1),Z (.ref 3),Z (.int (i:Nat)),v,Y]) ?_ ?_
   ·walk_at"w";refine i9 (i:=i) (xs:=c.map whD) (x:=whD a) O X ?_;walk_at"w";refine Da (ws:=a.1) (cs:=a.2) (T:=.lst (eH (eP rs []).1) :: .lst (c.map whD)::G) E t (by rw[bP,bP,hX,wq,B];rfl) l (by lia) (by lia) λg z f am s A y=>?_;rw[hal]at am;exact⟨g,z,f,am,s,A,y,O,trivial⟩
   rintro r S ⟨g,z,f,am,s,A,y,rfl,rfl⟩;obtain⟨L2',R,_⟩:=nv (k7 f) (aC (live_len g) (by lia));generalize h:z::dO g::Ob.lst (eH (eP rs []).1)::Ob.lst (c.map whD)::G=S2;have g1:S2[1]?=Z (dO g):=by rw[<- h];rfl
   have c2:S2.all (Ob.und 0)=M:=by rw[<- h,bP,bP,bP,bP,s.und,f.und,hX,wq,B];rfl
   refine eF (λr S=>S=S2++[.lst ((gO g).map wg),dO (gO g)]/\r=[Z (.ref 0),Z (webD w),Z (oO e),Z (standD rs cs),Z (.int (b:Nat)),Z (.ref 1),Z (.ref 3),Z (.int (i:Nat)),Z (.ref (S2.length+1)),Y]) ?_ ?_
   ·unfold ea;refine d2.mpr (yM (wt f (by lia) g1 O ?_));refine Gj f (by lia) (by rw[et];rfl) ?_;walk_at"w"
   rintro r S ⟨hS,rfl⟩;have g3:S[S2.length+1]?=Z (dO (gO g)):=by rw[hS,im];rfl
   have g4:S[3]?=Z (.lst (c.map whD)):=by rw[hS,<- h];rfl
   have c3:S.all (Ob.und 0)=M:=by
    rw[hS,dy,c2,bP,bP,lO f,(k7 f).und];rfl
   unfold fM;rw[d2];refine i8 ?_;walk_at"w";refine⟨3,c.map whD,O,g4,?_⟩
   try walk_at"w"
   refine i9 (i:=i) (xs:=c.map whD) (x:=whD a) g4 X ?_
   try walk_at"w"
   refine CU (ws:=a.1) (cs:=a.2) E R g3 (Iz c3 _) ?_;rw[Bm E R f];walk_at"w";refine(oM g4).mpr ⟨ee (by rw[lM1];lia),?_⟩;have H:c[c.length-1]?=Z a:=by rw[k];exact ao
   refine⟨g,c++[jX m w e g a],z,G++[.lst ((gO g).map wg),dO (gO g)],_,_,by lia,f,by lia,s.more (by lia),K.more A f H y,by rw[lA1,k];rfl,?_,?_,?_,O⟩
   ·rw[gL1 (by lia)];exact p
   ·rw[dy,B,bP,bP,lO f,(k7 f).und];rfl
   ·rw[hS,<- h];simp only[bi,c7,c5,cE,mP1,aY]
  ·rintro r S ⟨F,c,au,G,I,v,hi,t,P,l,K,k,p,B,rfl,rfl⟩;rw[lM1,dA,bN]at *
   exact⟨O,F,c,au,G,_,_,t,by lia,l,K,k,p,B,O,O⟩
 rintro r S ⟨F,c,au,G,I,v,t,P,l,K,k,p,B,rfl,rfl⟩;obtain⟨L,rl,U⟩:=nv (k7 t) (aC (live_len F) (by lia));have hX:(Ob.lst (eH (eP rs []).1)).und 0=M:=by rw[Ob.und];exact kB _
 have wq:(Ob.lst (c.map whD)).und 0=M:=by rw[Ob.und];exact vS _ 0
 generalize h:au::dO F::Ob.lst (eH (eP rs []).1)::Ob.lst (c.map whD)::G=S2;have g1:S2[1]?=Z (dO F):=by rw[<- h];rfl
 refine eF (λr S=>S=S2++[.lst ((gO F).map wg),.lst (L.map (fe e))]/\r=[Z (.ref 0),Z (webD w),Z (oO e),Z (standD rs cs),Z (.int (b:Nat)),Z (.ref 1),Z (.ref 3),I,v,Z (mcD e L)]) ?_ ?_
 ·unfold ea;refine d2.mpr (Br.mpr (Bu ?_));refine W.of (x:=(oO e,S2)) O ?_;refine Bu (yM (yM (wt t (by lia) g1 O ?_)));dsimp only;refine W.of (U S2.length _ (by rw[et];rfl)) ?_;dsimp only;refine Bt.mpr (eK (xs:=L.map (fe e)) (by rw[et];rfl) ?_);refine W.of (x:=([],_)) O ?_;refine⟨Kw,?_⟩;refine W.of (x:=_) O ?_;refine⟨O,?_,O⟩;simp
 rintro r S ⟨rfl,rfl⟩;have ur:=kM (e:=e) rl.ok 0;simp only[D.und]at ur;have hg:∀V,gc 1 (D.tup [mcD e L,.ref 3],V)=(D.tup [mcD e L,.ref 3],V):=λV=>by
  unfold gc;rw[aj];simp[D.und,D.unds]
 walk_at"w";show Q (gc 1 (D.tup [mcD e L,.ref 3],_));rw[hg,<- h];refine q F L c au (dO F::Ob.lst (eH (eP rs []).1)::Ob.lst (c.map whD)::(G++[.lst ((gO F).map wg),.lst (L.map (fe e))])) t rl K k p l ?_ O;rw[bP,bP,bP,dy,t.und,hX,wq,B,bP,bP,lO t,Ob.und,ur];rfl
theorem J3(xs:List D)(k:Nat):Mi.uv xs Y (Z (k:Int))=xs.take k:=by
 unfold Mi.uv;rw[HT.zy,HT.B3,bX,Nat.sub_zero];by_cases h:k<=xs.length
 ·rw[bA h]
 ·rw[Nat.min_eq_right (by lia),bY,b8 (by lia)]
theorem D3{m:FE}{hi:FO}{r:Ev}{S:Sto}{n k:Nat}{xs:List D}{Q:D×Sto->Prop}(hm:m r S=Z (.ref n,S))(a:hi r S=Z (Z (k:Int),S))(h:S[n]?=Z (.lst xs))(q:Q (.ref S.length,S++[.lst (xs.take k)])):W (rE m j5 hi r S) Q:=by
 rw[<- J3]at q;refine W.of ?_ q;unfold rE;rw[hm,oS1];dsimp only;rw[show j5 r S=Z (Y,S)from rfl,oS1];dsimp only;rw[a,oS1];simp only[zr,gL h,oP1,if_true]
theorem ID{m:FA}{k:Nat}{r:Ev}{S S1:Sto}{Q:D×Sto->Prop}(hm:m r S=Z ([.int (k:Nat)],S1))(hk:k<=1000)(q:Q (.ref S1.length,S1++[.lst (gY 0 k)])):W (Az m r S) Q:=by
 refine W.of ?_ q;unfold Az;rw[hm,oS1];dsimp only;rw[ak (by
  unfold wc;simp only[bA1,al];lia),Int.toNat_natCast]
theorem y8{c:FT}{b:FS}{Q:Fl×Ev×Sto->Prop}(I:Nat->Ev->Sto->Prop)(step:∀k r S,I k r S->W (c r S) fun p=>if p.1=true then 0<k/\W (b r p.2) fun q=>q.1 = .nx/\I (k-1) q.2.1 q.2.2 else Q (.nx,r,p.2)):
  ∀(a k:Nat) (r:Ev) (S:Sto),k<a->I k r S->W (sx c b a r S) Q
 |0,k,r,S,hf,_=>by lia
 |a+1,k,r,S,hf,hi=>by
  rw[sx];dsimp only;rw[d2];obtain⟨⟨t,n⟩,e,h⟩:=step k r S hi;refine⟨_,e,?_⟩;dsimp only at h ⊢;cases t with
  |true=>
   rw[ak O]at h ⊢;obtain⟨m,⟨f,j,l⟩,i,g,d⟩:=h;dsimp only at g d;subst g;rw[i,oS1];exact y8 I step a (k-1) j l (by lia) d
  |false=>
   rw[aj (by decide)]at h ⊢;exact eG.mpr h
theorem Ah(rs:List Nat)(i:Nat):(eN rs).eraseIdx i=eN (rs.eraseIdx i):=by
 unfold eN;simp[cJ,di,List.map_drop]
theorem uZ{m most n:Nat}{o:Ob}{T:Sto}{Q:D×Sto->Prop}(wq:0<m)(hm:m<=8)(S:0<most)(N:most<=8)(ho:gD o n)(hn:n<=2^40)(U:T.all (Ob.und (T.length+1))=M)(q:∀rs f o',vI m rs f->rs≠[]->rs.length<=most->gD o' (n+100)->Q (standD rs f,o'::T)):W (dZ 3 fE [.ref 0,.int m,.int most] (o::T)) Q:=by
 refine xh O O U ?_;unfold fE;refine lW ?_;unfold i7;have tl:∀(a b:Ob),(a::(T++[b]))[T.length+1]?=Z b:=λa b=>by rw[gC1,et];rfl
 have aq:∀(a b c:Ob),(a::(T++[b])).set (T.length+1) c=a::(T++[c]):=λa b c=>by rw[c7,c4 _ _ (nR1 _),cP];rfl
 refine eF (λr V=>V=o::(T++[.lst (eN (af m))])/\r=[Z (.ref 0),Z (.int (m:Nat)),Z (.int (most:Nat)),Z (.ref (T.length+1)),Y]) ?_ ?_
 ·unfold ea;rw[d2];refine ID (k:=m) (S1:=o::T) O (by lia) ?_;rw[j6];exact W.of O ⟨O,O,O⟩
 rintro r V ⟨rfl,rfl⟩;refine eF (λr V=>∃rs o',rs≠[]/\rs.length<=most/\rs.length<=m/\(∀x∈rs,x<m)/\gD o' (n+50)/\V=o'::(T++[.lst (eN rs)])/\r=[Z (.ref 0),Z (.int (m:Nat)),Z (.int (most:Nat)),Z (.ref (T.length+1)),Y]) ?_ ?_
 ·refine y8 (λk r V=>∃rs o',rs.length=k+1/\k+1<=m/\(∀x∈rs,x<m)/\gD o' (n+2*(m-(k+1)))/\V=o'::(T++[.lst (eN rs)])/\r=[Z (.ref 0),Z (.int (m:Nat)),Z (.int (most:Nat)),Z (.ref (T.length+1)),Y]) ?_ 100000 (m-1) _ _ (by lia) ⟨af m,o,by rw[dA];lia,by lia,λx I=>aB.mp I,ho.more (by lia),O,O⟩;rintro k r V ⟨rs,ao,G,R,j,s,rfl,rfl⟩;unfold ik;walk_at"w";refine eK (tl ao (.lst (eN rs))) ?_;walk_at"w";refine eV s (by lia) (by lia) (by lia) λt C g au=>?_;walk_at"w";rw[ix,G];by_cases z:1+t<k+1
  ·rw[ak (by rw[al];push_cast;lia)];refine⟨by lia,?_⟩;unfold ij fM;rw[d2];refine i8 ?_;walk_at"w";refine⟨T.length+1,eN rs,O,tl _ _,?_⟩
   try walk_at"w"
   refine eK (tl C (.lst (eN rs))) ?_
   try walk_at"w"
   rw[ix,G];refine eV g (by lia) (by push_cast;lia) (by push_cast;lia) λi p h hi=>?_
   try walk_at"w"
   have v:i<rs.length:=by rw[G];lia
   refine GB (xs:=eN rs) (x:=.int (rs[i]'(v):Nat)) (tl _ _) (by unfold eN;rw[gP1,gG1 v];rfl) (by lia) ?_;rw[aq,Ah];refine⟨rs.eraseIdx i,p,by rw[cH v];lia,by lia,λx I=>j x (List.mem_of_mem_eraseIdx I),h.more (by lia),O,trivial⟩
  ·rw[aj (by rw[al];push_cast;lia)];exact⟨rs,C,λz=>(by rw[z]at G;cases G),by lia,by lia,j,g.more (by lia),O,trivial⟩
 rintro r V ⟨rs,ao,L,B,hlm,j,s,rfl,rfl⟩;refine eF (λr V=>∃(a:Nat) (o':Ob),a<2/\gD o' (n+51)/\V=o'::(T++[.lst (eN rs)])/\r=[Z (.ref 0),Z (.int (m:Nat)),Z (.int (most:Nat)),Z (.ref (T.length+1)),Z (.int (a:Nat))]) ?_ ?_
 ·walk_at"w";refine eV s (by lia) (by lia) (by lia) λt C g au=>?_;exact⟨t,C,by lia,g,O,O⟩
 rintro r V ⟨a,C,ha,g,rfl,rfl⟩;walk_at"w";refine eK (tl _ _) ?_;walk_at"w";rw[Int.toNat_natCast];refine⟨fQ (by lia),?_⟩;refine jP (λi F r V=>∃f p x,i<=m/\F=eN f/\f.length<=i/\(∀y∈f,y<m)/\gD p (n+51+i)/\V=p::(T++[.lst (eN rs)])/\r=[x,Z (.int (a:Nat)),Z (.ref 0)]) _ 0 [] _ _ ⟨[],C,_,bh _,O,nR1 _,λy u=>(by cases u),g,O,O⟩ (λ_ _ _ _ _=>rfl) ?_ ?_
 ·rintro i d w F r V ⟨f,p,x,hi,rfl,K,l,h,rfl,rfl⟩;have A:=(gE1.mp w).1;rw[ge]at A;rw[bN]at *
  have am:d = .int (i:Nat):=by
   rw[j6,gP1,cK A]at w;exact(Option.some.inj w).symm
  subst am;walk_at"w";refine eV h (by lia) (by lia) (by lia) λt P E au=>?_;have X:∀H,jU (.int (a:Int)) (.int (t:Int)) H=Z (.int ((a:Int)*(t:Int)),H):=λH=>by
   simp only[jU];rw[ak (pM (by lia) (by lia))]
  ((try walk_at"w");repeat(simp only[X];try walk_at"w"))
  split
  ·exact ⟨f++[i],P,_,by lia,by simp [eN],by rw [lA1];simp;lia,fun y u=>by
    rcases aG.mp u with u|u
    ·exact l y u
    ·rw[cM.mp u];exact A,E.more (by lia),O,O⟩
  ·exact⟨f,P,_,by lia,O,by lia,l,E.more (by lia),O,O⟩
 ·rintro xs r V ⟨f,p,x,hi,e,K,l,h,rfl,rfl⟩;rw[cY]at e;subst e;rw[ge,bN]at *
  walk_at"w";refine⟨ee (by rw[ix];lia),?_⟩;refine eK (xs:=eN f) (by rw[gC1,im];rfl) ?_;exact⟨standD rs f,p,[.lst (eN rs),.lst (eN f)],by simp[standD],jK rs f 0,h.und,q rs f p ⟨by lia,by lia,j,l⟩ L B (h.more (by lia))⟩
theorem r6{α:Type}[DecidableEq α]{f:D->D->Option Bool}{g:α->D}(h:∀x y,f (g x) (g y)=Z (decide (x=y))):∀l a:List α,jS f (l.map g) (a.map g)=Z (decide (l=a))
 |[],[]=>by simp[jS]
 |[],_::_=>by simp[jS]
 |_::_,[]=>by simp[jS]
 |x::l,y::a=>by
  rw[mP1,mP1,jS,h,r6 h l a,oS1,oP1]
  congr 1
  rw[bQ,bA1,al,al,al,List.cons.injEq]
theorem ng{S:Sto}{n:Nat}(x y:Nat):ga S (n+1) (.int x) (.int y)=Z (decide (x=y)):=by
 show Z ((x:Int) == (y:Int))=_
 congr 1
 rw[bQ,beq_iff_eq,al];lia
theorem Gg{S:Sto}{n:Nat}(u v:Wk):ga S (n+2) (eZ u) (eZ v)=Z (decide (u=v)):=by
 obtain⟨a,b,c⟩:=u;obtain⟨e,f,d⟩:=v;unfold eZ;rw[Dj,jS,ng,oS1,jS,ng,oS1,jS,ng,oS1,jS];simp only[oP1]
 congr 1
 rw[bQ];simp only[bA1,al,Prod.mk.injEq,bM]
theorem A8{S:Sto}{n:Nat}(a b:Wh):ga S (n+4) (whD a) (whD b)=Z (decide (a=b)):=by
 obtain⟨ws,e⟩:=a;obtain⟨c,d⟩:=b;unfold whD d4;rw[Dj,jS,Dj,Option.bind_eq_bind.symm];have h1:=r6 (f:=ga S (n+2)) (g:=eZ) (λx y=>Gg (n:=n) x y) ws c;have h2:=r6 (f:=ga S (n+2)) (g:=λr:Nat=>D.int r) (λx y=>ng (n:=n+1) x y) e d;unfold eH eN;rw[h1,jS,Dj,h2,jS];show Z (decide (ws=c)&&(decide (e=d)&&M))=_
 congr 1
 rw[bQ];simp only[bA1,al,Prod.mk.injEq,bM]
noncomputable def GM(u:Wk):TK:=.tup [.int u.1,.int u.2.1,.int u.2.2]
def Bz(a:Wh):TK:=.tup [.tup (a.1.map GM),.tup (a.2.map λr:Nat=>TK.int r)]
theorem rJ{α:Type}{f:α->D}{g:α->TK}(h:∀x,kD (f x)=Z (g x)):∀l:List α,BF (l.map f)=Z (l.map g)
 |[]=>rfl
 |x::l=>by rw[mP1,BF,h,rJ h l];rfl
theorem HQ(u:Wk):kD (eZ u)=Z (GM u):=rfl
theorem sd{α:Type}{g:α->TK}{k:Nat}(h:∀x,(g x).dep<=k):∀l:List α,TK.depAll (l.map g)<=k
 |[]=>by rw[aY,TK.depAll];exact bh _
 |x::l=>by
  have h1:=h x;have h2:=sd h l;rw[mP1,TK.depAll];lia
theorem rH(a:Wh):Mi.keyT (whD a)=Z (Bz a):=by
 obtain⟨ws,b⟩:=a;unfold whD d4;rw[Mi.keyT,BF,kD,BF,kD,BF];unfold eH eN;rw[rJ HQ,rJ (f:=λi:Nat=>D.int i) (g:=λr:Nat=>TK.int r) (λ_=>rfl)];have c:=sd (g:=GM) (k:=1) (λu=>nR1 _) ws;have d:=sd (g:=λr:Nat=>TK.int r) (k:=0) (λu=>nR1 _) b;simp only[oP1,oS1,bi];rw[ak]
 ·rfl
 ·rw[TK.dep,TK.depAll,TK.depAll,TK.depAll,TK.dep,TK.dep];lia
theorem rD{α β:Type}{f:α->β}(h:∀x y,f x=f y->x=y):∀{l a:List α},l.map f=a.map f->l=a
 |[],[],_=>rfl
 |[],_::_,e=>by cases e
 |_::_,[],e=>by cases e
 |x::l,y::a,e=>by
  rw[mP1,mP1,List.cons.injEq]at e;rw[h _ _ e.1,rD h e.2]
theorem IP{x y:Nat}(h:TK.int x=TK.int y):x=y:=by
 injection h with h;lia
theorem BU(u v:Wk)(h:GM u=GM v):u=v:=by
 obtain⟨a,b,c⟩:=u;obtain⟨f,g,e⟩:=v;unfold GM at h;injection h with h;injection h with h1 h;injection h with h2 h;injection h with d _;rw[show a=f from IP h1,show b=g from IP h2,show c=e from IP d]
theorem vT{a b:Wh}:Bz a=Bz b↔a=b:=by
 refine⟨λh=>?_,λh=>by rw[h]⟩;obtain⟨ws,f⟩:=a;obtain⟨c,d⟩:=b;unfold Bz at h;injection h with h;injection h with h1 h;injection h with h2 _;injection h1 with h1;injection h2 with h2;rw[show ws=c from rD BU h1,show f=d from rD (λx y e=>IP e) h2]
noncomputable def vi(a:Wh):Bool:=match a.1 with
 |[]=>M
 |u::ws=>(u::ws).all λv=>v.1 == u.1
noncomputable def fst(s:Nat->Wh)(t:Nat):Option Nat:=(af t).find? λi=>decide (s i=s t)
def res(s:Nat->Wh)(t:Nat):Option D:=if vi (s t)=M then Z (.tup [.str "met",.int t])else(fst s t).map λi:Nat=>D.tup [.str "round",.int (i:Nat),.int (t:Nat)]
noncomputable def BD(m:Nat):D:=.tup [.str "open",.int m]
def kd(s:Nat->Wh)(m:Nat):Nat->Nat->D
 |0,_=>BD m
 |n+1,t=>match res s t with
  |some d=>d
  |none=>kd s m n (t+1)
def iz(s:Nat->Wh):Nat->Nat->D×Nat
 |0,t=>(.non,t)
 |n+1,t=>match res s t with
  |some d=>(d,t)
  |none=>iz s n (t+1)
theorem gR{s:Nat->Wh}{t:Nat}{d:D}(h:res s t=Z d):d = .tup [.str "met",.int t] \/ ∃i:Nat,i<t/\d = .tup [.str "round",.int i,.int t]:=by
 unfold res at h;split at h
 ·cases h;exact .inl O
 ·obtain⟨i,hi,rfl⟩:=oM1.mp h;exact .inr ⟨i,aB.mp (dz hi),O⟩
theorem q9(s:Nat->Wh):∀n t:Nat,(iz s n t=(.non,t+n) /\ ∀m k,k<=n->kd s m k t=BD m) \/ ∃j d,j<n/\res s (t+j)=Z d/\iz s n t=(d,t+j) /\ ∀m k,kd s m k t=if j<k then d else BD m
 |0,t=>.inl ⟨O,λm k a=>by rw[Nat.le_zero.mp a];rfl⟩
 |n + 1,t=>by
  cases hr:res s t with
  |some d=>
   refine .inr ⟨0,d,by lia,hr,by rw[iz,hr];rfl,λm k=>?_⟩;cases k with
   |zero=>rfl
   |succ k=>rw[kd,hr,ak (by lia)]
  |none=>
   rcases q9 s n (t+1)with⟨h1,h2⟩|⟨j,d,h1,h2,c,b⟩
   ·refine .inl ⟨by rw[iz,hr];dsimp only;rw[h1,show t+1+n=t+(n+1) by lia],λm k a=>?_⟩;cases k with
    |zero=>rfl
    |succ k=>rw[kd,hr];exact h2 m k (by lia)
   ·refine .inr ⟨j+1,d,by lia,by rw[<- h2];congr 1;lia,by rw[iz,hr];dsimp only;rw[c,show t+1+j=t+(j+1) by lia],λm k=>?_⟩;cases k with
    |zero=>rfl
    |succ k=>
     rw[kd,hr];dsimp only;rw[b m k];by_cases z:j<k
     ·rw[ak z,ak (by lia)]
     ·rw[aj z,aj (by lia)]
theorem tP{c:List (Nat×List D)}{g:FG}{b:FS}{Q:Fl×Ev×Sto->Prop}(I:Nat->Ev->Sto->Prop):∀ (items:List D) (k:Nat) (r:Ev) (S:Sto),I k r S ->
  (∀i r S,I i r S->oW S c=M) ->
  (∀i d,items[i]?=Z d -> ∀r S,I (k+i) r S->W (g d r S) λp=>W (b p.1 p.2) λq=>(q.1 = .nx/\I (k+i+1) q.2.1 q.2.2) \/ ∃v,q.1 = .rt v/\Q (.rt v,q.2)) ->
  (∀r S,I (k+items.length) r S->Q (.nx,r,S))->W (i6 c g b items r S) Q:=by
 intro items
 induction items with
 |nil=>intro k r S hi a _ j;rw[i6];dsimp only;rw[ak (a _ _ _ hi),eG];exact j r S (by simpa using hi)
 |cons d ds ih=>
  intro k r S hi a l j;rw[i6];dsimp only;rw[ak (a _ _ _ hi),d2];obtain⟨p,u,h1⟩:=l 0 d O r S (by simpa using hi);refine⟨p,u,?_⟩;dsimp only;rw[d2];obtain⟨⟨f,o,s⟩,m,h⟩:=h1;refine⟨_,m,?_⟩;dsimp only at h ⊢;rcases h with⟨rfl,e⟩|⟨v,rfl,n⟩
  ·exact ih (k+1) o s e a (fun i d t r S e=>by
    have:=l (i+1) d t r S (by rw[show k+(i+1)=k+1+i by lia];exact e);rw[show k+(i+1)+1=k+1+i+1 by lia]at this;exact this) λr S e=>j r S (by rw[lC1,show k+(ds.length+1)=k+1+ds.length by lia];exact e)
  ·exact eG.mpr n
theorem zw{a b:FS}{r:Ev}{S:Sto}{Q:Fl×Ev×Sto->Prop}(h:W (a r S) λp=>(p.1 = .nx/\W (b p.2.1 p.2.2) Q) \/ ∃v,p.1 = .rt v/\Q (.rt v,p.2)):W (d6 a b r S) Q:=by
 obtain⟨⟨f,c,d⟩,e,h⟩:=h;unfold d6;rw[e];dsimp only at h;rcases h with⟨rfl,h⟩|⟨v,rfl,h⟩
 ·exact h
 ·exact eG.mpr h
theorem EE{a b:FS}{r:Ev}{S:Sto}{Q:Fl×Ev×Sto->Prop}(h:W (a r S) fun p=>match p.1 with
  | .rt d=>Q (.rt d,p.2)
  |_=>False):W (d6 a b r S) Q:=by
 refine zw (h.mono ?_);rintro⟨f,p⟩ q;cases f with
 |rt d=>exact .inr ⟨d,O,q⟩
 |_=>cases q
theorem DR{a:Wh}{S:Sto}{Q:D×Sto->Prop}(d:a.1≠[])(i:a.1.length<=1000)(q:Q (.bl (vi a),S)):W (dZ 1 jp [whD a] S) Q:=by
 obtain⟨ws,c⟩:=a;cases ws with
 |nil=>exact absurd O d
 |cons u ws=>
  have g:∀b,dX (whD (u::ws,c)) (.int 0) b=Z (.tup (eH (u::ws)),b):=λb=>rfl;refine jz O (by rw[D.unds,mY];rfl) ?_;unfold jp;refine lW ?_;unfold uA;refine eF (λr V=>V=[]/\r=[Z (whD (u::ws,c)),Z (.int u.1)]) ?_ ?_
  ·have j:∀ b,dX (.tup (eH (u::ws))) (.int 0) b=some (eZ u,b):=fun b=>by
    obtain⟨p,e,h⟩:W (dX (.tup (eH (u::ws))) (.int ((0:Nat):Int)) b) λp=>p=(eZ u,b):=gC O O;exact e.trans (by rw[h])
   ((try walk_at"w");repeat(simp only[g,j,m7];try walk_at"w"))
  rintro r V ⟨rfl,rfl⟩;unfold eS;rw[d2];refine yM ?_
  ((try walk_at"w");repeat(simp only[g];try walk_at"w"))
  rw[gW];refine nV (f:=eZ) (λv:Wk=>D.bl (v.1 == u.1)) (λr=>∃x y z,r=[x,y,z,Z (.int u.1)]) O (u::ws) _ ⟨_,_,_,O⟩ ?_ λk _=>?_
  ·rintro v l r ⟨x,y,z,rfl⟩;unfold eZ;walk_at"w";refine⟨?_,_,_,_,O⟩
   congr 1
   rw[bQ,beq_iff_eq,beq_iff_eq];lia
  ·walk_at"w";refine⟨ee (by rw[lM1];exact aC i (by decide)),?_⟩;refine W.of (x:=(.bl (vi (u::ws,c)),[Ob.lst ((u::ws).map λv:Wk=>D.bl (v.1 == u.1))])) ?_ ⟨O,q⟩;unfold Ge;rw[gL (xs:=(u::ws).map λv:Wk=>D.bl (v.1 == u.1)) O,oS1,uC];rfl
theorem any_congr'{α:Type}{p q:α->Bool}:∀{l:List α},(∀x∈l,p x=q x)->l.all p=l.all q
 |[],_=>rfl
 |x::l,h=>by rw[bP,bP,h x mS1,any_congr' λy a=>h y (mC1 _ a)]
theorem Gp{x:Int}{l:List Int}:((ddI (x::l)).length == 1)=(x::l).all (· == x):=by
 have nd:(ddI (x::l)).Nodup:=jw _ [] bn;have a:∀k,k∈ddI (x::l)↔k∈x::l:=λk=>As;generalize ddI (x::l)=d at nd a;rw[bQ,beq_iff_eq,bB];constructor
 ·intro h y c
  match d,h with
  |[z],_=>
   have h1:=(a y).mpr c;have h2:=(a x).mpr mS1;rw[cM]at h1 h2;rw[h1,h2,beq_self_eq_true]
 ·intro h;have b:=(a x).mpr mS1;have all:∀y∈d,y=x:=λy c=>beq_iff_eq.mp (h y ((a y).mp c))
  match d,nd,b,all with
  |[],_,b,_=>cases b
  |[z],_,_,_=>rfl
  |z::z2::d,nd,_,all=>
   rw[aN]at nd;exact absurd (by rw[all z mS1,<- all z2 (mC1 _ mS1)];exact mS1) nd.1
theorem AF{a:Wh}{S:Sto}{Q:D×Sto->Prop}(e:a.1≠[])(g:a.1.length<=8)(q:Q (.bl (vi a),S)):W (dZ 1 hB [whD a] S) Q:=by
 obtain⟨ws,b⟩:=a;cases ws with
 |nil=>exact absurd O e
 |cons u ws=>
  have m:∀c,dX (whD (u::ws,b)) (.int 0) c=Z (.tup (eH (u::ws)),c):=λc=>rfl;refine jz O (by rw[D.unds,mY];rfl) ?_;unfold hB;refine lW ?_;unfold oI;have key:W (mN (b1 oi) (dU (mN (b1 jQ) (dU (eQ 1 [] (hK (m2 (b2 dX) (mV 0) (mC (D.int 0)))) (gN 0) fW (eJ (m2 (b2 dX) (mV 0) (mC (D.int 0))))) dV)) dV) [Z (whD (u::ws,b))] []) λp=>p.1 = .int ((ddI ((u::ws).map λv:Wk=>(v.1:Int))).length:Nat):=by
   refine yM (yM ?_)
   ((try walk_at"w");repeat(simp only[m];try walk_at"w"))
   rw[gW];refine nV (f:=eZ) (λv:Wk=>D.int v.1) (λr=>∃x,r=[x]) O (u::ws) _ ⟨_,O⟩ ?_ λn _=>?_
   ·rintro v o r ⟨x,rfl⟩
    ((try walk_at"w");repeat(simp only[m7];try walk_at"w"))
    exact⟨_,O⟩
   ·walk_at"w";refine ⟨ee (by rw [lM1];exact aC g (by decide)),?_⟩;have j:jt ((u::ws).map fun v:Wk=>D.int v.1)=some ((u::ws).map fun v:Wk=>(v.1:Int)):=by
     have:=wM ((u::ws).map λv:Wk=>v.1);unfold eN at this;rw[bt,bt]at this;exact this
    refine W.of (x:=(.ref 1,[Ob.lst ((u::ws).map λv:Wk=>D.int v.1),.iset (ddI ((u::ws).map λv:Wk=>(v.1:Int)))])) ?_ ?_
    ·unfold jQ;rw [gL (xs:=(u::ws).map fun v:Wk=>D.int v.1) rfl];dsimp only;rw [j,oS1,if_pos (by
      rw[lM1];have:(u::ws).length<=8:=g;unfold scanBound;lia)]
     rfl
    ·refine GD (xs:=ddI ((u::ws).map λv:Wk=>(v.1:Int))) O O
  obtain⟨⟨d,V⟩,k,h⟩:=key;dsimp only at h;subst h;generalize mN (b1 oi) (dU (mN (b1 jQ) (dU (eQ 1 [] (hK (m2 (b2 dX) (mV 0) (mC (D.int 0)))) (gN 0) fW (eJ (m2 (b2 dX) (mV 0) (mC (D.int 0))))) dV)) dV)=ao at *
  ((try walk_at"w");repeat(simp only[k];try walk_at"w"))
  refine⟨O,?_⟩;have i:(((ddI ((u::ws).map λv:Wk=>(v.1:Int))).length:Int) == 1)=vi (u::ws,b):=by
   have h1:=Gp (x:=(u.1:Int)) (l:=ws.map λv:Wk=>(v.1:Int));rw[<- mP1 (f:=λv:Wk=>(v.1:Int))]at h1;have h2:((((ddI ((u::ws).map λv:Wk=>(v.1:Int))).length:Int) == 1))=((ddI ((u::ws).map λv:Wk=>(v.1:Int))).length == 1):=by
    rw[bQ,beq_iff_eq,beq_iff_eq];lia
   rw[h2,h1,List.all_map];show _=(u::ws).all λv=>v.1 == u.1;refine any_congr' λv _=>?_;show((v.1:Int) == (u.1:Int))=(v.1 == u.1);rw[bQ,beq_iff_eq,beq_iff_eq];lia
  rw[mP1]at i;rw[i];exact q
def stepL(m:Nat)(w:ew)(e:E4)(L:List Rw)(a:Wh):Wh:=(a.1.map λu=>eW w u (ddW w a.1 a.2 e L u),eA m a.1 (ddW w a.1 a.2 e L) a.2)
theorem hU.stepL{m:Nat}{w:ew}{e:E4}{L:List Rw}{a:Wh}(h:hU m w a.1 a.2)(ok:∀p∈L,jG p):hU m w (stepL m w e L a).1 (stepL m w e L a).2:=by
 have hc:=qh (m:=m) (ws:=a.1) (f:=ddW w a.1 a.2 e L) (cs:=a.2) h.m8;refine⟨h.web,h.m8,by show(a.1.map _).length<=8;rw[lM1];exact h.few,hc.1,λv c=>?_,hc.2⟩;obtain⟨u,b,rfl⟩:=cf.mp c;exact sN h b (vy ok (h.ky u b))
def fO(m:Nat)(w:ew)(e:E4)(L:List Rw)(a:Wh):Nat->Wh
 |0=>a
 |n+1=>stepL m w e L (fO m w e L a n)
theorem qT{m:Nat}{w:ew}{e:E4}{L:List Rw}{a:Wh}(h:hU m w a.1 a.2)(ok:∀p∈L,jG p):∀n,hU m w (fO m w e L a n).1 (fO m w e L a n).2/\(fO m w e L a n).1.length=a.1.length
 |0=>⟨h,O⟩
 |n+1=>by
  obtain⟨h1,h2⟩:=qT h ok n;exact⟨h1.stepL ok,by show((fO m w e L a n).1.map _).length=_;rw[lM1];exact h2⟩
def kn(s:Nat->Wh)(i:Nat):List (TK×D):=(af i).map λj:Nat=>(Bz (s j),D.int (j:Nat))
theorem wI(s:Nat->Wh)(i:Nat)(a:Wh):d3 (kn s i) (Bz a)=((af i).find? λj=>decide (s j=a)).map λj:Nat=>D.int (j:Nat):=by
 unfold kn d3;rw[List.find?_map,Option.map_map];have:((λp:TK×D=>decide (p.1=Bz a))∘λj:Nat=>(Bz (s j),D.int (j:Nat)))=λj=>decide (s j=a):=by
  funext j
  simp only[Function.comp];rw[bQ,al,al];exact vT
 rw[this];rfl
theorem F1{s:Nat->Wh}{i:Nat}(h:(fst s i)=Y):e6 (kn s i) (Bz (s i)) (.int (i:Nat))=kn s (i+1):=by
 have a:¬ ((kn s i).any λp=>decide (p.1=Bz (s i)))=M:=by
  intro y;obtain⟨p,b,e⟩:=bR.mp y;obtain⟨j,c,rfl⟩:=cf.mp b;have e:=vT.mp (of_decide_eq_true e);unfold fst at h;rw[dw]at h;exact h j c (ah e)
 unfold e6;rw[aj a];unfold kn;rw[List.range_succ,cE];rfl
theorem Lg{S:Sto}{n:Nat}{F:List (TK×D)}{d:D}{k:TK}(h:S[n]?=Z (dO F))(hk:Mi.keyT d=Z k):yn d (.ref n) S=Z (.bl (d3 F k).isSome,S):=by
 cases F with
 |nil=>
  have h':S[n]?=Z (.dct []):=h;simp only[yn,h',hk];rfl
 |cons p F=>
  have h':S[n]?=Z (.dcT (p::F)):=h;simp only[yn,gF,h',hk,oP1]
theorem Ld{S:Sto}{n:Nat}{F:List (TK×D)}{d v:D}{k:TK}(h:S[n]?=Z (dO F))(hk:Mi.keyT d=Z k)(hv:d3 F k=Z v):dX (.ref n) d S=Z (v,S):=by
 cases F with
 |nil=>cases hv
 |cons p F=>
  have h':S[n]?=Z (.dcT (p::F)):=h;simp only[dX,h',hk,oS1,hv,oP1]
theorem Jv{F:List (TK×D)}{d v:D}{k:TK}{n:Nat}{S:Sto}(b:S[n]?=Z (dO F))(hk:Mi.keyT d=Z k)(c:F.length<=100000):hL (.ref n) d v S=Z (.non,S.set n (dO (e6 F k v))):=by
 cases F with
 |nil=>
  have a:S[n]?=Z (.dct []):=b;simp only[hL,a,hk];rfl
 |cons p F=>
  have a:S[n]?=Z (.dcT (p::F)):=b;rw[D0 zL];simp only[hL,a,hk,oS1];rw[ak (bH c (by decide))]
theorem run_W{m:Nat}{w:ew}{e:E4}{L:List Rw}{rs cs:List Nat}{b:Nat}{S:Sto}{Q:D×Sto->Prop}(hw:kb m w)(hm:m<=8)(hst:vI m rs cs)(am:rs≠[])(E:yP e L)(ok:∀ p∈L,jG p)(T:L.length<=4000)(hb:b<=400)(q:Q (kd (fO m w e L (eP rs cs)) b (b+1) 0,S)):W (dZ 4 nW [webD w,mcD e L,standD rs cs,.int b] S) Q:=by
 refine jz O (by simp[D.unds,gy,rB ok,jK];rfl) ?_;unfold nW;refine lW ?_;unfold D2;have ao:=hst.few;have au:=su hw hm hst;generalize C:fO m w e L (eP rs cs)=s at *
 have G:∀n,hU m w (s n).1 (s n).2/\(s n).1≠[]:=λn=>by
  rw[<- C];obtain⟨h1,h2⟩:=qT au ok n;refine⟨h1,λz=>?_⟩;have u:(fO m w e L (eP rs cs) n).1.length=rs.length:=h2.trans (lM1 _);rw[z]at u;exact am (cq.mp u.symm)
 have H:∀n,whD (s (n+1))=oD m w (s n).1 (s n).2 e L:=λn=>by rw[<- C];rfl
 have N:s 0=eP rs cs:=by rw[<- C];rfl
 refine eF (λr V=>V=[]/\r=[Z (webD w),Z (mcD e L),Z (standD rs cs),Z (.int (b:Nat)),Z (whD (s 0)),Y,Y]) ?_ ?_
 ·walk_at"w";refine Dx (by lia) ?_;rw[N];walk_at"w"
 rintro r V ⟨rfl,rfl⟩;refine eF (λr V=>V=[dO (kn s 0)]/\r=[Z (webD w),Z (mcD e L),Z (standD rs cs),Z (.int (b:Nat)),Z (whD (s 0)),Z (.ref 0),Y]) ?_ ?_
 ·((try walk_at"w");repeat(simp only[tL];try walk_at"w"))
  exact⟨O,trivial⟩
 rintro r V ⟨rfl,rfl⟩;generalize U:kd s b (b+1) 0=R at *
 refine zw ?_;unfold hH;rw[d2,xt];walk_at"w";rw[show((b:Int)+1)=((b+1:Nat):Int) by push_cast;rfl,j6,Int.toNat_natCast];refine⟨fQ (by lia),?_⟩;have und_res:∀t d,res s t=Z d->d.und 0=M:=λt d h=>by
  rcases gR h with rfl|⟨i,_,rfl⟩<;>rfl
 refine tP (λi r V=>∃K,i<=b+1/\kd s b (b+1-i) i=R/\V=[dO (kn s i)]/\r=[Z (webD w),Z (mcD e L),Z (standD rs cs),Z (.int (b:Nat)),Z (whD (s i)),Z (.ref 0),K]) _ 0 _ _ ⟨_,bh _,U,O,O⟩ (λ_ _ _ _=>rfl) ?_ ?_
 ·rintro i d o r V ⟨K,hi,c,rfl,rfl⟩;have A:=(gE1.mp o).1;rw[lM1,dA]at A;rw[bN]at *
  have I:d = .int (i:Nat):=by
   rw[gP1,cK A]at o;exact(Option.some.inj o).symm
  subst I;rw[show b+1-i=(b+1-(i+1))+1 by lia,kd]at c;obtain⟨y,k⟩:=G i;have P:=y.few;have f:=Lg (S:=[dO (kn s i)]) (n:=0) O (rH (s i));rw[wI]at f;refine W.of (x:=([Z (webD w),Z (mcD e L),Z (standD rs cs),Z (.int (b:Nat)),Z (whD (s i)),Z (.ref 0),Z (.int (i:Nat))],[dO (kn s i)])) O ?_;dsimp only;unfold wv;cases hmt:vi (s i)with
  |true=>
   have a:res s i=Z (.tup [.str "met",.int (i:Nat)]):=by unfold res;rw[hmt,ak O]
   rw[a]at c;dsimp only at c;refine EE ?_;walk_at"w";refine DR k (by lia) ?_;rw[hmt];walk_at"w";refine .inr ⟨_,O,.inr ⟨_,O,?_⟩⟩;exact⟨O,by rw[c];exact q⟩
  |false=>
   refine eF (λr V=>V=[dO (kn s i)]/\r=[Z (webD w),Z (mcD e L),Z (standD rs cs),Z (.int (b:Nat)),Z (whD (s i)),Z (.ref 0),Z (.int (i:Nat))]) ?_ ?_
   ·walk_at"w";refine DR k (by lia) ?_;rw[hmt];walk_at"w"
   rintro r V ⟨rfl,rfl⟩;cases hf:fst s i with
   |some j=>
    have a:res s i=Z (.tup [.str "round",.int (j:Nat),.int (i:Nat)]):=by unfold res;rw[hmt,aj (by decide),hf];rfl
    rw[a]at c;dsimp only at c;have g:((af i).find? λj=>decide (s j=s i))=Z j:=hf;rw[g]at f;have B:=Ld (S:=[dO (kn s i)]) (n:=0) (v:=.int (j:Nat)) O (rH (s i)) (by rw[wI,g];rfl);refine EE ?_
    ((try walk_at"w");repeat(simp only[f,B];try walk_at"w"))
    refine⟨O,.inr ⟨_,O,.inr ⟨_,O,?_⟩⟩⟩;exact⟨O,by rw[c];exact q⟩
   |none=>
    have a:res s i=Y:=by unfold res;rw[hmt,aj (by decide),hf];rfl
    rw[a]at c;dsimp only at c;have g:((af i).find? λj=>decide (s j=s i))=Y:=hf;rw[g]at f;refine eF (λr V=>V=[dO (kn s i)]/\r=[Z (webD w),Z (mcD e L),Z (standD rs cs),Z (.int (b:Nat)),Z (whD (s i)),Z (.ref 0),Z (.int (i:Nat))]) ?_ ?_
    ·((try walk_at"w");repeat(simp only[f];try walk_at"w"))
     rw[aj (by decide)];trivial
    rintro r V ⟨rfl,rfl⟩;have l:=Jv (F:=kn s i) (v:=.int (i:Nat)) (n:=0) (S:=[dO (kn s i)]) O (rH (s i)) (by unfold kn;rw[lM1,dA];lia);rw[F1 hf]at l;refine eF (λr V=>V=[dO (kn s (i+1))]/\r=[Z (webD w),Z (mcD e L),Z (standD rs cs),Z (.int (b:Nat)),Z (whD (s i)),Z (.ref 0),Z (.int (i:Nat))]) ?_ ?_
    ·((try walk_at"w");repeat(simp only[l];try walk_at"w"))
    rintro r V ⟨rfl,rfl⟩;walk_at"w";refine Gz y E ok T ?_;rw[<- H];walk_at"w";exact .inl ⟨_,by lia,c,O⟩
 ·rintro r V ⟨K,hi,c,rfl,rfl⟩;rw[lM1,dA,bN,cP]at c;refine .inl ⟨O,?_⟩;walk_at"w";exact⟨O,by rw[<- c]at q;exact q⟩
theorem za{m:Nat}{w:ew}{e:E4}{F:List (TK×D)}{L:List Rw}{k:Nat}{Ws:List Wh}{a:Wh}(j:RN e F)(h:RL e (gO F) L)(c:uE m w e F k Ws)(h0:Ws[0]?=Z a):Ws=(af Ws.length).map (fO m w e L a):=by
 have key:∀i,i<Ws.length->Ws[i]?=Z (fO m w e L a i):=by
  intro i
  induction i with
  |zero=>exact λ_=>h0
  |succ i ih=>
   intro hi;have h1:=ih (by lia);have h2:=gG1 hi;obtain⟨l,_⟩:=c.nx i _ _ h1 h2;obtain⟨b,_⟩:=c.ok _ (gM1 h1);rw[h2,l]
   congr 1
   exact(iQ (f:=ddW w (fO m w e L a i).1 (fO m w e L a i).2 e L) (g:=GQ w e F (fO m w e L a i)) λu d=>h.due j (b.ky u d)).symm
 apply bZ;intro i;by_cases hi:i<Ws.length
 ·rw[key i hi,gP1,cK hi];rfl
 ·rw[b4 (by lia),b4 (by rw[lM1,dA];lia)]
theorem AR{S:Sto}{n:Nat}{a:Wh}:∀c:List Wh,yS (ga S (n+4)) (whD a) (c.map whD)=Z (c.any λb=>decide (b=a))
 |[]=>rfl
 |b::c=>by rw[mP1,yS,A8,oS1,AR c,oP1,a0]
theorem HU{S:Sto}{n:Nat}{a:Wh}{Ws:List Wh}(h:S[n]?=Z (.lst (Ws.map whD))):gF (whD a) (.ref n) S=Z (.bl (Ws.any λb=>decide (b=a)),S):=by
 simp only[gF,ua,Gd,h,d7,oS1,eM,show(60:Nat)=56+4 from rfl,AR,oP1]
theorem wY{S:Sto}{n:Nat}{a:Wh}:∀c:List Wh,ug (ga S (n+4)) (whD a) (c.map whD)=Z (c.map λb=>decide (b=a))
 |[]=>rfl
 |b::c=>by rw[mP1,ug,A8,oS1,wY c,oP1,mP1]
theorem Dz(s:Nat->Wh)(i:Nat):(((af i).map s).any λb=>decide (b=s i))=(fst s i).isSome:=by
 unfold fst;rw[bQ,bR,List.find?_isSome];constructor
 ·rintro⟨b,c,e⟩;obtain⟨j,a,rfl⟩:=cf.mp c;exact⟨j,a,e⟩
 ·rintro⟨j,a,e⟩;exact⟨_,cf.mpr ⟨j,a,O⟩,e⟩
theorem GE{S:Sto}{n k i c:Nat}{s:Nat->Wh}{Q:D×Sto->Prop}(h:S[n]?=Z (.lst (((af c).map s).map whD)))(hc:c<=1000)(hi:i<c)(hk:fst s i=Z k)(q:Q (.int k,S)):W (ub (.ref n) (whD (s i)) S) Q:=by
 refine W.of ?_ q;unfold fst at hk;rw[List.find?_range_eq_some]at hk;obtain⟨h1,h2,e⟩:=hk;have d:=aB.mp h2;unfold ub eM;simp only[h,show(60:Nat)=56+4 from rfl,wY,oS1,lM1,dA];rw[ak (by lia),bt];have:(List.findIdx? id ((af c).map ((λb=>decide (b=s i))∘s)))=Z k:=by
  rw[b6];refine⟨by rw[lM1,dA];lia,?_,λj a=>?_⟩
  ·simpa using h1
  ·have:=e j a;simpa using this
 rw[this];rfl
theorem Ik{m:Nat}{w:ew}{s:Nat->Wh}{c j:Nat}{S:Sto}{Q:D×Sto->Prop}(hc:c<=1000)(F:∀ n,hU m w (s n).1 (s n).2/\(s n).1≠[])(C:S[j]? = Z (.lst (((af c).map s).map whD)))(o:S.all (Ob.und S.length)=M)(q:Q (.tup [(iz s c 0).1,.int ((iz s c 0).2:Nat)],S)):W (dZ 1 hC [.ref j] S) Q:=by
 refine lr O (by simp[D.unds,D.und]) ?_;unfold hC;refine lW ?_;unfold oK;have am:=(gE1.mp C).1;have B:(((af c).map s).map whD).length=c:=by rw[lM1,lM1,dA]
 generalize au:iz s c 0=R at *
 have H:∀t d,res s t=Z d->d.und 0=M:=λt d h=>by
  rcases gR h with rfl|⟨i,_,rfl⟩<;>rfl
 refine zw ?_;unfold hH;rw[d2,xt];walk_at"w";refine eK C ?_;rw[B,j6,Int.toNat_natCast];refine⟨fQ (by lia),?_⟩;refine tP (λi r V=>∃I G,i<=c/\iz s (c-i) i=R/\V=S++G/\r=[Z (.ref j),I]) _ 0 _ _ ⟨_,[],bh _,au,by simp,O⟩ (λ_ _ _ _=>rfl) ?_ ?_
 ·rintro i d v r V ⟨I,G,hi,f,rfl,rfl⟩;have u:=(gE1.mp v).1;rw[lM1,dA]at u;rw[bN]at *
  have E:d = .int (i:Nat):=by
   rw[gP1,cK u]at v;exact(Option.some.inj v).symm
  subst E;rw[show c-i=(c-(i+1))+1 by lia,iz]at f;obtain⟨ok,z⟩:=F i;have A:=ok.few;refine W.of (x:=([Z (.ref j),Z (.int (i:Nat))],S++G)) O ?_;dsimp only;unfold kU;have e:∀y,(S++y)[j]?=Z (.lst (((af c).map s).map whD)):=λy=>by rw[gL1 am];exact C
  have l:(((af c).map s).map whD)[i]?=Z (whD (s i)):=by rw[gP1,gP1,cK u];rfl
  have N:∀(d:D) (y:Sto),d.und 0=M->Q (gc S.length (d,S++y))=Q (d,S):=λd y L=>by rw[oe L o]
  cases hmt:vi (s i)with
  |true=>
   have b:res s i=Z (.tup [.str "met",.int (i:Nat)]):=by unfold res;rw[hmt,ak O]
   rw[b]at f;dsimp only at f;refine EE ?_;walk_at"w";refine i9 (e _) l ?_
   try walk_at"w"
   refine AF z A ?_;rw[hmt];walk_at"w";refine .inr ⟨_,O,.inr ⟨_,O,?_⟩⟩;rw[<- f]at q;rw[oe O o];exact q
  |false=>
   refine eF (λr V=>V=S++G/\r=[Z (.ref j),Z (.int (i:Nat))]) ?_ ?_
   ·walk_at"w";refine i9 (e _) l ?_
    try walk_at"w"
    refine AF z A ?_;rw[hmt];walk_at"w"
   rintro r V ⟨rfl,rfl⟩;have key:W (rE (mV 0) j5 (mx (mV 1)) [Z (.ref j),Z (.int (i:Nat))] (S++G)) λp=>p=(.ref (S++G).length,S++(G++[.lst (((af i).map s).map whD)])):=by
    refine D3 (k:=i) O O (e _) ?_;have:(((af c).map s).map whD).take i=((af i).map s).map whD:=by
     rw[<- di,<- di,List.take_range,bA (by lia)]
    rw[this,bG]
   obtain⟨p,K,rfl⟩:=key;generalize P:rE (mV 0) j5 (mx (mV 1))=ao at *
   have g:=HU (a:=s i) (S:=S++(G++[.lst (((af i).map s).map whD)])) (n:=(S++G).length) (Ws:=(af i).map s) (by rw[<- bG,et];rfl);rw[Dz,lA1]at g;cases hf:fst s i with
   |some k=>
    rw[hf]at g;have b:res s i=Z (.tup [.str "round",.int (k:Nat),.int (i:Nat)]):=by unfold res;rw[hmt,aj (by decide),hf];rfl
    rw[b]at f;dsimp only at f;unfold gj;rw[d2];walk_at"w";refine i9 (e _) l ?_
    ((try walk_at"w");repeat(simp only[K,g];try walk_at"w"))
    try simp only[bc,if_true]
    refine i8 ?_;walk_at"w";refine⟨j,_,O,e _,?_⟩
    try walk_at"w"
    refine i9 (e _) l ?_
    try walk_at"w"
    refine GE (e _) hc u hf ?_;walk_at"w";refine .inr ⟨_,O,.inr ⟨_,O,?_⟩⟩;rw[<- f]at q;rw[oe O o];exact q
   |none=>
    rw[hf]at g;have b:res s i=Y:=by unfold res;rw[hmt,aj (by decide),hf];rfl
    rw[b]at f;dsimp only at f;unfold gj;rw[d2];walk_at"w";refine i9 (e _) l ?_
    ((try walk_at"w");repeat(simp only[K,g];try walk_at"w"))
    exact .inl ⟨_,_,by lia,f,O,O⟩
 ·rintro r V ⟨I,G,hi,f,rfl,rfl⟩;rw[lM1,dA,bN,cP]at f;refine .inl ⟨O,?_⟩;walk_at"w";refine eK (by rw[gL1 am];exact C) ?_;rw[B,oe O o];rw[<- f]at q;exact q
theorem Ez{x:Nat}(h:x<=1000):BB (.int (x:Nat))=M:=by unfold BB;rw[al];lia
theorem nS{b:Nat}(h:b<=1000):∃t,∀S,iL (BD b) S=Z (.str t,S):=by
 unfold BD;refine kP ?_ ?_ ?_
 ·simp only[oR,Ez h,bM];decide+kernel
 ·simp only[ka,mT];lia
 ·simp only[oz,yV];lia
theorem zF{s:Nat->Wh}{t:Nat}{d:D}(h:res s t=Z d)(ht:t<=1000):∃x,∀S,iL d S=Z (.str x,S):=by
 rcases gR h with rfl|⟨i,hi,rfl⟩
 ·refine kP ?_ ?_ ?_
  ·simp only[oR,Ez ht,bM];decide+kernel
  ·simp only[ka,mT];lia
  ·simp only[oz,yV];lia
 ·refine kP ?_ ?_ ?_
  ·simp only[oR,Ez ht,Ez (show i<=1000 by lia),bM];decide+kernel
  ·simp only[ka,mT];lia
  ·simp only[oz,yV];lia
theorem AL{d:D}{s:Nat->Wh}{t:Nat}(h:res s t=Z d)(S:Sto):fz d .non S=Z (.bl M,S):=by
 rcases gR h with rfl|⟨i,_,rfl⟩<;>rfl
theorem wd{s:Nat->Wh}{t:Nat}{d:D}(h:res s t=Z d):d.und 0=M:=by
 rcases gR h with rfl|⟨i,_,rfl⟩<;>rfl
theorem zE{m:Nat}{w:ew}{e:E4}{L:List Rw}{rs cs:List Nat}{b c E:Nat}{d:D}{S:Sto}{Q:D×Sto->Prop}(hw:kb m w)(hm:m<=8)(hst:vI m rs cs)(n:rs≠[])(l:yP e L)(ok:∀ p∈L,jG p)(C:L.length<=4000)(hb:b<=400)(hc:c<=500)(h:iz (fO m w e L (eP rs cs)) c 0=(d,E))(o:d = .non->b+1<=c)(q:Q (.bl M,S)):W (dZ 5 gg [webD w,mcD e L,standD rs cs,.tup [d,.int E],.int b] S) Q:=by
 have g:=λ{Q} q=>run_W (S:=[]) (Q:=Q) hw hm hst n l ok C hb q;generalize G:fO m w e L (eP rs cs)=s at *
 have f:∃ R,kd s b (b+1) 0=R/\(∃ t,∀ S,iL R S=some (.str t,S))/\d.und 0=true /\
   ((d = .non/\R=BD b)\/((∀S,fz d .non S=Z (.bl M,S))/\R=if E<=b then d else BD b)):=by
  refine⟨_,O,?_⟩;rcases q9 s c 0 with⟨h1,h2⟩|⟨j,H,h1,h2,B,F⟩
  ·rw[h1]at h;cases h;have:=h2 b (b+1) (o O);rw[this];exact⟨nS (by lia),O,.inl ⟨O,O⟩⟩
  ·rw[B]at h;cases h;rw[bN]at *
   rw[F b (b+1)];refine⟨?_,wd h2,.inr ⟨AL h2,?_⟩⟩
   ·split
    ·exact zF h2 (by lia)
    ·exact nS (by lia)
   ·by_cases z:j<=b
    ·rw[ak z,ak (by lia)]
    ·rw[aj z,aj (by lia)]
 obtain⟨R,A,⟨t,x⟩,k,a⟩:=f;rw[A]at g;refine jz O (by simp[D.unds,D.und,gy,rB ok,jK,k]) ?_;unfold gg;refine lW ?_;unfold lA;have v:∀S,dX (.tup [d,.int E]) (.int 0) S=Z (d,S):=λS=>rfl;have u:∀S,dX (.tup [d,.int E]) (.int 1) S=Z (.int E,S):=λS=>rfl;refine eF (λr V=>V=[]/\r=[Z (webD w),Z (mcD e L),Z (standD rs cs),Z (.tup [d,.int E]),Z (.int (b:Nat)),Z R]) ?_ ?_
 ·rcases a with⟨rfl,rfl⟩|⟨i,rfl⟩
  ·have i:∀S,fz .non .non S=Z (.bl J,S):=λS=>rfl;unfold ea mIf
   ((try walk_at"w");repeat(simp only[v,u,i];try walk_at"w"))
   split<;>rfl
  ·unfold ea mIf
   ((try walk_at"w");repeat(simp only[v,u,i];try walk_at"w"))
   by_cases z:E<=b
   ·rw[ak (by rw[al];lia),ak z]
    try walk_at"w"
    try exact⟨trivial,trivial⟩
   ·rw[aj (by rw[al];lia),aj z]
    try walk_at"w"
    try rfl
 rintro r V ⟨rfl,rfl⟩;walk_at"w";refine g ?_
 ((try walk_at"w");repeat(simp only[x];try walk_at"w"))
 have y:(t == t)=M:=by simp
 rw[y];exact⟨O,q⟩
noncomputable def gE:ew:=[[(1,0)],[(0,0),(2,0)],[(1,1)]]
theorem CW:kb 3 gE:=by
 refine⟨O,λb h=>?_,λb h e a=>?_⟩
 ·simp[gE]at h;rcases h with rfl|rfl|rfl<;>decide
 ·simp[gE]at h;rcases h with rfl|rfl|rfl
  ·simp at a;subst a;exact⟨_,O,by decide⟩
  ·simp at a;rcases a with rfl|rfl<;>exact⟨_,O,by decide⟩
  ·simp at a;subst a;exact⟨_,O,by decide⟩
noncomputable def eB:E4:=(J,J,J,J)
noncomputable def JP(i:Nat):Ky:=⟨i,0,0,0,0⟩
noncomputable def JY(m:Nat)(t:D):D:=.tup [.int (m:Nat),.str "leave",t]
noncomputable def IQ(b:Bool):D:=if b=M then .int 0 else .non
def GN(i:Nat):Rw:=(JP i,JY (i+1) .non)
def DS(b:Bool)(f l:Nat):Rw:=(JP l,JY f (IQ b))
def fc(b:Bool)(f l:Nat):List Rw:=(af l).map GN++[DS b f l]
theorem Bf{m:Nat}{t:D}(hm:m<4000)(ht:t∈i4):gk (JY m t):=⟨m,_,_,O,hm,by simp[mD],ht⟩
theorem Et(b:Bool):IQ b∈i4:=by cases b<;>simp[IQ,i4]
theorem AH{i:Nat}(h:i<4000):(JP i).Ok:=⟨h,bh _,bh _,bh _,bh _⟩
theorem lZ(k:Ky):k.code eB=k.m*4096:=by
 unfold Ky.code;have:jc eB.bs k.xs=0:=by
  show jc [J,J,J,J] [k.x,k.y,k.z,k.w]=0;rw[Gs];rfl
 rw[this];rfl
theorem zB{b:Bool}{f l:Nat}(hf:f<4000)(c:l<3999):∀p∈fc b f l,jG p:=λp a=>by
 rcases aG.mp a with a|a
 ·obtain⟨i,hi,rfl⟩:=cf.mp a;have:=aB.mp hi;exact⟨AH (by lia),Bf (by lia) (by simp[i4])⟩
 ·rw[cM.mp a];exact⟨AH (by lia),Bf hf (Et b)⟩
theorem pC(b:Bool)(f l:Nat):yP eB (fc b f l):=by
 unfold yP fc;rw[cA];refine⟨?_,List.pairwise_singleton _ _,λp c q a=>?_⟩
 ·refine df.mpr (List.pairwise_lt_range.imp λ{i j} h=>?_);rw[lZ,lZ];show i*4096<j*4096;lia
 ·obtain⟨i,hi,rfl⟩:=cf.mp c;rw[cM.mp a,lZ,lZ];have:=aB.mp hi;show i*4096<l*4096;lia
theorem xM(b:Bool)(f l:Nat):(fc b f l).length=l+1:=by
 unfold fc;rw[lA1,lM1,dA];rfl
theorem Il{b:Bool}{f l:Nat}{k:Ky}{p:Rw}(hp:p∈fc b f l)(h:p.1.m=k.m):jV eB (fc b f l) k=p.2:=by
 have:=(hM (f:=λp:Rw=>p.1.code eB) (c:=k.code eB) (a:=p) (pC b f l).nd).mpr ⟨hp,by rw[lZ,lZ,h]⟩;unfold jV;rw[this];rfl
noncomputable def sB(t:Nat):Wh:=([(0,0,t),(2,0,t)],[])
theorem Dp {ws:List Wk}{g:Wk->D}(h:∀u∈ws,dh (g u)="leave"):eA 3 ws g []=[]:=by
 unfold eA;rw[List.filter_eq_nil_iff];intro r _ z;have:gM ws g "mark" r=J:=by
  unfold gM;rw[List.any_eq_false];intro u a y;rw[h u a]at y;rw[bA1]at y;exact absurd y.2 (by decide)
 rw[this]at z;simp at z
theorem zn {b:Bool}{f l t:Nat}{p:Rw}(hp:p∈fc b f l)(h:p.1.m=t)(d:dh p.2="leave"):stepL 3 gE eB (fc b f l) (sB t)=([eW gE (0,0,t) p.2,eW gE (2,0,t) p.2],[]):=by
 have c:∀u∈(sB t).1,ddW gE (sB t).1 (sB t).2 eB (fc b f l) u=p.2:=λu a=>by
  unfold ddW;refine Il hp ?_;simp[sB]at a;rcases a with rfl|rfl<;>exact h
 have e:=iQ (m:=3) (w:=gE) (ws:=(sB t).1) (cs:=(sB t).2) (g:=λ_=>p.2) c;unfold stepL;rw[e,show(sB t).2=[]from rfl,Dp λ_ _=>d];rfl
theorem nC{b:Bool}{f l:Nat}:∀t,t<=l->fO 3 gE eB (fc b f l) (eP [0,2] []) t=sB t
 |0,_=>rfl
 |t+1,h=>by
  show stepL 3 gE eB (fc b f l) (fO 3 gE eB (fc b f l) (eP [0,2] []) t)=_;rw[nC t (by lia),zn (t:=t) (p:=GN t) (aH _ (cf.mpr ⟨t,aB.mpr (by lia),O⟩)) O O];rfl
theorem nB{b:Bool}{f l:Nat}:fO 3 gE eB (fc b f l) (eP [0,2] []) (l+1)=if b=M then([(1,1,f),(1,2,f)],[])else sB f:=by
 show stepL 3 gE eB (fc b f l) (fO 3 gE eB (fc b f l) (eP [0,2] []) l)=_;rw[nC l (nR1 _),zn (t:=l) (p:=DS b f l) (mA1 _ (cM.mpr O)) O (by cases b<;>rfl)];cases b<;>rfl
noncomputable def oy(b:Bool)(f T:Nat):D:=if b=M then .tup [.str "met",.int (T:Nat)]else .tup [.str "round",.int (f:Nat),.int (T:Nat)]
theorem zz{i j:Nat}(h:sB i=sB j):i=j:=by
 unfold sB at h;simp at h;exact h
theorem Hg{b:Bool}{f l:Nat}{t:Nat}(ht:t<=l):res (fO 3 gE eB (fc b f l) (eP [0,2] [])) t=Y:=by
 unfold res;rw[nC t ht,aj (by show¬ ((M&&((2 == 0)&&M))=M);decide)];have:fst (fO 3 gE eB (fc b f l) (eP [0,2] [])) t=Y:=by
  unfold fst;rw[dw];intro i hi z;have hi:=aB.mp hi;have z:=of_decide_eq_true z;rw[nC t ht,nC i (by lia)]at z;have:=zz z;lia
 rw[this];rfl
theorem Hf{b:Bool}{f l:Nat}(hf:f<=l):res (fO 3 gE eB (fc b f l) (eP [0,2] [])) (l+1)=Z (oy b f (l+1)):=by
 unfold res oy;rw[nB];cases b with
 |true=>
  rw[ak O,ak (by show(((1:Nat) == 1)&&(((1:Nat) == 1)&&M))=M;decide),ak O]
 |false=>
  simp only[bF1,if_false];rw[aj (by show¬ ((M&&((2 == 0)&&M))=M);decide)];have:fst (fO 3 gE eB (fc J f l) (eP [0,2] [])) (l+1)=Z f:=by
   unfold fst;rw[List.find?_range_eq_some];refine⟨?_,aB.mpr (by lia),λj a=>?_⟩
   ·rw[al,nB,aj (by decide),nC f hf]
   ·rw[nB,aj (by decide),nC j (by lia)];rw[Bool.not_eq_true',decide_eq_false_iff_not];intro z;have:=zz z;lia
  rw[this];rfl
theorem zA{s:Nat->Wh}{T m:Nat}{d:D}(h:∀t,t<T->res s t=Y)(a:res s T=Z d):∀k t,t<=T->kd s m k t=if T<t+k then d else BD m
 |0,t,ht=>by rw[aj (by lia)];rfl
 |k+1,t,ht=>by
  by_cases z:t=T
  ·subst z;rw[kd,a,ak (by lia)]
  ·rw[kd,h t (by lia)];dsimp only;rw[zA h a k (t+1) (by lia)];by_cases y:T<t+1+k
   ·rw[ak y,ak (by lia)]
   ·rw[aj y,aj (by lia)]
theorem JA{b:Bool}{f l m:Nat}(hf:f<=l):kd (fO 3 gE eB (fc b f l) (eP [0,2] [])) m (m+1) 0=if l+1<=m then oy b f (l+1)else BD m:=by
 rw[zA (T:=l+1) (λt a=>Hg (by lia)) (Hf hf) (m+1) 0 (bh _)];by_cases z:l+1<=m
 ·rw[ak z,ak (by lia)]
 ·rw[aj z,aj (by lia)]
theorem yu{b:Bool}{f T:Nat}(hf:f<=1000)(a:T<=1000):∃x,∀S,iL (oy b f T) S=Z (.str x,S):=by
 unfold oy;cases b with
 |true=>
  refine kP ?_ ?_ ?_
  ·simp only[oR,Ez a,bM];decide+kernel
  ·simp only[ka,mT];lia
  ·simp only[oz,yV];lia
 |false=>
  refine kP ?_ ?_ ?_
  ·simp only[oR,Ez a,Ez hf,bM];decide+kernel
  ·simp only[ka,mT];lia
  ·simp only[oz,yV];lia
noncomputable def rC(f sz l:Nat)(b:Bool)(x6 x7 x8 x9 x10:Option D):Ev:=[Z (.ref 0),Z (.int f),Z (.int sz),Z (.bl b),Z (.tup [.non,.non,.non,.non]),Z (.int l),x6,x7,x8,x9,x10]
theorem yB{o:Ob}{n:Nat}{Q:D×Sto->Prop}(ho:gD o n)(hn:n<=2^40)(q:∀S,Q (.bl M,S)):W (dZ 1 fK [.ref 0] [o]) Q:=by
 refine lr O O ?_;unfold fK;refine lW ?_;unfold jC;refine eF (λr S=>∃(f:Nat) (o:Ob),f<20/\gD o (n+1)/\S=[o]/\r=[Z (.ref 0),Z (.int (f:Nat)),Y,Y,Y,Y,Y,Y,Y,Y,Y]) ?_ ?_
 ·walk_at"w";refine eV (T:=[]) ho (by lia) (by lia) (by lia) λf E e P=>?_;exact⟨f,E,by lia,e,O,O⟩
 rintro r S ⟨f,o1,P,A,rfl,rfl⟩;refine eF (λr S=>∃(sz:Nat) (o:Ob) (X:Ob),0<sz/\sz<=381/\gD o (n+4)/\S=[o,X]/\r=[Z (.ref 0),Z (.int (f:Nat)),Z (.int (sz:Nat)),Y,Y,Y,Y,Y,Y,Y,Y]) ?_ ?_
 ·walk_at"w";refine eV (T:=[]) A (by lia) (by lia) (by lia) λa E e ha=>?_;walk_at"w";refine eV (T:=[]) e (by lia) (by lia) (by lia) λb g s hb=>?_;walk_at"w";refine eV s (by lia) (by lia) (by lia) λc K k hc=>?_;walk_at"w";by_cases C:((c:Int) == 0)=M
  ·rw[ak C];refine i9 (i:=1) (xs:=[.int (1+(a:Int)),.int (41+(b:Int))]) (x:=.int ((41+b:Nat):Int)) O (by push_cast;rfl) ?_;exact⟨41+b,K,_,by lia,by lia,k.more (by lia),O,O⟩
  ·rw[aj C];refine i9 (i:=0) (xs:=[.int (1+(a:Int)),.int (41+(b:Int))]) (x:=.int ((1+a:Nat):Int)) O (by push_cast;rfl) ?_;exact⟨1+a,K,_,by lia,by lia,k.more (by lia),O,O⟩
 rintro r S ⟨sz,E,X,aq,C,e,rfl,rfl⟩;obtain⟨l,hl⟩:∃l,f+sz=l+1:=⟨f+sz-1,by lia⟩;have y:f<=l:=by lia
 refine eF (λr S=>∃(b:Bool) (o:Ob),S=[o,X]/\r=rC f sz l b Y Y Y Y Y) ?_ ?_
 ·walk_at"w";refine eV e (by lia) (by lia) (by lia) λc g s hc=>?_;walk_at"w";rw[show((f:Int)+(sz:Int)-1)=((l:Nat):Int) by lia];exact⟨_,g,O,O⟩
 rintro r S ⟨b,g,rfl,rfl⟩;refine eF (λr S=>S=[g,X,.lst (((af l).map GN).map (fe eB))]/\r=rC f sz l b (Z (.ref 2)) Y Y Y Y) ?_ ?_
 ·unfold rC;walk_at"w";rw[j6,Int.toNat_natCast];refine⟨fQ (by lia),?_⟩;refine nV (f:=λi:Nat=>D.int i) (λi:Nat=>fe eB (GN i)) (λr=>∃x,r=[x,Z (.tup [.non,.non,.non,.non])]) O (af l) _ ⟨_,O⟩ ?_ λr' _=>?_
  ·rintro i hi r ⟨x,rfl⟩;walk_at"w";exact⟨O,_,O⟩
  ·walk_at"w";refine⟨ee (by rw[lM1,dA];lia),?_⟩;exact⟨by rw[bt];rfl,trivial⟩
 rintro r S ⟨rfl,rfl⟩;refine eF (λr S=>S=[g,X,.lst ((fc b f l).map (fe eB))]/\r=rC f sz l b (Z (.ref 2)) Y Y Y Y) ?_ ?_
 ·unfold rC fM;have ed:mIf (BE (mV 3)) (mC (D.int 0)) (mC D.non) [Z (.ref 0),Z (.int f),Z (.int sz),Z (.bl b),Z (.tup [.non,.non,.non,.non]),Z (.int l),Z (.ref 2),Y,Y,Y,Y] [g,X,.lst (((af l).map GN).map (fe eB))]=Z (IQ b,[g,X,.lst (((af l).map GN).map (fe eB))]):=by cases b<;>rfl
  generalize mIf (BE (mV 3)) (mC (D.int 0)) (mC D.non)=ao at *
  rw[d2];refine i8 ?_;walk_at"w";refine⟨2,_,O,O,?_⟩
  try((try walk_at"w");repeat(simp only[ed];try walk_at"w"))
  refine(oM O).mpr ⟨ee (by rw[lM1,lM1,dA];lia),?_⟩;refine⟨?_,trivial⟩;unfold fc;rw[cE];rfl
 rintro r S ⟨rfl,rfl⟩;refine eF (λr S=>S=[g,X,.lst ((fc b f l).map (fe eB))]/\r=rC f sz l b (Z (.ref 2)) (Z (webD gE)) Y Y Y) ?_ ?_
 ·unfold rC;walk_at"w";rfl
 rintro r S ⟨rfl,rfl⟩;refine eF (λr S=>S=[g,X,.lst ((fc b f l).map (fe eB))]/\r=rC f sz l b (Z (.ref 2)) (Z (webD gE)) (Z (oy b f (l+1))) Y Y) ?_ ?_
 ·unfold rC ea mIf;have v:((f:Int)+(sz:Int))=((l+1:Nat):Int):=by lia
  cases b<;>((try walk_at"w");repeat(simp only[v];try walk_at"w"))<;>rfl
 rintro r S ⟨rfl,rfl⟩;refine eF (λr S=>True) ?_ λr S _=>?_
 ·unfold rC hH;rw[d2];have v:((f:Int)+(sz:Int))=((l+1:Nat):Int):=by lia
  have B:(((l+1:Nat):Int)-1)=((l:Nat):Int):=by lia
  ((try walk_at"w");repeat(simp only[v,B];try walk_at"w"))
  rw[gW];have ei:[D.int ((l+1:Nat):Int),D.int 400,D.int ((l:Nat):Int)]=[l+1,400,l].map λi:Nat=>D.int i:=rfl;rw[ei];have H:=zB (b:=b) (f:=f) (l:=l) (by lia) (by lia);have U:=xM b f l;generalize L:[g,X,Ob.lst ((fc b f l).map (fe eB))]=S;have h2:S[2]?=Z (.lst ((fc b f l).map (fe eB))):=by rw[<- L];rfl
  refine gi (λi r V=>V=S /\ ∃am h,r=[Z (.ref 0),Z (.int f),Z (.int sz),Z (.bl b),Z (.tup [.non,.non,.non,.non]),Z (.int l),Z (.ref 2),Z (webD gE),Z (oy b f (l+1)),am,h]) _ 0 _ _ ⟨O,_,_,O⟩ (λ_ _ _ _=>rfl) ?_ ?_
  ·rintro i d I r V ⟨rfl,am,h,rfl⟩;rw [gP1] at I;obtain ⟨m,au,rfl⟩:=oM1.mp I;have F:m<=400:=by
    have:=gM1 au;simp at this;lia
   refine W.of (x:=([Z (.ref 0),Z (.int f),Z (.int sz),Z (.bl b),Z (.tup [.non,.non,.non,.non]),Z (.int l),Z (.ref 2),Z (webD gE),Z (oy b f (l+1)),Z (.int m),h],V)) O ?_;dsimp only;unfold iH;have t:∃R,(if l+1<=m then oy b f (l+1)else BD m)=R /\ ∃x,∀S,iL R S=Z (.str x,S):=by
    refine⟨_,O,?_⟩;split
    ·exact yu (by lia) (by lia)
    ·exact nS (by lia)
   obtain⟨R,t,x,N⟩:=t;refine eF (λr w=>w=V/\r=[Z (.ref 0),Z (.int f),Z (.int sz),Z (.bl b),Z (.tup [.non,.non,.non,.non]),Z (.int l),Z (.ref 2),Z (webD gE),Z (oy b f (l+1)),Z (.int m),Z R]) ?_ ?_
   ·walk_at"w";refine eK h2 ?_;have wq:D.tup [.tup [],.tup ((fc b f l).map (fe eB))]=mcD eB (fc b f l):=rfl;have es:D.tup [.tup [.int 0,.int 2],.tup []]=standD [0,2] []:=rfl;rw[wq,es];refine run_W CW (by lia) ⟨by decide,by decide,λr u=>?_,λr u=>by cases u⟩ (by simp) (pC b f l) H (by lia) F ?_
    ·simp at u;rcases u with rfl|rfl<;>decide
    ·rw[JA y,t];walk_at"w"
   rintro r w ⟨rfl,rfl⟩;have G:W (mIf (mB (m2 (b2 (ic λi j=>decide (j<=i))) (mV 9) (m2 (b2 fA) (mV 1) (mV 2)))) (mV 8) (eD (dU (mC (D.str "open")) (dU (mV 9) dV))) [Z (.ref 0),Z (.int f),Z (.int sz),Z (.bl b),Z (.tup [.non,.non,.non,.non]),Z (.int l),Z (.ref 2),Z (webD gE),Z (oy b f (l+1)),Z (.int m),Z R] w) λp=>p=(R,w):=by
    unfold mIf
    ((try walk_at"w");repeat(simp only[v];try walk_at"w"))
    by_cases z:l+1<=m
    ·rw[ak (by rw[al];push_cast;lia),<- t,ak z]
    ·rw[aj (by rw[al];push_cast;lia),<- t,aj z];rfl
   obtain⟨p,G,rfl⟩:=G;generalize mIf (mB (m2 (b2 (ic λi j=>decide (j<=i))) (mV 9) (m2 (b2 fA) (mV 1) (mV 2)))) (mV 8) (eD (dU (mC (D.str "open")) (dU (mV 9) dV)))=ao at *
   have ex:(x == x)=M:=by simp
   ((try walk_at"w");repeat(simp only[N,G,ex];try walk_at"w"))
   exact⟨_,_,O⟩
  ·rintro r V ⟨rfl,_⟩;exact⟨O,trivial⟩
 ·walk_at"w";unfold gc;split
  ·exact q _
  ·exact q _
theorem HE{c E:Nat}(S:Sto):oh (.int c) (.int E) S=Z (.int ((Min.min E c:Nat):Int),S):=by
 simp only[oh];by_cases h:E<c
 ·rw[ak (by lia),bA (by lia)]
 ·rw[aj (by lia),Nat.min_eq_right (by lia)]
theorem JM{a:Nat}(S:Sto):vt (.int 0) (.int ((a:Int)-1)) S=Z (.int ((a-1:Nat):Int),S):=by
 simp only[vt];by_cases h:1<a
 ·rw[ak (by lia),show((a:Int)-1)=((a-1:Nat):Int) by lia]
 ·rw[aj (by lia),show a-1=0 by lia];rfl
theorem Gi(s:Nat->Wh)(c:Nat):((iz s c 0).1 = .non\/((iz s c 0).1 ≠ .non /\ ∀S,fz (iz s c 0).1 .non S=Z (.bl M,S)))/\(iz s c 0).1.und 0=M/\(iz s c 0).2<=c:=by
 rcases q9 s c 0 with⟨h1,_⟩|⟨j,d,h1,h2,a,_⟩
 ·rw[h1];exact⟨.inl O,O,by show 0+c<=c;lia⟩
 ·rw[a];refine⟨.inr ⟨?_,AL h2⟩,wd h2,by show 0+j<=c;lia⟩;rcases gR h2 with rfl|⟨_,_,rfl⟩<;>exact λz=>by cases z
def rT(N:D)(k:Int)(w:ew)(e:E4)(rs cs:List Nat)(L:List Rw)(x8 x9 x10:Option D):Ev:=[Z N,Z (.int k),Z (.ref 0),Z (webD w),Z (oO e),Z (standD rs cs),Z (mcD e L),Z (.ref 3),x8,x9,x10]
theorem Ix{N:D}{k:Int}{m:Nat}{w:ew}{e:E4}{L:List Rw}{rs cs:List Nat}{b c E:Nat}{d:D}{h:Option D}{S:Sto}{Q:Fl×Ev×Sto->Prop}(hw:kb m w)(hm:m<=8)(hst:vI m rs cs)(a:rs≠[])(g:yP e L)(ok:∀ p∈L,jG p)(j:L.length<=4000)(hb:b<=400)(hc:c<=500)(i:iz (fO m w e L (eP rs cs)) c 0=(d,E))(f:d = .non->b+1<=c)(q:Q (.nx,rT N k w e rs cs L (some (.tup [d,.int E])) h (some (.int b)),S)):
  W (rj (rT N k w e rs cs L (Z (.tup [d,.int E])) h (Z (.int b))) S) Q:=by
 unfold rj;unfold rT at *
 walk_at"w";refine zE hw hm hst a g ok j hb hc i f ?_;walk_at"w";exact q
theorem Ef(ns:List Int)(k:Int)(h0:0<=k)(hk:k<63):W (ri [Z (.rol (ns.map D.int)),Z (.int k),Y,Y,Y,Y,Y,Y,Y,Y,Y] []) λp=>p.1 = .nx /\ ∃r9,p.2.1=Z (.rol (ns.map D.int))::r9/\r9.length=10:=by
 unfold ri;generalize hN:D.rol (ns.map D.int)=N;refine eF (λr S=>∃o,gD o 0/\S=[o]/\r=[Z N,Z (.int k),Z (.ref 0),Y,Y,Y,Y,Y,Y,Y,Y]) ?_ ?_
 ·obtain⟨o,e,v⟩:=wR ns k h0 hk;rw[hN]at e
  ((try walk_at"w");repeat(simp only[e];try walk_at"w"))
  exact⟨o,v,O,trivial⟩
 rintro r S ⟨o,v,rfl,rfl⟩;refine eF (λr S=>∃(m:Nat) (w:ew) (e:E4) (o:Ob),0<m/\m<=8/\kb m w/\gD o 200/\S=[o]/\r=[Z N,Z (.int k),Z (.ref 0),Z (webD w),Z (oO e),Y,Y,Y,Y,Y,Y]) ?_ ?_
 ·walk_at"w";refine GT (T:=[]) v (by lia) O λm w u am au P g=>?_;walk_at"w";refine Gf (T:=[]) g (by lia) O λa b c d o3 ho3=>?_;exact⟨m,w,(a,b,c,d),o3,am,au,P,ho3.more (by lia),O,O⟩
 rintro r S ⟨m,w,e,o,am,au,P,v,rfl,rfl⟩;refine eF (λr S=>∃(rs f:List Nat) (o:Ob),vI m rs f/\rs≠[]/\rs.length<=3/\gD o 400/\S=[o]/\r=[Z N,Z (.int k),Z (.ref 0),Z (webD w),Z (oO e),Z (standD rs f),Y,Y,Y,Y,Y]) ?_ ?_
 ·((try walk_at"w");repeat(simp only[wG];try walk_at"w"))
  rw[P.len];refine uZ (T:=[]) (most:=3) am au (by lia) (by lia) v (by lia) O λrs f u q y hl g=>?_;exact⟨rs,f,u,q,y,hl,g.more (by lia),O,O⟩
 rintro r S ⟨rs,f,o,q,y,hrl,v,rfl,rfl⟩;have hlim:40*rs.length<=3000:=by lia
 refine eF (λr S=>∃F L H o G,RN e F/\RL e (gO F) L/\uE m w e F rs.length H/\H.length=41/\H[0]?=Z (eP rs f)/\gD o 50000/\G.all (Ob.und 0)=M/\G[2]?=Z (.lst (H.map whD))/\S=o::G/\r=rT N k w e rs f L Y Y Y) ?_ ?_
 ·walk_at"w";refine Dl (b:=40) P au q v (by lia) (by lia) hlim λF L H u G hF K hW B C g hG h2=>?_;walk_at"w";exact⟨F,L,H,u,G,hF,K,hW,B,C,g.more (by lia),hG,h2,O,O⟩
 rintro r S ⟨F,L,H,o,G,hF,K,hW,B,C,v,hG,hG2,rfl,rfl⟩;have A:=za hF K hW C;rw[B]at A;have sok:∀n,hU m w (fO m w e L (eP rs f) n).1 (fO m w e L (eP rs f) n).2/\(fO m w e L (eP rs f) n).1≠[]:=λn=>by
  obtain⟨h1,h2⟩:=qT (su P au q) K.ok n;refine⟨h1,λz=>?_⟩;have U:(fO m w e L (eP rs f) n).1.length=rs.length:=h2.trans (lM1 _);rw[z]at U;exact y (cq.mp U.symm)
 obtain⟨j,hd2,hd3⟩:=Gi (fO m w e L (eP rs f)) 41;obtain⟨d,wq⟩:∃d,(iz (fO m w e L (eP rs f)) 41 0).1=d:=⟨_,O⟩;obtain⟨E,X⟩:∃E,(iz (fO m w e L (eP rs f)) 41 0).2=E:=⟨_,O⟩;have hE:iz (fO m w e L (eP rs f)) 41 0=(d,E):=by rw[<- wq,<- X]
 rw[wq]at j hd2;rw[X]at hd3;have i0:∀S,dX (.tup [d,.int E]) (.int 0) S=Z (d,S):=λS=>rfl;have i1:∀S,dX (.tup [d,.int E]) (.int 1) S=Z (.int E,S):=λS=>rfl;refine eF (λr S=>S=o::G/\r=rT N k w e rs f L (Z (.tup [d,.int E])) Y Y) ?_ ?_
 ·unfold rT;walk_at"w";refine Ik (c:=41) (s:=fO m w e L (eP rs f)) (by lia) sok (by rw[<- A];exact hG2) (by rw[bP,v.und,Iz hG];rfl) ?_;rw[hE];walk_at"w"
 rintro r S ⟨rfl,rfl⟩;refine eF (λr S=>∃(o:Ob) (its:List Nat),gD o 50001/\its.length=5/\(∀b∈its,b<=40)/\S=o::(G++[.lst (eN its)])/\r=rT N k w e rs f L (Z (.tup [d,.int E])) (Z (.ref (G.length+1))) Y) ?_ ?_
 ·have c1:((E:Int)+1)=((E+1:Nat):Int):=by push_cast;rfl
  unfold rT;walk_at"w";refine eV v (by lia) (by lia) (by lia) λt u g ht=>?_;have m1:∀S,oh (.int 40) (.int E) S=Z (.int ((min E 40:Nat):Int),S):=λS=>HE (c:=40) S;have m2':∀S,oh (.int 40) (.int ((E+1:Nat):Int)) S=Z (.int ((min (E+1) 40:Nat):Int),S):=λS=>HE (c:=40) S
  ((try walk_at"w");repeat(simp only[i1,m1,JM,c1,m2'];try walk_at"w"))
  refine⟨u,[0,t,min E 40-1,min E 40,min (E+1) 40],g,O,λb l=>?_,O,trivial⟩;simp only[aF,bL,or_false]at l;rcases l with rfl|rfl|rfl|rfl|rfl<;>lia
 rintro r S ⟨o1,its,ho1,hil,hib,rfl,rfl⟩;refine eF (λr S=>∃(o:Ob) (its:List Nat),its.length<=6/\(∀b∈its,b<=400/\(d = .non->b+1<=41))/\S=o::(G++[.lst (eN its)])/\r=rT N k w e rs f L (Z (.tup [d,.int E])) (Z (.ref (G.length+1))) Y) ?_ ?_
 ·have base:∀b∈its,b<=400/\(d = .non->b+1<=41):=λb l=>by have:=hib b l;exact⟨by lia,λ_=>by lia⟩
  have gl:∀(a:Ob) (x:List Nat),(a::(G++[Ob.lst (eN x)]))[G.length+1]?=Z (.lst (eN x)):=λa x=>by rw[gC1,et];rfl
  unfold rT;rcases j with j|⟨hdn,j⟩
  ·have hn:∀S,fz d .non S=Z (.bl J,S):=λS=>by rw[j];rfl
   ((try walk_at"w");repeat(simp only[i0,hn];try walk_at"w"))
   exact⟨_,its,by lia,base,O,trivial⟩
  ·((try walk_at"w");repeat(simp only[i0,j];try walk_at"w"))
   split
   ·refine eV ho1 (by lia) (by lia) (by lia) λt u g ht=>?_;walk_at"w";split
    ·refine i8 ?_;walk_at"w";refine⟨G.length+1,eN its,O,gl _ _,?_⟩
     try walk_at"w"
     refine(oM (gl _ _)).mpr ⟨ee (by rw[ix];lia),?_⟩;refine⟨u,its++[400],by rw[lA1,hil];decide,λb l=>?_,?_,trivial⟩
     ·rcases aG.mp l with l|l
      ·exact base b l
      ·rw[cM.mp l];exact⟨by lia,λz=>absurd z hdn⟩
     ·rw[c7,c4 _ _ (nR1 _),cP,c5];simp[eN]
    ·exact⟨_,its,by lia,base,O,trivial⟩
   ·exact⟨_,its,by lia,base,O,trivial⟩
 rintro r S ⟨u,its,hil2,R,rfl,rfl⟩;generalize hS:u::(G++[Ob.lst (eN its)])=S;have h9:S[G.length+1]?=Z (.lst (eN its)):=by rw[<- hS,gC1,et];rfl
 have key:W (rE (mV 9) j5 (mx (mC (D.int 2))) (rT N k w e rs f L (Z (.tup [d,.int E])) (Z (.ref (G.length+1))) Y) S) λp=>p=(.ref S.length,S++[.lst (eN (its.take 2))]):=by
  refine D3 (k:=2) O O h9 ?_;unfold eN;rw[di]
 obtain⟨p,ek,rfl⟩:=key;generalize rE (mV 9) j5 (mx (mC (D.int 2)))=ao at *
 unfold hH;rw[d2];unfold rT at ek ⊢
 ((try walk_at"w");repeat(simp only[ek];try walk_at"w"))
 have hl9:=(gE1.mp h9).1;refine(Bv (S:=S++[.lst (eN (its.take 2))]) (a:=G.length+1) (b:=S.length) (xs:=eN its) (ys:=eN (its.take 2)) (by rw[gL1 hl9];exact h9) (by rw[et];rfl)).mpr ⟨ee (by rw[ix,ix,aQ];lia),?_⟩;rw[Ai];refine eK (xs:=eN (its++its.take 2)) (by rw[et];rfl) ?_;generalize hV:S++[Ob.lst (eN (its.take 2))]++[Ob.lst (eN (its++its.take 2))]=V;have Q:V[(S++[Ob.lst (eN (its.take 2))]).length]?=Z (.lst (eN (its++its.take 2))):=by rw[<- hV,et];rfl
 refine gi (λi r aq=>aq=V /\ ∃I,r=rT N k w e rs f L (Z (.tup [d,.int E])) (Z (.ref (G.length+1))) I) _ 0 _ _ ⟨O,_,O⟩ (λi r aq ⟨h,_⟩=>by rw[h];exact il Q) ?_ ?_
 ·rintro i x hx r aq ⟨rfl,I,rfl⟩;unfold eN at hx;rw [gP1] at hx;obtain ⟨b,l,rfl⟩:=oM1.mp hx;have hbm:b∈its:=by
   rcases aG.mp (gM1 l)with h|h
   ·exact h
   ·exact cN h
  obtain⟨hb4,hbn⟩:=R b hbm;refine W.of (x:=(rT N k w e rs f L (Z (.tup [d,.int E])) (Z (.ref (G.length+1))) (Z (.int b)),aq)) O ?_;dsimp only;refine Ix P au q y K.inc K.ok K.len hb4 (c:=41) (by lia) hE hbn ?_;exact⟨O,O,_,O⟩
 ·rintro r aq ⟨rfl,I,rfl⟩;exact⟨O,_,O,O⟩
theorem truth(ns:List Int)(Q:ns.length<=63):∃S,m_law [.rol (ns.map D.int)] []=Z (.bl M,S):=by
 have key:W (m_law [.rol (ns.map D.int)] []) λp=>p.1 = .bl M:=by
  unfold m_law;refine lW ?_;unfold Bn;have A:(D.rol (ns.map D.int)).und 0=M:=by simp[D.und,lI]
  have I:=λk K B=>Ef ns k K B;obtain⟨ao,H,w⟩:=wR ns 0 (by lia) (by lia);generalize C:D.rol (ns.map D.int)=N at *
  have b:∀S,eU N S=Z (.int ns.length,S):=λS=>by rw[<- C];simp[eU,d7]
  refine eF (λr S=>r=[Z N,Y,Y,Y,Y,Y,Y,Y,Y,Y,Y]) ?_ ?_
  ·((try walk_at"w");repeat(simp only[H];try walk_at"w"))
   refine yB w (by lia) λS=>?_;walk_at"w"
  rintro r au rfl;refine eF (λr S=>r=[Z N,Y,Y,Y,Y,Y,Y,Y,Y,Y,Y]) ?_ ?_
  ·simp only [hH,d2,xt,dU,mN,mC,mV,dV,b1,b2,vt,oh,b,eG,oS1,dg,Hh];have F:∃ t:Nat,t<=4/\(if (if (ns.length:Int)<4 then (ns.length:Int) else 4)>1 then (if (ns.length:Int)<4 then (ns.length:Int) else 4) else 1)=(t:Int):=by
    by_cases h1:(ns.length:Int)<4
    ·rw[ak h1];by_cases h2:(ns.length:Int)>1
     ·rw[ak h2];exact⟨ns.length,by lia,O⟩
     ·rw[aj h2];exact⟨1,by lia,O⟩
    ·rw[aj h1];exact⟨4,by lia,by decide⟩
   obtain⟨t,P,te⟩:=F;rw[te,Int.toNat_natCast];refine⟨fQ (by lia),?_⟩;refine gi (λ_ r S=>r=[Z N,Y,Y,Y,Y,Y,Y,Y,Y,Y,Y]) _ 0 _ _ O (λ_ _ _ _=>rfl) ?_ ?_
   ·rintro i d G r S rfl;obtain ⟨k,e,L,R⟩:=tK (gM1 G);subst e;simp only [gN,c7,c5,eG];obtain ⟨⟨f,r2,T⟩,am,z,y,c,j⟩:=I k L (by lia);dsimp only at z c;subst z;subst c;obtain ⟨o,u,m,g,v,l,s,n,q,a,E⟩:∃ o u m g v l s n q a,y=[o,u,m,g,v,l,s,n,q,a]:=by
     match y,j with
     |[o,u,m,g,v,l,s,n,q,a],_=>exact⟨_,_,_,_,_,_,_,_,_,_,O⟩
    subst E;refine W.of (x:=(.nx,[Z N,Y,Y,Y,Y,Y,Y,Y,Y,Y,Y],S)) ?_ ⟨O,O⟩;unfold ww pO;simp[fV,kG,D.und,A,am]
   ·rintro r S rfl;exact⟨O,O⟩
  ·rintro r S rfl;simp only[eS,mC,oS1,eG]
 obtain⟨⟨d,S⟩,e,h⟩:=key;dsimp only at h;exact⟨S,by rw[e,h]⟩
end Law
end
open PySem PySem.W PyProof.Rows
namespace PySem.W.Fast
def tw14788607708629816093:=()
def tw18039251773844771532:=()
def tw17953487035537156607:=()
def tw14362458746412009769:=()
def tw10630795741028412044:=()
def tw1263471647014745942:=()
def tw660699135328697552:=()
def tw12543728906441351133:=()
def tw14673371556828130808:=()
def tw17177240704914402693:=()
def tw231643024363871460:=()
def tw13118922722063212264:=()
def tw4234445654690879764:=()
def tw17957243314482576026:=()
def tw7258615128033579568:=()
def tw16235336171350083407:=()
def tw18223263013037487148:=()
def tw5477271421160225557:=()
def tw9056384081177737496:=()
def tw9026849060912860513:=()
def tw16184800077853584657:=()
def tw7967430653447551197:=()
def tw13713727851455920161:=()
def tw18232361090836504249:=()
def tw15086052963552770501:=()
def tw8145423696367897974:=()
def tw726197737305193156:=()
def tw14188027956166235540:=()
def tw11516590299350441729:=()
def tw4283194965795415576:=()
def tw3193483531014950146:=()
def tw2477579977979076332:=()
def tw11352045925357656273:=()
def tw18185794992387207960:=()
def tw10853500020601024123:=()
def tw14910821565172217604:=()
def tw4101831521894303254:=()
def tw1356473553959320182:=()
def tw16888471942259447426:=()
def tw15716088354126863839:=()
def tw17531480852769977927:=()
def tw11779005376418621129:=()
def tw14731785297911236236:=()
def tw6555953310482661570:=()
def tw2681982747503440326:=()
def tw13759717362135899967:=()
def tw6308032446340718688:=()
def tw15358278287736274598:=()
def tw9805343125059246212:=()
def tw17001007357008665788:=()
def tw8368135174377218470:=()
def tw16806927433910279405:=()
def tw8448574420908207175:=()
def tw13196682430896165727:=()
def tw17927600736809956056:=()
def tw9809953835814253087:=()
def tw3236323334115611670:=()
def tw5952207021950636559:=()
def tw8710228663370213993:=()
def tw17543082227989027356:=()
def tw18324613492402163265:=()
def tw17321578925589308497:=()
def tw6740746179068890905:=()
def tw7214368187954392966:=()
def tw8644772197328810824:=()
def tw14978464537783621564:=()
def tw14275996605362546973:=()
def tw8462453661065582892:=()
def tw11361633999624076490:=()
def tw16983741541560606201:=()
def tw2613707617968422374:=()
def tw8037292399336694121:=()
def tw17754541121914985283:=()
def tw1968167023459634143:=()
def tw7257298735441908764:=()
def tw413065252911560053:=()
def tw16910399774923602471:=()
def tw18094373631685978196:=()
def tw4097862198646898507:=()
def tw2036089806616913842:=()
def tw7672254586802579194:=()
def tw2306555479371986612:=()
def tw16730933017617310325:=()
def tw8400141294623850714:=()
def tw10684969223836968204:=()
def tw18179647066135330242:=()
def tw2099436809838386137:=()
def tw5159707175061442252:=()
def tw11481612510236644915:=()
def tw16031329846724651502:=()
def tw6210714979218968307:=()
def tw6179037451401925535:=()
def tw12708179430094155889:=()
def tw12494414574842964360:=()
def tw13300620441127879233:=()
def tw10362292840114532641:=()
def tw4292523456602579261:=()
def tw14805200583649874074:=()
def tw1007840486418654392:=()
def tw373635858659904411:=()
def tw6773993628214593473:=()
def tw7800099879369799232:=()
def tw6410988404765666768:=()
def tw10548954512216321199:=()
def tw1064517074555381079:=()
def tw6255419414625033169:=()
def tw12998885738494065759:=()
def tw14704638193673493643:=()
def tw3139004694533238359:=()
def tw8411052206262534380:=()
def tw169612457818598683:=()
def tw6769456326564440699:=()
def tw17142183118378844490:=()
def tw8715108874035188518:=()
def tw13461047444854769940:=()
def tw4629138093877445487:=()
def tw6866044064058776308:=()
def tw17947000132405407430:=()
def tw13380684493235680004:=()
def tw1516655027953088405:=()
def tw14094016404576275213:=()
def tw12345747676124720629:=()
def tw12342206040590752460:=()
def tw11008547826242322765:=()
def tw7846549297972216142:=()
end PySem.W.Fast
set_option maxRecDepth 100000 in
set_option maxHeartbeats 0 in
theorem PySem.Challenge.cw_ringmeet_k30_what_comes_of_runs_holds : PySem.Challenge.rw_ringmeet_k30_what_comes_of_runs.Holds := by
 w_on;refine PySem.W.holds_law (by decide+kernel) fun d=>?_;k_head;(case hw=>w_witness2)
 k_fill
 refine Mi.walk_m (l:=PySem.Challenge.rw_ringmeet_k30_what_comes_of_runs) (m:=Law.m_law) (k:=6) (x:="_law_script") rfl rfl ⟨rfl,by decide,by decide,rfl⟩ (fun w h Y=>PySem.W.kIn_of Y) Law.truth ?F
 case F=>
  intro w mg f h e G b;refine' Law.all_mk e G b ?a1 ?a2 ?a3 ?a4 ?a5 ?a6 ?a7 ?a8 ?a9 ?a10 ?a11 ?a12 ?a13 ?a14 ?a15 ?a16 ?a17 ?a18 ?a19 ?a20 ?a21 ?a22 ?a23 ?a24 ?a25 ?a26 ?a27 ?a28 ?a29 ?e_PARTS ?h1 ?h2 ?h5 ?h8 ?h11 ?z
  all_goals try (refine' Mi.Ih ?a ?l ?c ?k;(case a=>k_is);(case l=>k_is);(case c=>k_is);(case k=>k_is))
  (case e_PARTS=>k_is)
  (case h1=>k_is)
  (case h2=>k_is)
  (case h5=>k_is)
  (case h8=>k_is)
  (case h11=>k_is)
  (case z=>exact ⟨by k_is,by k_is,by k_is,by k_is,by k_is,by k_is,by k_is,by k_is,by k_is,by k_is,by k_is,by k_is,by k_is,by k_is,trivial⟩)

