import PyProof.Rows.All
import Wide.All
import OpenK.AllK
import Wide.FinOn
import Lean
import PyProof.EqAt
import PyProof.EqKinds
import PyProof.TupleCall
import PySem.Challenge.RW_ringmeet_k88_whole_quiet_however_slow
set_option Elab.async false
set_option compiler.extract_closed false
set_option genSizeOf false
set_option bootstrap.genMatcherCode false
set_option linter.all false
set_option maxRecDepth 100000
set_option maxHeartbeats 4000000
open List renaming getElem?_eq_some_iff → gE1, getElem?_append_left → gL1, getElem?_eq_getElem → gG1, mem_of_getElem? → gM1, getElem?_set_ne → gS1, length_append → lA1, length_map → lM1, getElem?_cons_succ → gC1, mem_cons_of_mem → mC1, mem_cons_self → mS1, getElem?_map → gP1, getElem?_append_right → gR1, size_toArray → sT1, map_cons → mP1, length_cons → lC1, length_replicate → lR1, mem_append_right → mA1
open Option renaming bind_eq_some_iff → oB1, map_eq_some_iff → oM1, bind_some → oS1, map_some → oP1
open Nat renaming le_refl → nR1, lt_of_lt_of_le → nL1, ne_of_lt → nN1, ne_of_gt → nG1
open Bool renaming and_eq_true → bA1, false_eq_true → bF1
open Array renaming getElem?_eq_getElem → aG1, getElem?_toList → aT1
open PySem.W renaming Frag → Fg1, nsIn → wN1, keepIn → wK1, codeIn → wC1, fnOf → wF1, mg_of → wM1
open PySem.Heap renaming get?_push_of_some → hP1, get?_push_size → hS1, lt_size → hL1, size_push → hZ1, get?_update_ne → hU1, get?_update_self → hW1
open PySem renaming wpAny_bind → wB1, wpAny_pure → wP1, wpAny_setField_rec → wS1, wpAny_newObj_type → wO1, codeAny_builtin → wD1, wpAny_call_entry → wE1
open List renaming take_nil → aw, drop_nil → ay, mem_filter → aB, mem_range → aC, filterMap_cons → aF, mem_cons → aG, mem_append → aH, mem_append_left → aI, getElem?_set_self → aJ, mem_filterMap → aM, any_eq_false → aN, append_nil → aP, nodup_cons → aQ, replicate → aR, length_take → aT, getElem?_replicate → aU, getElem?_take_of_lt → aV, take_sublist → aW, length_set → aX, replicate_succ → aY, flatten_cons → aZ, append_assoc → bc, foldl_cons → bd, length_singleton → bf, nil_append → bg, map_nil → bh, find?_cons → bj, any_cons → bm, length_nil → bn, cons_append → bt, prefix_rfl → bv, nodup_nil → bw, getElem?_of_mem → bA, map_map → bD, prefix_append → bE, nodup_append → bG, all_eq_true → bI, drop_drop → bK, forIn_cons → bL, lookup_cons → bM, getD_eq_getElem?_getD → bP, zipIdx_cons → bQ, not_mem_nil → bR, all_cons → bV, any_eq_true → bX, getElem_mem → bY, zip_cons_cons → bZ, drop_eq_getElem_cons → b4, cons_prefix_cons → b6, ext_getElem? → b7, getElem?_eq_none → b8, findIdx?_eq_some_iff_getElem → ca, take_of_length_le → cc, pairwise_cons → cf, take_length → cg, mem_map → cj, getElem?_toArray → cm, mapM_toArray → cq, all_toArray → cr, length_eq_zero_iff → cu, pairwise_iff_getElem → cw, pairwise_append → cC, getElem?_drop → cD, drop_sublist → cE, pairwise_lt_range → cF, map_append → cG, take_succ → cH, foldl_append → cI, length_eraseIdx_of_lt → cK, take_append_drop → cM, eraseIdx_eq_take_drop_succ → cN, getElem?_range → cO, length_pos_iff → cP, mem_of_mem_take → cQ, mem_of_mem_drop → cR, contains_iff_mem → cT, forall_mem_nil → cU, length_drop → cV, perm_append_comm → cW, take_succ_cons → cX, take_zero → cY, extract_eq_take_drop → c4, mem_singleton → c5, mem_reverse → c6, drop_zero → c7, set_append_right → c9, set_cons_zero → da, set_cons_succ → db, flatten_append → de, take_left → df, take_append_of_le_length → dg, map_congr_left → dk, filter_cons → dq, contains_cons → dr, pairwise_map → dw, nodup_range → dy, getElem?_cons_zero → dz, getElem?_concat_length → dA, length_filter_le → dB, zipWith → dE, zipWith_cons_cons → dF, length_range → dG, range_succ → dH, filter_append → dI, all_append → dJ, length_zipIdx → dL
open Option renaming some → az, isSome_iff_exists → aS, isSome_map → bo, getD_some → cb
open Nat renaming lt_irrefl → aA, le_trans → aD, le_of_lt → aE, le_succ → a0, le_of_not_lt → bi, lt_trans → bq, zero_le → br, add_assoc → bu, le_add_right → bB, add_sub_cancel_left → bC, not_lt_zero → bF, min_eq_left → bH, lt_succ_self → bJ, lt_of_le_of_lt → bN, le_of_succ_le → bO, zero_add → bT, lt_or_ge → b5, lt_succ_of_lt → cJ, sub_self → cS, mul_le_mul → di, mul_le_mul_right → dD
open Array renaming length_toList → aK, mem_toList_iff → aO, perm_iff_toList_perm → ci, mem_of_getElem? → ck, getElem?_eq_none → cv, toList_append → cy, toList_push → cA, toList_extract → cB, getElem_mem → cZ, toList_reverse → c8
open Bool renaming false_ne_true → aL, and_true → bS, or_eq_true → bU, eq_iff_iff → bW, not_true → b9, not_false → cp, and_self → dj
open PySem renaming Value → dM, Shared → dN, Addr → dP, Program → dQ, Around → dR, World → dS, mainGlobals → dU, starEach → dV, sizeLine → dW, wpAny → dX, Heap → dY, FuncData → dZ, Stmt → d0, Scope → d3
open Option renaming some → Z, none → Y
open Bool renaming true → M, false → J
theorem iu0(h0:True:=by repeat first|rfl|exact .inl rfl|assumption|apply Or.inr)(h1:True:=by first|decide|omega)(h2:True:=by intro _;rfl)(h3:True:=by decide+kernel):True:=h0
namespace iu0
end iu0
open iu0 renaming _auto_1 → au0, _auto_2 → bu0, _auto_3 → du0, _auto_4 → gu0
theorem Mi.O{α}{a:α}:a=a:=rfl
open Mi (O)
theorem Mi.am{p:Prop}[Decidable p]:(decide p=true)=p:=decide_eq_true_eq
theorem Mi.ak{c:Prop}{h:Decidable c}(a:c){α:Sort _}{t e:α}:ite c t e=t:=if_pos a
theorem Mi.aj{c:Prop}{h:Decidable c}(a:¬c){α:Sort _}{t e:α}:ite c t e=e:=if_neg a
theorem Mi.ai{p:Prop}[Decidable p]:¬p→decide p=false:=decide_eq_false
theorem Mi.ah{p:Prop}[Decidable p]:p→decide p=true:=decide_eq_true
open List renaming range → af
open Mi (am ak aj ai ah)
noncomputable section
namespace L2
open PySem PySem.Spec PyProof.Rows
abbrev Key:=Sum Int Str
noncomputable def qx:Key->dM->Bool
 | .inl k,v=>Value.isInt k v
 | .inr x,v=>Value.isStrOf x v
noncomputable def Kx(w:dS):Key->Int
 | .inl k=>hashInt k
 | .inr x=>hashStr w x
theorem fx:∀{k:Key} {v:dM},qx k v=M->(∃i t,k=Sum.inl i/\v=Value.int i t)\/(∃x t,k=Sum.inr x/\v=Value.str x t)
 | .inl i,v,h=>by
  obtain⟨t,e⟩:=Value.isInt_shape (k:=i) (v:=v) h;exact .inl ⟨i,t,O,e⟩
 | .inr x,v,h=>by
  obtain⟨t,e⟩:=Value.isStrOf_shape (x:=x) (v:=v) h;exact .inr ⟨x,t,O,e⟩
theorem yE(i:Int)(t:Tok):qx (.inl i) (.int i t)=M:=by simp[qx,Value.isInt]
theorem yD(x:Str)(t:Tok):qx (.inr x) (.str x t)=M:=by simp[qx,Value.isStrOf]
theorem GR(a b:Int):decide ((Sum.inl a:Key)=Sum.inl b)=(a == b):=by
 by_cases e:a=b
 ·subst e;simp
 ·have h:¬ (Sum.inl a:Key)=Sum.inl b:=λq=>e (Sum.inl.inj q);rw[ai h];exact(beq_eq_false_iff_ne.mpr e).symm
theorem GN(a b:Str):decide ((Sum.inr a:Key)=Sum.inr b)=decide (a=b):=by
 by_cases e:a=b
 ·subst e;simp
 ·have h:¬ (Sum.inr a:Key)=Sum.inr b:=λq=>e (Sum.inr.inj q);rw[ai h,ai e]
theorem GQ(a:Int)(b:Str):decide ((Sum.inl a:Key)=Sum.inr b)=J:=ai (λq=>nomatch q)
theorem GO(a:Str)(b:Int):decide ((Sum.inr a:Key)=Sum.inl b)=J:=ai (λq=>nomatch q)
def fu(prog:dQ)(w:dS):PySem.KeyKind prog w Key where
 is:=qx
 hash:=Kx w
 inj:=λv a b ha hb=>by
  rcases fx ha with⟨i,t,rfl,rfl⟩|⟨x,t,rfl,rfl⟩
  ·rcases fx hb with⟨j,u,rfl,e⟩|⟨y,u,rfl,e⟩
   ·injection e with e1 _;rw[e1]
   ·exact nomatch e
  ·rcases fx hb with⟨j,u,rfl,e⟩|⟨y,u,rfl,e⟩
   ·exact nomatch e
   ·injection e with e1 _;rw[e1]
 byValue:=λk v h=>by
  rcases fx h with⟨i,t,rfl,rfl⟩|⟨x,t,rfl,rfl⟩<;>rfl
 pyHash:=λhv h=>by
  rcases fx hv with⟨i,t,rfl,rfl⟩|⟨x,t,rfl,rfl⟩
  ·exact wpAny_pyHash_int h
  ·exact wpAny_pyHash_str h
 eqBool:=λhu hv h=>by
  rcases fx hu with⟨i,t,rfl,rfl⟩|⟨x,t,rfl,rfl⟩
  ·rcases fx hv with⟨j,u,rfl,rfl⟩|⟨y,u,rfl,rfl⟩
   ·rw[GR]at h;exact wpAny_eqBool_int h
   ·rw[GQ]at h;exact SeqAt.EqAt.int_str i t y u _ _ _ _ h
  ·rcases fx hv with⟨j,u,rfl,rfl⟩|⟨y,u,rfl,rfl⟩
   ·rw[GO]at h;exact SeqAt.EqAt.str_int x t j u _ _ _ _ h
   ·rw[GN]at h;exact wpAny_eqBool_str h
 «strs» :=λk x t v h=>by
  rcases fx h with⟨i,u,rfl,e⟩|⟨y,u,rfl,e⟩
  ·exact nomatch e
  ·injection e with e1 _;subst e1;cases v<;>rfl
theorem ug(prog:dQ)(w:dS)(i:Int)(t:Tok):(fu prog w).is (.inl i) (.int i t)=M:=yE i t
theorem uf(prog:dQ)(w:dS)(x:Str)(t:Tok):(fu prog w).is (.inr x) (.str x t)=M:=yD x t
inductive V where
 |non|bl (b:Bool)|int (i:Int)|str (x:Str)|byt (b:Array UInt8)|flt (b:UInt64)|ref (a:dP)|ty (n:String)
 deriving DecidableEq
def ew:V->dM->Prop
 | .non,u=>u=Value.none
 | .bl b,u=>u=Value.bool b
 | .int i,u=>∃t,u=Value.int i t
 | .str x,u=>∃t,u=Value.str x t
 | .byt b,u=>∃t,u=Value.bytes b t
 | .flt b,u=>∃t,u=Value.float b t
 | .ref a,u=>u=Value.ref a
 | .ty n,u=>u=Value.type n
abbrev eI:List V->List dM->Prop:=Paired ew
theorem eI.length{xs:List V}{a:List dM}(r:eI xs a):xs.length=a.length:=Paired.length r
theorem eI.get:∀{xs:List V} {a:List dM} {i:Nat} {x:V},eI xs a->xs[i]?=Z x -> ∃u,a[i]?=Z u/\ew x u:=by
 intro xs a i x h e
 induction h generalizing i with
 |nil=>cases e
 |cons r t ih=>cases i with
  |zero=>cases e;exact⟨_,O,r⟩
  |succ i=>exact ih (i:=i) e
theorem eI.set{x:V}{u:dM}(r:ew x u):∀{xs:List V} {a:List dM} (i:Nat),eI xs a->eI (xs.set i x) (a.set i u):=by
 intro xs a i h
 induction h generalizing i with
 |nil=>exact .nil
 |cons q t ih=>cases i with
  |zero=>exact .cons r t
  |succ i=>exact .cons q (ih i)
theorem eI.append:∀{xs ys:List V} {a ws:List dM},eI xs a->eI ys ws->eI (xs++ys) (a++ws):=by
 intro xs ys a ws h s
 induction h with
 |nil=>exact s
 |cons r t ih=>exact .cons r ih
theorem eI.take:∀{xs:List V} {a:List dM} (n:Nat),eI xs a->eI (xs.take n) (a.take n):=by
 intro xs a n h
 induction h generalizing n with
 |nil=>rw[aw,aw];exact .nil
 |cons r t ih=>cases n with
  |zero=>exact .nil
  |succ n=>exact .cons r (ih n)
theorem eI.drop:∀{xs:List V} {a:List dM} (n:Nat),eI xs a->eI (xs.drop n) (a.drop n):=by
 intro xs a n h
 induction h generalizing n with
 |nil=>rw[ay,ay];exact .nil
 |cons r t ih=>cases n with
  |zero=>exact .cons r t
  |succ n=>exact ih n
def mH:Option V->Option dM->Prop
 |some v,Z u=>ew v u
 |none,Y=>True
 |_,_=>False
def KV{κ:Type}:List (κ×V)->List (κ×dM)->Prop:=Paired λ(p:κ×V) (q:κ×dM)=>p.1=q.1/\ew p.2 q.2
noncomputable def kV:Key->V
 | .inl i=>.int i
 | .inr x=>.str x
inductive HO where
 /-- a list -/
 |lst (xs:List V)
 /-- a tuple (never changes) -/
 |tup (xs:List V)
 /-- a dict whose keys are ints and texts; one whose keys are tuples of ints and texts (the empty one is both) -/
 |dK (kvs:List (Key×V))|dT (kvs:List (List Key×V))
 /-- a set of ints: its members, its size -/
 |set (S:Int->Bool) (n:Nat)
 /-- an instance of the class at C, its dict at dx, its attributes -/
 |ins (C dx:dP) (fs:List (Str×V))
 /-- the dict of the instance at x -/
 |own (x:dP)
 /-- the dict of an exception -/
 |xd (fs:List (Str×V))
 /-- a bound method, f of x -/
 |met (f x:dP)
 /-- a range object lo, lo + 1, .. below hi -/
 |rng (lo hi:Int)
 /-- a thing that is known to the object (the script; a dict while a loop walks it): read, never written while it is so -/
 |frz (o:Obj) (u:HO)
 /-- a code object's table -/
 |tbl (ps:Array dM)
 /-- any other thing, by what is true of its one object (a def of one's own: SetO a S n := HO.ext λh => ..) -/
 |ext (φ:dY->Prop)
abbrev Hp:=dP->Option HO
noncomputable def upd(H:Hp)(a:dP)(o:HO):Hp:=λb=>if b=a then Z o else H b
theorem eF{H:Hp}{a:dP}{o:HO}:upd H a o a=Z o:=by unfold upd;rw[ak O]
theorem d9{H:Hp}{a b:dP}{o:HO}(h:b≠a):upd H a o b=H b:=by unfold upd;rw[aj h]
theorem Iy{H:Hp}{a b:dP}{o u:HO}(h:H a=Z o)(h':H b=Z u)(d:o≠u):a≠b:=by
 intro e;subst e;rw[h]at h';exact d (Option.some.inj h')
theorem eP{H:Hp}{a b:dP}{o:HO}(h:H a=Z o)(h':H b=Y):a≠b:=by
 intro e;subst e;rw[h]at h';cases h'
section
variable(P:dQ) (w:dS)
def eY(H:Hp)(h:dY)(a:dP):HO->Prop
 | .lst xs=>xs.length<=dW /\ ∃(its:List dM) (n:Nat),eI xs its/\h.get? a=Z {cls:=.type "list",data:=.seq its.toArray n}
 | .tup xs=>xs.length<=dW /\ ∃its:List dM,eI xs its/\IsTup h a its.toArray
 | .dK kvs=>kvs.length<=dW/\(a == sysModules)=J /\ ∃vs,KV kvs vs/\h.DictOf (fu P w) a vs
 | .dT kvs=>kvs.length<=dW/\(a == sysModules)=false /\ ∃ xs:List (List Key×dP×dM),
   Paired (λ(p:List Key×V) (q:List Key×dP×dM)=>p.1=q.1/\H q.2.1=Z (.tup (p.1.map kV))/\ew p.2 q.2.2) kvs xs /\
   ∃o es ep,h.get? a=Z o/\o.ExactDict/\o.data = .dict es ep/\es.toList=xs.map (entryOfKey (tupleKind (fu P w)))/\(xs.map (·.1)).Nodup
 | .set S n=>h.SetOf (intKind P w) a S n
 | .ins C dx fs=>H dx=some (.own a)/\fs.length<=1000/\dx≠a/\h.get? a=some (PySem.W.instObj C dx) /\
   ∃mA,h.Ns1 dx mA/\(∀f,mH (fs.lookup f) (mA f))/\PySem.Within mA (fs.map (·.1))
 | .own _=>∃o,h.get? a=Z o
 | .xd fs=>∃mA,h.Ns1 a mA /\ ∀f,mH (fs.lookup f) (mA f)
 | .rng lo hi=>∃t u v,h.get? a=Z {cls:=.type "range",data:=.fields #[.int lo t,.int hi u,.int 1 v]}
 | .frz o u=>h.get? a=Z o/\eY H h a u
 | .tbl ps=>h.get? a=Z {cls:=.none,data:=.fields ps}
 | .met f x=>h.get? a=Z (PySem.W.methodObj (.ref f) (.ref x))
 | .ext φ=>φ h/\(∃o,h.get? a=Z o) /\ ∀h1 h2:dY,φ h1->(∀o,h1.get? a=Z o->h2.get? a=Z o)->φ h2
def kF(H:Hp)(h:dY):Prop:=∀a o,H a=Z o->eY P w H h a o
end
section
variable{P:dQ}{w:dS}{H H':Hp}{h h':dY}{a:dP}{o:HO}
theorem eY.lt(x:eY P w H h a o):a<h.objs.size:=by
 cases o with
 |lst xs=>obtain⟨_,_,_,_,e⟩:=x;exact hL1 e
 |tup xs=>obtain⟨_,_,_,p⟩:=x;exact p.lt
 |dK kvs=>obtain⟨_,_,_,_,o,_,_,e,_⟩:=x;exact hL1 e
 |dT kvs=>obtain⟨_,_,_,_,o,_,_,e,_⟩:=x;exact hL1 e
 |set S n=>obtain⟨o,_,_,_,e,_⟩:=x;exact hL1 e
 |ins C dx fs=>obtain⟨_,_,_,e,_⟩:=x;exact hL1 e
 |own y=>obtain⟨_,e⟩:=x;exact hL1 e
 |xd fs=>obtain⟨_,⟨_,_,_,e,_⟩,_⟩:=x;exact hL1 e
 |rng lo hi=>obtain⟨_,_,_,e⟩:=x;exact hL1 e
 |frz b u=>obtain⟨e,_⟩:=x;exact hL1 e
 |tbl ps=>exact hL1 (show h.get? a=Z _ from x)
 |met f y=>exact hL1 (show h.get? a=Z _ from x)
 |ext φ=>obtain⟨_,⟨_,e⟩,_⟩:=x;exact hL1 e
theorem Paired.mapP{α β:Type}{F G:α->β->Prop}:∀{l₁:List α} {l₂:List β},Paired F l₁ l₂->(∀a b,F a b->G a b)->Paired G l₁ l₂:=by
 intro a b h f
 induction h with
 |nil=>exact .nil
 |cons r t ih=>exact .cons (f _ _ r) ih
theorem eY.stay(x:eY P w H h a o)(k:∀ b u,(b=a\/H b=Z (.own a))->h.get? b=Z u->h'.get? b=Z u)(ho:∀b,H b=Z (.own a)->H' b=Z (.own a))(ht:∀b xs,H b=Z (.tup xs)->H' b=Z (.tup xs)):eY P w H' h' a o:=by
 induction o with
 |lst xs=>obtain⟨z,i,n,r,e⟩:=x;exact⟨z,i,n,r,k _ _ (.inl O) e⟩
 |tup xs=>obtain⟨z,i,r,g,e,c⟩:=x;exact⟨z,i,r,g,k _ _ (.inl O) e,c⟩
 |dK kvs=>obtain⟨z,y,vs,r,g,es,ep,e,c⟩:=x;exact⟨z,y,vs,r,g,es,ep,k _ _ (.inl O) e,c⟩
 |dT kvs=>
  obtain⟨z,y,xs,r,g,es,ep,e,c⟩:=x;exact⟨z,y,xs,Paired.mapP r λp q z=>⟨z.1,ht _ _ z.2.1,z.2.2⟩,g,es,ep,k _ _ (.inl O) e,c⟩
 |set S n=>obtain⟨g,es,ep,t,e,c⟩:=x;exact⟨g,es,ep,t,k _ _ (.inl O) e,c⟩
 |ins C dx fs=>
  obtain⟨d,z,ne,e,mA,⟨j,es,ep,l,c⟩,r⟩:=x;exact⟨ho _ d,z,ne,k _ _ (.inl O) e,mA,⟨j,es,ep,k _ _ (.inr d) l,c⟩,r⟩
 |own y=>obtain⟨g,e⟩:=x;exact⟨g,k _ _ (.inl O) e⟩
 |xd fs=>obtain⟨mA,⟨j,es,ep,e,c⟩,r⟩:=x;exact⟨mA,⟨j,es,ep,k _ _ (.inl O) e,c⟩,r⟩
 |rng lo hi=>obtain⟨t,u,v,e⟩:=x;exact⟨t,u,v,k _ _ (.inl O) e⟩
 |frz g u ih=>obtain⟨e,q⟩:=x;exact⟨k _ _ (.inl O) e,ih q⟩
 |tbl ps=>
  have e:h.get? a=Z {cls:=.none,data:=.fields ps}:=x;show h'.get? a=Z {cls:=.none,data:=.fields ps};exact k a _ (.inl O) e
 |met f y=>
  have e:h.get? a=Z (PySem.W.methodObj (.ref f) (.ref y)):=x;show h'.get? a=Z (PySem.W.methodObj (.ref f) (.ref y));exact k a _ (.inl O) e
 |ext φ=>obtain⟨p,⟨o,e⟩,st⟩:=x;exact⟨st _ _ p λo q=>k _ _ (.inl O) q,⟨o,k _ _ (.inl O) e⟩,st⟩
theorem kF.lt(x:kF P w H h)(e:H a=Z o):a<h.objs.size:=(x a o e).lt
theorem kF.fresh(x:kF P w H h)(e:h.objs.size<=a):H a=Y:=by
 cases q:H a with
 |none=>rfl
 |some u=>exact absurd (nL1 (x.lt q) e) (aA _)
theorem kF.kept(x:kF P w H h)(k:∀b u,h.get? b=Z u->h'.get? b=Z u):kF P w H h':=λa o e=>
 (x a o e).stay (λb u _ q=>k b u q) (λ_ q=>q) λ_ _ q=>q
theorem kF.laid(x:kF P w H h)(k:∀b u,h.get? b=Z u->h'.get? b=Z u)(hp:h.objs.size<=a)(new:eY P w (upd H a o) h' a o):kF P w (upd H a o) h':=λb u e=>by
 have d:=x.fresh hp;by_cases f:b=a
 ·subst f;rw[eF]at e;cases e;exact new
 ·rw[d9 f]at e;exact(x b u e).stay (λc v _ q=>k c v q) (λc q=>by rw[d9 (eP q d)];exact q) λc xs q=>by rw[d9 (eP q d)];exact q
end
def Rd(H:Hp)(a:dP)(u:HO):Prop:=H a=Z u \/ ∃o,H a=Z (.frz o u)
theorem Rd.ok{P:dQ}{w:dS}{H:Hp}{h:dY}{a:dP}{u:HO}(r:Rd H a u)(x:kF P w H h):eY P w H h a u:=by
 rcases r with r|⟨o,r⟩
 ·exact x a u r
 ·obtain⟨_,q⟩:=x a _ r;exact q
def Mut:Option HO->Prop
 |some (.lst _)=>True
 |some (.dK _)=>True
 |some (.dT _)=>True
 |some (.set _ _)=>True
 |some (.ins _ _ _)=>True
 |some (.ext _)=>True
 |_=>False
section
variable{P:dQ}{w:dS}{H:Hp}{h h':dY}{x e:dP}{o':HO}
theorem kF.write(ok:kF P w H h)(mu:Mut (H x))(he:e=x\/H e=Z (.own x))(k:∀ b u,b≠e->h.get? b=Z u->h'.get? b=Z u)(i:∃ u,h'.get? e=Z u)(new:eY P w (upd H x o') h' x o'):kF P w (upd H x o') h':=λb u q=>by
 have d:∀c y,H c=Z (.own y)->c≠x:=λc y r z=>by subst z;rw[r]at mu;exact mu
 have f:∀c xs,H c=Z (.tup xs)->c≠x:=λc xs r z=>by subst z;rw[r]at mu;exact mu
 by_cases g:b=x
 ·subst g;rw[eF]at q;cases q;exact new
 ·rw[d9 g]at q;by_cases a:b=e
  ·have j:H b=some (.own x):=by
    rcases he with z|z
    ·exact absurd (a.trans z) g
    ·rw[a];exact z
   rw[q]at j;cases j;obtain⟨v,l⟩:=i;exact⟨v,by rw[a];exact l⟩
  ·refine(ok b u q).stay (λc v hc r=>k c v ?_ r) (λc r=>by rw[d9 (d c b r)];exact r) λc xs r=>by rw[d9 (f c xs r)];exact r
   rcases hc with rfl|hc
   ·exact a
   ·rintro rfl;rcases he with z|z
    ·exact d c b hc z
    ·rw[hc]at z;cases z;exact g O
end
structure Un (fs ex:List dP)(H H':Hp)(h h':dY):Prop where
 keep:∀b o,h.get? b=some o->H b=none->b∉fs->b∉ex->h'.get? b=some o
 slot:∀b o,h.get? b=some o->H b=none->b∈fs->b∉ex -> ∃sl,h'.get? b=some {o with slots:=sl}
 free:∀b o,h.get? b=some o->H b=none->b∉ex->H' b=none
 there:∀b o,h.get? b=some o->b∉ex -> ∃o',h'.get? b=some o'
 tups:∀b xs,H b=some (.tup xs)->H' b=some (.tup xs)
 frzs:∀b o u,H b=some (.frz o u)->H' b=some (.frz o u)
 tbls:∀b ps,H b=some (.tbl ps) -> ∃more,H' b=some (.tbl (ps++more))
section
variable{fs fs' ex ex':List dP}{H H1 H2:Hp}{h h1 h2 h':dY}{a x e:dP}{o:HO}
theorem Un.any(u:Un fs ex H H1 h h1){b:dP}{a:Obj}(q:h.get? b=Z a)(n:H b=Y)(hx:b∉ex):∃d,h1.get? b=Z {a with slots:=d}:=by
 by_cases c:b∈fs
 ·exact u.slot b a q n c hx
 ·exact⟨a.slots,u.keep b a q n c hx⟩
theorem Un.kept(k:∀b u,h.get? b=Z u->h'.get? b=Z u):Un fs ex H H h h':=
 ⟨λb a q _ _ _=>k b a q,λb a q _ _ _=>⟨a.slots,k b a q⟩,λ_ _ _ n _=>n,λb a q _=>⟨a,k b a q⟩,λ_ _ q=>q,λ_ _ _ q=>q,λ_ ps q=>⟨#[],by rw[q];simp⟩⟩
theorem Un.refl:Un fs ex H H h h:=Un.kept λ_ _ q=>q
theorem Un.laid(k:∀b u,h.get? b=Z u->h'.get? b=Z u)(hp:h.objs.size<=a)(hn:H a=Y):Un fs ex H (upd H a o) h h' where
 keep:=λb u q _ _ _=>k b u q
 slot:=λb u q _ _ _=>⟨u.slots,k b u q⟩
 free:=λb u q n _=>by rw[d9 (nN1 (nL1 (hL1 q) hp))];exact n
 there:=λb u q _=>⟨u,k b u q⟩
 tups:=λb xs q=>by rw[d9 (eP q hn)];exact q
 frzs:=λb u xs q=>by rw[d9 (eP q hn)];exact q
 tbls:=λb ps q=>⟨#[],by rw[d9 (eP q hn),q];simp⟩
theorem Un.write(mu:Mut (H x))(he:e=x\/H e=Z (.own x))(k:∀b u,b≠e->h.get? b=Z u->h'.get? b=Z u)(d:∃u,h'.get? e=Z u):Un fs ex H (upd H x o) h h':=by
 have g:∀b,H b=Y->b≠x:=λb n z=>by subst z;rw[n]at mu;exact mu
 have f:∀b,H b=Y->b≠e:=λb n z=>by
  subst z;rcases he with r|r
  ·exact g b n r
  ·rw[n]at r;cases r
 have c:∀b u,H b=Z u -> ¬ Mut (Z u)->b≠x:=λb u q nm z=>by subst z;rw[q]at mu;exact nm mu
 refine⟨λb u q n _ _=>k b u (f b n) q,λb u q n _ _=>⟨u.slots,k b u (f b n) q⟩,λb u q n _=>by rw[d9 (g b n)];exact n,λb u q _=>?_,
  λb xs q=>by rw[d9 (c b _ q λz=>z)];exact q,λb u xs q=>by rw[d9 (c b _ q λz=>z)];exact q,λb ps q=>⟨#[],by rw[d9 (c b _ q λz=>z),q];simp⟩⟩
 by_cases a:b=e
 ·subst a;exact d
 ·exact⟨u,k b u a q⟩
end
noncomputable def trk(h:dY)(H:Hp):List dP:=(af h.objs.size).filter λa=>(H a).isSome
def sJ(h:dY)(H:Hp):dY:=PySem.W.hideAll h (trk h H)
theorem yO(h:dY)(H:Hp):(sJ h H).objs.size=h.objs.size:=PySem.W.hideAll_size _ _
theorem Bb{h:dY}{H:Hp}{b:dP}{o:Obj}(e:h.get? b=Z o)(n:H b=Y):(sJ h H).get? b=Z o:=
 PySem.W.hideAll_get _ e λa=>by
  have q:(H b).isSome=M:=(aB.mp a).2;rw[n]at q;simp at q
theorem CQ{h:dY}{H:Hp}{b:dP}{o:Obj}(e:(sJ h H).get? b=Z o):h.get? b=Z o/\H b=Y:=by
 have a:h.get? b=Z o:=PySem.W.of_hideAll (trk h H) e;refine⟨a,?_⟩;cases q:H b with
 |none=>rfl
 |some x=>
  have c:b∈trk h H:=aB.mpr ⟨aC.mpr (hL1 a),by simp[q]⟩;have z:(sJ h H).get? b=Y:=PySem.W.hideAll_none (trk h H) c;rw[z]at e;cases e
noncomputable def Eb(g h:dY)(L:dP):List (dP×Obj):=(af h.objs.size).filterMap λa=>if a=L\/(g.get? a).isSome=M then Y else(h.get? a).map λo=>(a,o)
def rest(g h:dY)(L d:dP):List (dP×Obj):=(Eb g h L).filter λp=>decide (p.1≠d)
structure Mod (K:Fg1)(mg:Str->Option dM)(base:dY):Prop where
 kin:K.In base
 glob:base.Ns dU mg
 blt:∃mb,base.Ns builtinsNs mb /\ ∀x:Str,x≠"__name__"->mb x=bootBuiltins x
 nolimit:base.NoLimit
structure Cx where
 prog:dQ
 w:dS
 K:Fg1
 mg:Str->Option dM
 base:dY
 A:dR
 N:List Str
 s₀:dN
 H₀:Hp
 env:Env
 outer:List Env
 stack:List Env
 ex:List dP
 fn:Str->Bool
 calm:Bool
 pn:List (dP×Obj)
 xe:dM->dN->Prop
noncomputable def frs(l:List Env):List dP:=l.filterMap (·.frame)
abbrev Cx.fs(X:Cx):List dP:=frs X.outer
def Vis(sc:d3)(x:Str):Prop:=sc.names.lookup x=Z .local\/sc.names.lookup x=Z .cell\/sc.names.lookup x=Z .free
def wc(sc:d3)(x:Str):Prop:=sc.names.lookup x=Z .local\/sc.names.lookup x=Z .cell
def KW(env:Env)(h:dY)(m:Str->Option dM)(x:Str)(u:dM):Prop:=
 (env.kindOf x=Z .local/\m x=Z u)\/((env.kindOf x=Z .cell\/env.kindOf x=Z .free) /\ ∃c,env.cells.lookup x=Z c/\h.IsCell c (Z u))
structure Cx.Ok (X:Cx):Prop where
 mod:Mod X.K X.mg X.base
 kind:X.env.scope.kind = .function
 glob:X.env.globals=dU
 blt:X.env.builtins=builtinsNs
 above:X.s₀.heap.objs.size<=X.env.locals
 inj:∀x y c,X.env.cells.lookup x=some c->X.env.cells.lookup y=some c->x=y
 has:∀x,(X.env.kindOf x=some .cell\/X.env.kindOf x=some .free) -> ∃c,X.env.cells.lookup x=some c
 cab:∀x c,X.fn x=true->X.env.cells.lookup x=some c->X.s₀.heap.objs.size<=c
 hd:X.calm=true->X.A.handled=none
 frames:X.A.frames=some X.stack
 stk:X.stack=X.outer\/(X.stack=X.env::X.outer/\X.env.frame=some X.env.locals)
 exf:∀b∈X.ex,b≠X.env.locals /\ ∀x c,X.env.cells.lookup x=some c->c≠b
 bs:∀b o,X.base.get? b=some o->X.s₀.heap.get? b=some o/\X.H₀ b=none
 bsz:X.base.objs.size<=X.s₀.heap.objs.size
 noex:∀b o,X.base.get? b=some o->b∉X.ex
 exfs:∀b∈X.ex,b∉X.fs
 funs:X.s₀.heap.FunFrames X.base X.outer
 frf:∀b∈X.fs,X.H₀ b=none
structure Inv (X:Cx)(ag:List (dP×Obj))(σ:List (Option V))(H:Hp)(s:dN):Prop where
 ok:X.Ok
 os:s.os=X.s₀.os
 bare:AllBare s.gens
 base:Un X.fs X.ex X.H₀ H X.s₀.heap s.heap
 loc:∃m,s.heap.Ns X.env.locals m /\ ∀(i:Nat) (x:Str) (v:V),X.N[i]?=some x->σ[i]?=some (some v)->Vis X.env.scope x -> ∃u,ew v u/\KW X.env s.heap m x u
 cell:∀x c,X.env.cells.lookup x=some c -> ∃v,s.heap.IsCell c v
 free:H X.env.locals=none
 freeC:∀x c,X.env.cells.lookup x=some c->H c=none
 pin:∀p∈X.pn++ag,s.heap.get? p.1=some p.2/\H p.1=none/\p.1≠X.env.locals/\p.1∉X.fs /\ ∀v,p.2.data ≠ .cell v
 hok:kF X.prog X.w H s.heap
 len:σ.length=X.N.length
variable{X:Cx}
section
variable{ag:List (dP×Obj)}{σ:List (Option V)}{H H':Hp}{s:dN}{h':dY}
theorem Cx.Ok.nofr(ok:X.Ok){b:dP}{o:Obj}(e:X.base.get? b=Z o):b∉X.fs:=λa=>by
 have:=(ok.funs.mem a).1;rw[e]at this;cases this
theorem Inv.bs(I:Inv X ag σ H s):∀b o,X.base.get? b=Z o->s.heap.get? b=Z o/\H b=Y:=λb o e=>
 ⟨I.base.keep b o (I.ok.bs b o e).1 (I.ok.bs b o e).2 (I.ok.nofr e) (I.ok.noex b o e),I.base.free b o (I.ok.bs b o e).1 (I.ok.bs b o e).2 (I.ok.noex b o e)⟩
theorem Inv.bk(I:Inv X ag σ H s):∀b o,X.base.get? b=Z o->s.heap.get? b=Z o:=λb o e=>(I.bs b o e).1
theorem Inv.mod(I:Inv X ag σ H s):Mod X.K X.mg X.base:=I.ok.mod
theorem Inv.kIn(I:Inv X ag σ H s):X.K.In s.heap:=I.ok.mod.kin.keeps I.bk
theorem Inv.lt(I:Inv X ag σ H s):X.env.locals<s.heap.objs.size:=let ⟨_,hn,_⟩:=I.loc;hn.lt
theorem Inv.sz(I:Inv X ag σ H s):X.s₀.heap.objs.size<=s.heap.objs.size:=aD I.ok.above (aE I.lt)
theorem Inv.nofs(I:Inv X ag σ H s){a:dP}(h:s.heap.objs.size<=a):a∉X.fs:=λc=>by
 obtain⟨_,o,b,_⟩:=I.ok.funs.mem c;exact absurd (nL1 (hL1 b) (aD I.sz h)) (aA _)
theorem Inv.cne(I:Inv X ag σ H s):∀x c,X.env.cells.lookup x=Z c->c≠X.env.locals:=λx c e z=>by
 obtain⟨v,o,d,f⟩:=I.cell x c e;obtain⟨m,⟨o',es,ep,a,b,_⟩,_⟩:=I.loc;rw[z,a]at d;cases d;rw[b]at f;cases f
theorem Inv.funs(I:Inv X ag σ H s):s.heap.FunFrames X.base X.outer:=by
 have all:∀(l:List Env),(∀b∈frs l,b∈X.fs)->X.s₀.heap.FunFrames X.base l->s.heap.FunFrames X.base l:=by
  intro l
  induction l with
  |nil=>intro _ _;trivial
  |cons g r ih=>
   intro f n;obtain⟨i,⟨L,o,d,h,m,j⟩,k⟩:=n;have c:L∈X.fs:=f L (by unfold frs;rw[aF,d];exact mS1);obtain⟨p,e⟩:=I.base.slot L o m (I.ok.frf L c) c λz=>I.ok.exfs L z c;exact⟨i,⟨L,_,d,h,e,j⟩,ih (λb a=>f b (by unfold frs;rw[aF,d];exact mC1 _ a)) k⟩
 exact all X.outer (λ_ a=>a) I.ok.funs
theorem Inv.stack(I:Inv X ag σ H s):s.heap.FunFrames X.base X.stack:=by
 rcases I.ok.stk with e|⟨e,a⟩
 ·rw[e];exact I.funs
 ·rw[e];obtain⟨m,b,_⟩:=I.loc;refine .cons (by rw[I.ok.kind];decide) a b ?_ I.funs;exact Heap.get?_none_of_le (aD I.ok.bsz I.ok.above)
theorem Inv.stkSub(I:Inv X ag σ H s):∀b∈frs X.stack,b∈X.env.locals::X.fs:=λb a=>by
 rcases I.ok.stk with e|⟨e,c⟩
 ·rw[e]at a;exact mC1 _ a
 ·rw[e]at a;unfold frs at a;rw[aF,c]at a;exact a
theorem Inv.stkFree(I:Inv X ag σ H s):∀b∈frs X.stack,H b=Y:=λb a=>by
 rcases aG.mp (I.stkSub b a)with e|a
 ·rw[e];exact I.free
 ·obtain⟨_,o,c,_⟩:=I.ok.funs.mem a;exact I.base.free b o c (I.ok.frf b a) λz=>I.ok.exfs b z a
theorem Inv.step{g':Array GenState}{t':Nat}{d':Drawn}{ch:List dP}(I:Inv X ag σ H s)(h:∀b∈ch,(b∈X.ex\/X.s₀.heap.objs.size<=b)/\b≠X.env.locals/\(∀x c,X.env.cells.lookup x=some c->c≠b) /\ ∀p∈X.pn++ag,p.1≠b)(keep:∀b o,b≠X.env.locals->b∉X.fs->b∉ch->s.heap.get? b=some o->H b=none->h'.get? b=some o)(slot:∀b o,b≠X.env.locals->b∈X.fs->b∉ch->s.heap.get? b=some o->H b=none -> ∃ao,h'.get? b=some {o with slots:=ao})(f:∀b o,b∉ch->s.heap.get? b=some o->H b=none->H' b=none)(A:∀b o,b∉ch->s.heap.get? b=some o -> ∃o',h'.get? b=some o')(E:∀b xs,H b=some (.tup xs)->H' b=some (.tup xs))(F:∀b o u,H b=some (.frz o u)->H' b=some (.frz o u))(G:∀b ps,H b=some (.tbl ps) -> ∃more,H' b=some (.tbl (ps++more)))(ns:∀m,s.heap.Ns X.env.locals m->h'.Ns X.env.locals m)(L:kF X.prog X.w H' h')(hg:AllBare g'):
  Inv X ag σ H' {s with heap:=h',gens:=g',drawn:=d',toks:=t'}:=by
 have C:∀b o,X.s₀.heap.get? b=Z o->b≠X.env.locals:=λb o e=>nN1 (nL1 (hL1 e) I.ok.above);have t:∀b o,X.s₀.heap.get? b=Z o->b∉X.ex->b∉ch:=λb o e a y=>by
  rcases(h b y).1 with z|z
  ·exact a z
  ·exact absurd (nL1 (hL1 e) z) (aA _)
 have g:∀x c,X.env.cells.lookup x=Z c -> ∀v,s.heap.IsCell c v->h'.IsCell c v:=λx c e v ⟨o,B,aq⟩=>by
  have j:c∉ch:=λz=>(h c z).2.2.1 x c e O;by_cases hc:c∈X.fs
  ·obtain⟨ao,q⟩:=slot c o (I.cne x c e) hc j B (I.freeC x c e);exact⟨_,q,aq⟩
  ·exact⟨o,keep c o (I.cne x c e) hc j B (I.freeC x c e),aq⟩
 refine⟨I.ok,I.os,hg,⟨λb o e n y a=>?_,λb o e n y a=>?_,λb o e n a=>?_,λb o e a=>?_,λb xs e=>E b xs (I.base.tups b xs e),λb o xs e=>F b o xs (I.base.frzs b o xs e),λb ps e=>?_⟩,?_,λx c e=>?_,?_,λx c e=>?_,λp N=>?_,L,I.len⟩
 ·exact keep b o (C b o e) y (t b o e a) (I.base.keep b o e n y a) (I.base.free b o e n a)
 ·obtain⟨ao,w⟩:=I.base.slot b o e n y a;obtain⟨K,D⟩:=slot b _ (C b o e) y (t b o e a) w (I.base.free b o e n a);exact⟨K,D⟩
 ·obtain⟨o',w⟩:=I.base.there b o e a;exact f b o' (t b o e a) w (I.base.free b o e n a)
 ·obtain⟨o',w⟩:=I.base.there b o e a;exact A b o' (t b o e a) w
 ·obtain⟨m1,w⟩:=I.base.tbls b ps e;obtain⟨m2,D⟩:=G b _ w;exact⟨m1++m2,by rw[D,Array.append_assoc]⟩
 ·obtain⟨m,Q,P⟩:=I.loc;refine⟨m,ns m Q,λi x v w D R=>?_⟩;obtain⟨u,r,l⟩:=P i x v w D R;refine⟨u,r,?_⟩;rcases l with l|⟨k,c,e,z⟩
  ·exact .inl l
  ·exact .inr ⟨k,c,e,g x c e _ z⟩
 ·obtain⟨v,z⟩:=I.cell x c e;exact⟨v,g x c e v z⟩
 ·obtain⟨m,⟨o,_,_,B,_⟩,_⟩:=I.loc;exact f _ o (λz=>(h _ z).2.1 O) B I.free
 ·obtain⟨v,o,B,aq⟩:=I.cell x c e;exact f c o (λz=>(h c z).2.2.1 x c e O) B (I.freeC x c e)
 ·obtain⟨e,n,ne,av,d⟩:=I.pin p N;have j:p.1∉ch:=λz=>(h p.1 z).2.2.2 p N O;exact⟨keep p.1 p.2 ne av j e n,f p.1 p.2 j e n,ne,av,d⟩
theorem Inv.un{t':Nat}(I:Inv X ag σ H s)(u:Un X.fs [] H H' s.heap h')(g:kF X.prog X.w H' h'):Inv X ag σ H' {s with heap:=h',toks:=t'}:=by
 obtain⟨m,⟨o,es,ep,h,r⟩,_⟩:=id I.loc;obtain⟨p,j⟩:=u.any h I.free (by simp);exact I.step (g':=s.gens) (d':=s.drawn) (ch:=[]) (λ_ z=>nomatch z) (λb o _ d _ e n=>u.keep b o e n d (by simp)) (λb o _ d _ e n=>u.slot b o e n d (by simp)) (λb o _ e n=>u.free b o e n (by simp)) (λb o _ e=>u.there b o e (by simp)) u.tups u.frzs u.tbls (λl k=>by
  obtain⟨o',f,c,a,i⟩:=k;rw[h]at a;cases a;exact⟨_,f,c,j,i⟩) g I.bare
theorem Inv.call{g':Array GenState}{t':Nat}{d':Drawn}{ch:List dP}(I:Inv X ag σ H s)(u:Un (frs X.stack) ch H H' s.heap h')(i:kF X.prog X.w H' h')(hg:AllBare g')(d:∀b∈ch,(b∈X.ex\/X.s₀.heap.objs.size<=b)/\b≠X.env.locals/\(∀x c,X.env.cells.lookup x=some c->c≠b) /\ ∀p∈X.pn++ag,p.1≠b):
  Inv X ag σ H' {s with heap:=h',gens:=g',drawn:=d',toks:=t'}:=by
 obtain⟨m,⟨o,es,ep,j,r⟩,_⟩:=id I.loc;obtain⟨v,g⟩:=u.any j I.free λz=>(d _ z).2.1 O;exact I.step (ch:=ch) d (λb o g k hc e n=>u.keep b o e n (λz=>(aG.mp (I.stkSub b z)).elim g k) hc) (λb o _ _ hc e n=>u.any e n hc) (λb o hc e n=>u.free b o e n hc) (λb o hc e=>u.there b o e hc) u.tups u.frzs u.tbls (λt q=>by
  obtain⟨o',h,f,a,l⟩:=q;rw[j]at a;cases a;exact⟨_,h,f,g,l⟩) i hg
theorem Inv.turned{t':Nat}{it:dP}(I:Inv X ag σ H s)(k:∀ b o,b≠it->s.heap.get? b=Z o->h'.get? b=Z o)(hn:H it=Y)(d:it≠X.env.locals)(h1:it∈X.ex\/X.s₀.heap.objs.size<=it)(h2:∀x c,X.env.cells.lookup x=Z c->c≠it)(f:∀p∈X.pn++ag,p.1≠it):Inv X ag σ H {s with heap:=h',toks:=t'}:=by
 have a:∀b u,H b=Z u->b≠it:=λb u e z=>by rw[z,hn]at e;cases e
 refine I.step (g':=s.gens) (d':=s.drawn) (ch:=[it]) (λb g=>?_) (λb o _ _ hc e _=>k b o (λz=>hc (by simp[z])) e) (λb o _ _ hc e _=>⟨o.slots,k b o (λz=>hc (by simp[z])) e⟩) (λ_ _ _ _ n=>n)
  (λb o hc e=>⟨o,k b o (λz=>hc (by simp[z])) e⟩) (λ_ _ e=>e) (λ_ _ _ e=>e) (λb ps e=>⟨#[],by rw[e];simp⟩) (λm h=>?_) (λb u e=>?_) I.bare
 ·have e:b=it:=by simpa using g
  subst e;exact⟨h1,d,h2,f⟩
 ·obtain⟨o,es,ep,i,r⟩:=h;exact⟨o,es,ep,k _ o (Ne.symm d) i,r⟩
 ·refine(I.hok b u e).stay (λc v hc q=>k c v ?_ q) (λ_ q=>q) λ_ _ q=>q;rcases hc with z|z
  ·rw[z];exact a b u e
  ·exact a c _ z
theorem Inv.tok(I:Inv X ag σ H s)(t:Nat):Inv X ag σ H {s with toks:=t}:=I.un (h':=s.heap) (t':=t) Un.refl I.hok
theorem Inv.kept{t':Nat}(I:Inv X ag σ H s)(k:∀b u,s.heap.get? b=Z u->h'.get? b=Z u):Inv X ag σ H {s with heap:=h',toks:=t'}:=I.un (Un.kept k) (I.hok.kept k)
theorem Inv.laid{a:dP}{o:HO}{t':Nat}(I:Inv X ag σ H s)(k:∀ b u,s.heap.get? b=some u->h'.get? b=some u)(hp:s.heap.objs.size<=a)(new:eY X.prog X.w (upd H a o) h' a o):
  Inv X ag σ (upd H a o) {s with heap:=h',toks:=t'}:=I.un (Un.laid k hp (I.hok.fresh hp)) (I.hok.laid k hp new)
theorem Inv.write{x e:dP}{o:HO}{t':Nat}(I:Inv X ag σ H s)(mu:Mut (H x))(he:e=x\/H e=Z (.own x))(k:∀ b u,b≠e->s.heap.get? b=Z u->h'.get? b=Z u)(a:∃ u,h'.get? e=Z u)(new:eY X.prog X.w (upd H x o) h' x o):Inv X ag σ (upd H x o) {s with heap:=h',toks:=t'}:=I.un (Un.write mu he k a) (I.hok.write mu he k a new)
theorem Inv.pins_of{a:List (dP×Obj)}(I:Inv X ag σ H s)(h:∀p∈a,s.heap.get? p.1=Z p.2/\H p.1=Y/\p.1≠X.env.locals/\p.1∉X.fs /\ ∀v,p.2.data ≠ .cell v):Inv X a σ H s:=
 ⟨I.ok,I.os,I.bare,I.base,I.loc,I.cell,I.free,I.freeC,λp b=>(aH.mp b).elim (λz=>I.pin p (aI _ z)) (h p),I.hok,I.len⟩
theorem ud{N:List Str}(hN:N.Nodup){i j:Nat}{x:Str}(a:N[i]?=Z x)(b:N[j]?=Z x):i=j:=by
 obtain⟨h1,d⟩:=gE1.mp a;obtain⟨h2,c⟩:=gE1.mp b;exact(List.getElem_inj hN).mp (d.trans c.symm)
theorem yb{aq:Model}{A:dR}{E:dM->dN->Prop}{i:Nat}{x:Str}{v:V}{u:dM}{Q:Unit->dN->Prop}(I:Inv X ag σ H s)(hN:X.N.Nodup)(hi:X.N[i]? = Z x)(hx:wc X.env.scope x)(r:ew v u)(h:∀s',Inv X ag (σ.set i (Z v)) H s'->(∃a,Heap.SameBut a s.heap s'.heap/\(a=X.env.locals\/X.env.cells.lookup x=Z a))->Q () s')(hf:autoParam (X.fn x=M\/X.env.scope.names.lookup x=Z .local) au0):dX aq A (storeName X.env x u) Q E s:=by
 obtain⟨m,T,hl⟩:=id I.loc;have G:(X.env.scope.kind == .class||(X.env.scope.kind == .module&&X.env.locals != X.env.globals))=J:=by rw[I.ok.kind];rfl
 have B:i<σ.length:=by rw[I.len];exact(gE1.mp hi).1
 have cne:=I.cne;have tracked:∀{a:dP} {h':dY},(∃o,s.heap.get? a=Z o/\H a=Y)->Heap.SameBut a s.heap h'->kF X.prog X.w H h':=λ{a h'} ha f b ob e=>by
  obtain⟨_,_,l⟩:=ha;refine(I.hok b ob e).stay (λc P hc q=>(f.2 c ?_).trans q) (λ_ q=>q) λ_ _ q=>q;rintro rfl;rcases hc with rfl|hc
  ·rw[l]at e;cases e
  ·rw[l]at hc;cases hc
 rcases hx with w|w
 ·refine wpAny_storeName_local w T (λh' hn' f=>?_) G;obtain⟨oL,_,_,hoL,_⟩:=id T;refine h _ ⟨I.ok,I.os,I.bare,⟨λb o e n D hx=>?_,λb o e n D hx=>?_,I.base.free,λb o e hx=>?_,I.base.tups,I.base.frzs,I.base.tbls⟩,⟨_,hn',λj y v' g t wq=>?_⟩,λy c e=>?_,I.free,I.freeC,λp R=>?_,tracked ⟨oL,hoL,I.free⟩ f,by simpa using I.len⟩ ⟨_,f,.inl O⟩
  ·exact(f.2 b (nN1 (nL1 (hL1 e) I.ok.above))).trans (I.base.keep b o e n D hx)
  ·obtain⟨au,g⟩:=I.base.slot b o e n D hx;exact⟨au,(f.2 b (nN1 (nL1 (hL1 e) I.ok.above))).trans g⟩
  ·obtain⟨o',g⟩:=I.base.there b o e hx;exact⟨o',(f.2 b (nN1 (nL1 (hL1 e) I.ok.above))).trans g⟩
  ·by_cases C:j=i
   ·subst C;rw[hi]at g;cases g;rw[aJ B]at t;cases t;exact⟨u,r,.inl ⟨w,by simp⟩⟩
   ·rw[gS1 (Ne.symm C)]at t;obtain⟨U,S,q⟩:=hl j y v' g t wq;refine⟨U,S,?_⟩;rcases q with⟨k,e⟩|⟨k,c,e,z⟩
    ·refine .inl ⟨k,?_⟩;have:y≠x:=λe=>C (ud hN g (e ▸ hi));simp[this,e]
    ·exact .inr ⟨k,c,e,z.sameBut f (cne y c e)⟩
  ·obtain⟨P,z⟩:=I.cell y c e;exact⟨P,z.sameBut f (cne y c e)⟩
  ·obtain⟨e,n,ne,W,d⟩:=I.pin p R;exact⟨(f.2 p.1 ne).trans e,n,ne,W,d⟩
 ·have F:X.fn x=true:=by
   rcases hf with z|z
   ·exact z
   ·rw[z]at w;cases w
  obtain⟨c,hc⟩:=I.ok.has x (.inl w);obtain⟨P,z⟩:=I.cell x c hc;refine wpAny_storeName_cell I.ok.kind w hc z (λh' L f=>?_);obtain⟨oc,ao,K⟩:=id z;refine h {s with heap:=h'} ⟨I.ok,I.os,I.bare,⟨λb o e n D hx=>?_,λb o e n D hx=>?_,I.base.free,λb o e hx=>?_,I.base.tups,I.base.frzs,I.base.tbls⟩,⟨m,T.sameBut f (Ne.symm (cne x c hc)),λj y v' g t wq=>?_⟩,λy av e=>?_,I.free,I.freeC,λp R=>?_,tracked ⟨oc,ao,I.freeC x c hc⟩ f,by simpa using I.len⟩ ⟨c,f,.inr hc⟩
  ·exact(f.2 b (nN1 (nL1 (hL1 e) (I.ok.cab x c F hc)))).trans (I.base.keep b o e n D hx)
  ·obtain⟨au,g⟩:=I.base.slot b o e n D hx;exact⟨au,(f.2 b (nN1 (nL1 (hL1 e) (I.ok.cab x c F hc)))).trans g⟩
  ·obtain⟨o',g⟩:=I.base.there b o e hx;exact⟨o',(f.2 b (nN1 (nL1 (hL1 e) (I.ok.cab x c F hc)))).trans g⟩
  ·by_cases C:j=i
   ·subst C;rw[hi]at g;cases g;rw[aJ B]at t;cases t;exact⟨u,r,.inr ⟨.inl w,c,hc,L⟩⟩
   ·rw[gS1 (Ne.symm C)]at t;obtain⟨U,S,q⟩:=hl j y v' g t wq;refine⟨U,S,?_⟩;rcases q with q|⟨k,av,e,z'⟩
    ·exact .inl q
    ·refine .inr ⟨k,av,e,z'.sameBut f ?_⟩;rintro rfl;exact C (ud hN g (I.ok.inj _ _ _ e hc ▸ hi))
  ·by_cases N:av=c
   ·subst N;exact⟨_,L⟩
   ·obtain⟨w2,z2⟩:=I.cell y av e;exact⟨w2,z2.sameBut f N⟩
  ·obtain⟨e,n,ne,W,d⟩:=I.pin p R;refine⟨(f.2 p.1 ?_).trans e,n,ne,W,d⟩;intro q;rw[q,ao]at e;have q':oc=p.2:=Option.some.inj e;exact d P (by rw[<- q'];exact K)
theorem js{aq:Model}{A:dR}{E:dM->dN->Prop}{i:Nat}{x:Str}{v:V}{u:dM}{Q:Unit->dN->Prop}(I:Inv X ag σ H s)(hN:X.N.Nodup)(hi:X.N[i]? = Z x)(hx:wc X.env.scope x)(r:ew v u)(h:∀s',Inv X ag (σ.set i (Z v)) H s'->Q () s')(hf:autoParam (X.fn x=M\/X.env.scope.names.lookup x=Z .local) au0):dX aq A (storeName X.env x u) Q E s:=
 yb I hN hi hx r (λs' a _=>h s' a) hf
theorem Inv.call'{s':dN}{ch:List dP}(I:Inv X ag σ H s)(ho:s'.os=s.os)(u:Un (frs X.stack) ch H H' s.heap s'.heap)(d:kF X.prog X.w H' s'.heap)(hg:AllBare s'.gens)(a:∀b∈ch,(b∈X.ex\/X.s₀.heap.objs.size<=b)/\b≠X.env.locals/\(∀x c,X.env.cells.lookup x=Z c->c≠b) /\ ∀p∈X.pn++ag,p.1≠b):Inv X ag σ H' s':=by
 obtain⟨h',h,g,f,o'⟩:=s';have e:o'=s.os:=ho;subst e;exact I.call (g':=h) (t':=f) (d':=g) u d hg a
end
abbrev XK:=dM->Option dP->Hp->Prop
abbrev St:=List (Option V)
abbrev VK:=V->Hp->Prop
abbrev TE:=St->Hp->VK->Prop
abbrev TT:=St->Hp->(Bool->Hp->Prop)->Prop
abbrev TA:=St->Hp->(List V->Hp->Prop)->Prop
structure jP where
 nx:St->Hp->Prop
 rt:VK
 bk:St->Hp->Prop:=λ_ _=>False
 ct:St->Hp->Prop:=λ_ _=>False
abbrev TS:=jP->St->Hp->Prop
def EP(X:Cx)(ag:List (dP×Obj))(σ:St)(Q:VK)(u:dM)(s':dN):Prop:=∃v H',Inv X ag σ H' s'/\ew v u/\Q v H'
def TP(X:Cx)(ag:List (dP×Obj))(σ:St)(Q:Bool->Hp->Prop)(b:Bool)(s':dN):Prop:=∃H',Inv X ag σ H' s'/\Q b H'
def AP(X:Cx)(ag:List (dP×Obj))(σ:St)(Q:List V->Hp->Prop)(us:List dM)(s':dN):Prop:=∃vs H',Inv X ag σ H' s'/\eI vs us/\Q vs H'
def SP(X:Cx)(ag:List (dP×Obj))(D:jP)(f:Flow)(s':dN):Prop:=
 match f with
 | .next=>∃ σ' H',Inv X ag σ' H' s'/\D.nx σ' H'
 | .brk=>∃ σ' H',Inv X ag σ' H' s'/\D.bk σ' H'
 | .cont=>∃ σ' H',Inv X ag σ' H' s'/\D.ct σ' H'
 | .ret u=>∃v σ' H',Inv X ag σ' H' s'/\ew v u/\D.rt v H'
def PE(X:Cx)(e:Expr)(t:TE):Prop:=
 ∀(ag:List (dP×Obj)) (s:dN) (σ:St) (H:Hp) (Q:VK),Inv X ag σ H s->t σ H Q->dX (model X.prog X.w) X.A (eval e X.env) (EP X ag σ Q) X.xe s
def PT(X:Cx)(e:Expr)(t:TT):Prop:=
 ∀(ag:List (dP×Obj)) (s:dN) (σ:St) (H:Hp) (Q:Bool->Hp->Prop),Inv X ag σ H s->t σ H Q->dX (model X.prog X.w) X.A (isTrue e X.env (eval e X.env)) (TP X ag σ Q) X.xe s
def PW(X:Cx)(e:Expr)(t:TT):Prop:=
 ∀(whole:Sem dM) (ag:List (dP×Obj)) (s:dN) (σ:St) (H:Hp) (Q:Bool->Hp->Prop),Inv X ag σ H s->t σ H Q->dX (model X.prog X.w) X.A (isTrue e X.env whole) (TP X ag σ Q) X.xe s
theorem PW.pt{X:Cx}{e:Expr}{t:TT}(h:PW X e t):PT X e t:=h _
def PA(X:Cx)(es:List Expr)(t:TA):Prop:=
 ∀(pos:Pos) (ag:List (dP×Obj)) (s:dN) (σ:St) (H:Hp) (Q:List V->Hp->Prop),Inv X ag σ H s->t σ H Q->dX (model X.prog X.w) X.A (spliced (backTo pos (dV es X.env))) (AP X ag σ Q) X.xe s
def PS(X:Cx)(st:d0)(t:TS):Prop:=
 ∀(ag:List (dP×Obj)) (s:dN) (σ:St) (H:Hp) (D:jP),Inv X ag σ H s->t D σ H->dX (model X.prog X.w) X.A (exec st X.env) (SP X ag D) X.xe s
def u7(X:Cx)(st:List d0)(t:TS):Prop:=
 ∀(ag:List (dP×Obj)) (s:dN) (σ:St) (H:Hp) (D:jP),Inv X ag σ H s->t D σ H->dX (model X.prog X.w) X.A (execs st X.env) (SP X ag D) X.xe s
theorem fO{α:Type}{t:Sem α}{Q b:α->dN->Prop}{aq:Model}{A:dR}{E:dM->dN->Prop}{s:dN}(h:dX aq A t Q E s)(c:∀a s,Q a s->b a s):dX aq A t b E s:=wpAny_mono h c λ_ _ x=>x
section
theorem Mc{a b:Expr}{ta tb:TE}(ha:PE X a ta)(hb:PE X b tb){ag:List (dP×Obj)}{s:dN}{σ:St}{H:Hp}{R:V->V->Hp->Prop}(I:Inv X ag σ H s)(h:ta σ H fun x H1=>tb σ H1 fun y H2=>R x y H2){α:Type}{Q:α->dN->Prop}{f:dM->dM->Sem α}(hf:∀v u e x y H2,Inv X ag σ H2 e->ew x v->ew y u->R x y H2->dX (model X.prog X.w) X.A (f v u) Q X.xe e):
  dX (model X.prog X.w) X.A (eval a X.env) (λv c=>dX (model X.prog X.w) X.A (eval b X.env) (λu d=>dX (model X.prog X.w) X.A (f v u) Q X.xe d) X.xe c) X.xe s:=by
 refine fO (ha ag s σ H _ I h) λv l ⟨x,H1,i,g,k⟩=>?_;refine fO (hb ag l σ H1 _ i k) λu e ⟨y,H2,j,r2,m⟩=>?_;exact hf v u e x y H2 j g r2 m
noncomputable def HK(i:Nat):TE:=fun σ H Q=>∃v,σ[i]?=Z (Z v)/\Q v H
noncomputable def tC(v:V):TE:=λ_ H Q=>Q v H
theorem Ap {i:Nat}{x:Str}{pos:Pos}(hN:X.N[i]?=Z x)(hv:Vis X.env.scope x)(hd:autoParam ((x == ("__debug__":Str))=J) bu0)(hcd:autoParam ((x == ("__classdict__":Str))=J) bu0):PE X (.Name x pos) (HK i):=by
 intro ag s σ H Q I h;obtain⟨v,e,h⟩:=h;obtain⟨m,f,j⟩:=I.loc;obtain⟨u,r,l⟩:=j i x v hN e hv;have d:EP X ag σ Q u s:=⟨v,H,I,r,h⟩;rcases l with⟨b,g⟩|⟨b,c,hc,a⟩
 ·exact wpAny_Name (wpAny_loadName_local I.ok.kind b f g d) hd
 ·rcases b with b|b
  ·exact wpAny_Name (wpAny_loadName_cell I.ok.kind b hc a d) hd
  ·exact wpAny_Name (wpAny_loadName_free I.ok.kind b hc a d hcd) hd
theorem FU{i j pos}:PE X (.Constant (.int i) j pos) (tC (.int i)):=λ_ _ _ H _ I h=>wpAny_Constant_int ⟨.int i,H,I.tok _,⟨_,O⟩,h⟩
theorem Im{b j pos}:PE X (.Constant (.bool b) j pos) (tC (.bl b)):=λ_ _ _ H _ I h=>Constant_bool ⟨.bl b,H,I,O,h⟩
theorem FQ{j pos}:PE X (.Constant .none j pos) (tC .non):=λ_ _ _ H _ I h=>Constant_none ⟨.non,H,I,O,h⟩
theorem FP{x j pos}:PE X (.Constant (.str x) j pos) (tC (.str x)):=λ_ _ _ H _ I h=>Calls.Constant_str ⟨.str x,H,I.tok _,⟨_,O⟩,h⟩
def Gl(X:Cx)(x:Str):Prop:=X.env.kindOf x=Z .globalImplicit
theorem w8 {E:dM->dN->Prop}{ag:List (dP×Obj)}{s:dN}{σ:St}{H:Hp}{x:Str}{u:dM}{pos:Pos}{Q:dM->dN->Prop}(I:Inv X ag σ H s)(hg:Gl X x)(hm:X.mg x=some u)(h:Q u s)
  (hd:autoParam ((x == ("__debug__":Str))=J) bu0):dX (model X.prog X.w) X.A (eval (.Name x pos) X.env) Q E s:=
 Calls.Name_function_global I.ok.kind hg (Calls.loadGlobal_global (by rw[I.ok.glob];exact I.mod.glob.keeps I.bk) hm h) hd
theorem jC {E:dM->dN->Prop}{ag:List (dP×Obj)}{s:dN}{σ:St}{H:Hp}{x:Str}{u:dM}{pos:Pos}{Q:dM->dN->Prop}(I:Inv X ag σ H s)(hg:Gl X x)(hm:X.mg x=none)(hv:bootBuiltins x=some u)(h:Q u s)
  (hn:autoParam (x≠"__name__") bu0) (hd:autoParam ((x == ("__debug__":Str))=J) bu0):dX (model X.prog X.w) X.A (eval (.Name x pos) X.env) Q E s:=by
 obtain⟨a,h1,h2⟩:=I.mod.blt;exact Calls.Name_function_global I.ok.kind hg (Calls.loadGlobal_builtin (by rw[I.ok.glob];exact I.mod.glob.keeps I.bk) hm (by rw[I.ok.blt];exact h1.keeps I.bk) ((h2 x hn).trans hv) h) hd
theorem CI {x:Str}{v:V}{u:dM}{pos:Pos}(hg:Gl X x)(hm:X.mg x=Z u)(r:ew v u)(hd:autoParam ((x == ("__debug__":Str))=J) bu0):PE X (.Name x pos) (tC v):=
 λ_ _ _ H _ I h=>w8 I hg hm ⟨v,H,I,r,h⟩ hd
theorem CM {x:Str}{v:V}{u:dM}{pos:Pos}(hg:Gl X x)(hm:X.mg x=Y)(hv:bootBuiltins x=Z u)(r:ew v u)(hn:autoParam (x≠"__name__") bu0)(hd:autoParam ((x == ("__debug__":Str))=J) bu0):PE X (.Name x pos) (tC v):=
 λ_ _ _ H _ I h=>jC I hg hm hv ⟨v,H,I,r,h⟩ hn hd
variable{a b:Expr}{ta tb:TE}{pos:Pos}
noncomputable def tB(t:TE):TT:=fun σ H Q=>t σ H λx H1=>∃c,x = .bl c/\Q c H1
variable{tA tB':TT}{rest:List Expr}
noncomputable def Kh(t u:TT):TT:=fun σ H Q=>t σ H λc H1=>if c=M then u σ H1 Q else Q J H1
noncomputable def Lw(t u:TT):TT:=fun σ H Q=>t σ H λc H1=>if c=M then Q M H1 else u σ H1 Q
noncomputable def J8(t:TT):TT:=fun σ H Q=>t σ H λc H1=>Q (!c) H1
theorem Ct(ha:PT X a tA):PW X (.BoolOp .And [a] pos) tA:=by
 intro d ag s σ H Q I h;refine isTrue_and (fO (ha ag s σ H Q I h) λc b e=>?_);cases c with
 |true=>exact isTrue_and_nil e
 |false=>exact e
theorem Fp(ha:PT X a tA):PW X (.BoolOp .Or [a] pos) tA:=by
 intro d ag s σ H Q I h;refine isTrue_or (fO (ha ag s σ H Q I h) λc b e=>?_);cases c with
 |false=>exact isTrue_or_nil e
 |true=>exact e
theorem Fq(ha:PT X a tA)(hb:PW X (.BoolOp .And (b::rest) pos) tB'):PW X (.BoolOp .And (a::b::rest) pos) (Kh tA tB'):=by
 intro g ag s σ H Q I h;refine isTrue_and (fO (ha ag s σ H _ I h) λc f ⟨H1,d,e⟩=>?_);cases c with
 |true=>exact hb g ag f σ H1 Q d e
 |false=>exact⟨H1,d,e⟩
theorem Ie(ha:PT X a tA)(hb:PW X (.BoolOp .Or (b::rest) pos) tB'):PW X (.BoolOp .Or (a::b::rest) pos) (Lw tA tB'):=by
 intro g ag s σ H Q I h;refine isTrue_or (fO (ha ag s σ H _ I h) λc f ⟨H1,d,e⟩=>?_);cases c with
 |true=>exact⟨H1,d,e⟩
 |false=>exact hb g ag f σ H1 Q d e
theorem Ft(ha:PT X a tA):PT X (.UnaryOp .Not a pos) (J8 tA):=by
 intro ag s σ H Q I h;exact isTrue_not (ha ag s σ H (λc H1=>Q (!c) H1) I h)
noncomputable def Lx(t:TT)(ta tb:TE):TE:=fun σ H Q=>t σ H λc H1=>if c=M then ta σ H1 Q else tb σ H1 Q
theorem Aq{c:Expr}(hc:PT X c tA)(ha:PE X a ta)(hb:PE X b tb):PE X (.IfExp c a b pos) (Lx tA ta tb):=by
 intro ag s σ H Q I h;refine wpAny_IfExp (fO (hc ag s σ H _ I h) λd g ⟨H1,e,f⟩=>?_);cases d with
 |true=>exact ha ag g σ H1 Q e f
 |false=>exact hb ag g σ H1 Q e f
end
def nL(K:Fg1)(H:Hp)(a:dP)(xs:List V):Prop:=
 Rd H a (.lst xs) \/
  ∃(o:Obj) (its:Array dM) (n:Nat),K.lookup a=Z o/\o.cls = .type "list"/\o.dict=Y/\o.data = .seq its n/\its.size<=dW/\eI xs its.toList
def lY(K:Fg1)(H:Hp)(a:dP)(xs:List V):Prop:=
 Rd H a (.tup xs) \/
  ∃(o:Obj) (its:Array dM) (n:Nat),K.lookup a=Z o/\o.cls = .type "tuple"/\o.data = .seq its n/\its.size<=dW/\eI xs its.toList
noncomputable def KM:dM->Option V
 | .none=>Z .non
 | .bool b=>Z (.bl b)
 | .int i _=>Z (.int i)
 | .str x _=>Z (.str x)
 | .bytes b _=>Z (.byt b)
 | .float b _=>Z (.flt b)
 | .ref a=>Z (.ref a)
 | .type n=>Z (.ty n)
 |_=>Y
theorem ew.abs{x:V}{u:dM}(r:ew x u):KM u=Z x:=by
 cases x with
 |non=>cases r;rfl
 |bl _=>cases r;rfl
 |int _=>obtain⟨t,rfl⟩:=r;rfl
 |str _=>obtain⟨t,rfl⟩:=r;rfl
 |byt _=>obtain⟨t,rfl⟩:=r;rfl
 |flt _=>obtain⟨t,rfl⟩:=r;rfl
 |ref _=>cases r;rfl
 |ty _=>cases r;rfl
theorem ew.inj{x y:V}{u:dM}(r:ew x u)(q:ew y u):x=y:=Option.some.inj (r.abs.symm.trans q.abs)
theorem eI.inj:∀{xs ys:List V} {a:List dM},eI xs a->eI ys a->xs=ys:=by
 intro xs ys a h g
 induction h generalizing ys with
 |nil=>cases g;rfl
 |cons r t ih=>cases g with
  |cons c b=>rw[r.inj c,ih b]
section
variable{ag:List (dP×Obj)}{σ:St}{H:Hp}{s:dN}{a:dP}{xs ys:List V}
theorem nL.of{K:Fg1}(h:H a=Z (.lst xs)):nL K H a xs:=.inl (.inl h)
theorem lY.of{K:Fg1}(h:H a=Z (.tup xs)):lY K H a xs:=.inl (.inl h)
theorem Inv.list(I:Inv X ag σ H s)(h:nL X.K H a xs):∃b:List dM,eI xs b/\PlainL s.heap a b.toArray/\xs.length<=dW:=by
 rcases h with h|⟨o,b,n,d,hc,f,c,g,r⟩
 ·obtain⟨z,b,n,r,e⟩:=h.ok I.hok;exact⟨b,r,⟨_,n,e,O,O,O⟩,z⟩
 ·refine⟨b.toList,r,⟨o,n,I.kIn a o d,hc,f,by simpa using c⟩,?_⟩;have e:=r.length;simp only[aK]at e;lia
theorem Inv.tuple(I:Inv X ag σ H s)(h:lY X.K H a xs):∃b:List dM,eI xs b/\IsTup s.heap a b.toArray/\xs.length<=dW:=by
 rcases h with h|⟨o,b,n,d,hc,c,f,r⟩
 ·obtain⟨z,b,r,p⟩:=h.ok I.hok;exact⟨b,r,p,z⟩
 ·refine⟨b.toList,r,⟨o,I.kIn a o d,hc,n,by simpa using c⟩,?_⟩;have e:=r.length;simp only[aK]at e;lia
theorem Inv.list_inj(I:Inv X ag σ H s)(h:nL X.K H a xs)(h':nL X.K H a ys):xs=ys:=by
 obtain⟨b,r,⟨o,n,e,_,_,d⟩,_⟩:=I.list h;obtain⟨its',g,⟨o',j,c,_,_,f⟩,_⟩:=I.list h';rw[e]at c;cases c;rw[d]at f;injection f with i _;have:b=its':=by simpa using congrArg Array.toList i
 subst this;exact r.inj g
theorem Inv.tuple_inj(I:Inv X ag σ H s)(h:lY X.K H a xs)(h':lY X.K H a ys):xs=ys:=by
 obtain⟨b,r,⟨o,e,_,n,d⟩,_⟩:=I.tuple h;obtain⟨its',g,⟨o',c,_,j,f⟩,_⟩:=I.tuple h';rw[e]at c;cases c;rw[d]at f;injection f with i _;have:b=its':=by simpa using congrArg Array.toList i
 subst this;exact r.inj g
end
abbrev Cx.wish(X:Cx)(E:dM->dN->Prop):Cx:={X with xe:=E}
abbrev Cx.nox(X:Cx):Cx:=X.wish λ_ _=>False
theorem Cx.Ok.wish{X:Cx}(ok:X.Ok)(E:dM->dN->Prop):(X.wish E).Ok:=
 ⟨ok.mod,ok.kind,ok.glob,ok.blt,ok.above,ok.inj,ok.has,ok.cab,ok.hd,ok.frames,ok.stk,ok.exf,ok.bs,ok.bsz,ok.noex,ok.exfs,ok.funs,ok.frf⟩
theorem Cx.Ok.unwish{X:Cx}{E:dM->dN->Prop}(ok:(X.wish E).Ok):X.Ok:=
 ⟨ok.mod,ok.kind,ok.glob,ok.blt,ok.above,ok.inj,ok.has,ok.cab,ok.hd,ok.frames,ok.stk,ok.exf,ok.bs,ok.bsz,ok.noex,ok.exfs,ok.funs,ok.frf⟩
section
variable{ag:List (dP×Obj)}{σ:St}{H:Hp}{s:dN}{E:dM->dN->Prop}
theorem Inv.wish(I:Inv X ag σ H s)(E:dM->dN->Prop):Inv (X.wish E) ag σ H s:=⟨I.ok.wish E,I.os,I.bare,I.base,I.loc,I.cell,I.free,I.freeC,I.pin,I.hok,I.len⟩
theorem Inv.unwish(I:Inv (X.wish E) ag σ H s):Inv X ag σ H s:=⟨I.ok.unwish,I.os,I.bare,I.base,I.loc,I.cell,I.free,I.freeC,I.pin,I.hok,I.len⟩
theorem SP.unwish{D:jP}{f:Flow}{s':dN}(h:SP (X.wish E) ag D f s'):SP X ag D f s':=by
 cases f with
 |next=>obtain⟨a,H',I,q⟩:=h;exact⟨a,H',I.unwish,q⟩
 |brk=>obtain⟨a,H',I,q⟩:=h;exact⟨a,H',I.unwish,q⟩
 |cont=>obtain⟨a,H',I,q⟩:=h;exact⟨a,H',I.unwish,q⟩
 |ret u=>obtain⟨v,a,H',I,r,q⟩:=h;exact⟨v,a,H',I.unwish,r,q⟩
theorem u7.nox{st:List d0}{t:TS}(h:u7 X.nox st t):u7 X st t:=λag s σ H D I a=>
 wpAny_mono (h ag s σ H D (I.wish _) a) (λ_ _ q=>q.unwish) λ_ _ z=>False.elim z
end
section
variable{st:d0}{rest:List d0}{t u:TS}{e:Expr}{te:TE}{pos:Pos}
noncomputable def HP:TS:=λD σ H=>D.nx σ H
noncomputable def J3(t u:TS):TS:=λD σ H=>t {D with nx:=u D} σ H
theorem Cy:u7 X [] HP:=λ_ _ σ H _ I h=>wpAny_execs_nil ⟨σ,H,I,h⟩
theorem Af(h1:PS X st t)(h2:u7 X rest u):u7 X (st::rest) (J3 t u):=by
 intro ag s σ H D I h;refine wpAny_execs_cons (fO (h1 ag s σ H {D with nx:=u D} I h) λf b q=>?_);cases f with
 |next=>
  obtain⟨a,H',c,q⟩:=q;exact h2 ag b a H' D c q
 |ret v=>exact q
 |brk=>exact q
 |cont=>exact q
theorem Cw(h1:PS X st t):u7 X [st] t:=by
 intro ag s σ H D I h;refine wpAny_execs_cons (fO (h1 ag s σ H D I h) λf a q=>?_);cases f with
 |next=>exact wpAny_execs_nil q
 |ret v=>exact q
 |brk=>exact q
 |cont=>exact q
theorem Inv.quiet{ag:List (dP×Obj)}{σ:St}{H:Hp}{s:dN}(I:Inv X ag σ H s):interactive X.env=J:=by simp[interactive,I.ok.kind]
noncomputable def HS(te:TE):TS:=λD σ H=>te σ H λ_ H1=>D.nx σ H1
theorem Cz(he:PE X e te)(hs:autoParam (swapsWith e Y pos.line X.env=pure J) au0):PS X (.Expr e pos) (HS te):=by
 intro ag s σ H D I h;exact wpAny_Expr_any (fO (he ag s σ H _ I h) λv d ⟨x,H1,a,c,b⟩=>⟨σ,H1,a,b⟩) I.quiet hs
noncomputable def J4(te:TE):TS:=λD σ H=>te σ H D.rt
theorem Fw(he:PE X e te):PS X (.Return (Z e) pos) (J4 te):=by
 intro ag s σ H D I h;exact wpAny_Return_some (fO (he ag s σ H _ I h) λv d ⟨x,H1,b,a,c⟩=>⟨x,σ,H1,b,a,c⟩)
noncomputable def Ke(c:TT)(t u:TS):TS:=λD σ H=>c σ H λb H1=>if b=M then t D σ H1 else u D σ H1
theorem Ig{c:Expr}{a b:List d0}{tc:TT}(hc:PT X c tc)(ha:u7 X a t)(hb:u7 X b u):PS X (.If c a b pos) (Ke tc t u):=by
 intro ag s σ H D I h;refine wpAny_If (fO (hc ag s σ H _ I h) λd g ⟨H1,e,f⟩=>?_);cases d with
 |true=>exact ha ag g σ H1 D e f
 |false=>exact hb ag g σ H1 D e f
end
abbrev TG:=V->St->Hp->(St->Hp->Prop)->Prop
abbrev EK:=List V->St->Hp->(St->Hp->Prop)->Prop
def PG(X:Cx)(target:Expr)(t:TG):Prop:=
 ∀(ag:List (dP×Obj)) (s:dN) (σ:St) (H:Hp) (v:V) (u:dM) (Q:St->Hp->Prop),Inv X ag σ H s->ew v u->t v σ H Q ->
  dX (model X.prog X.w) X.A (assign target X.env u) (λ_ s'=>∃ σ' H',Inv X ag σ' H' s'/\Q σ' H') X.xe s
def Hr(X:Cx)(ts:List Expr)(t:EK):Prop:=
 ∀(ag:List (dP×Obj)) (s:dN) (σ:St) (H:Hp) (vs:List V) (us:List dM) (Q:St->Hp->Prop),Inv X ag σ H s->eI vs us->t vs σ H Q ->
  dX (model X.prog X.w) X.A (assignInOrder ((assignEach ts X.env).map (·.2)) us) (λ_ s'=>∃ σ' H',Inv X ag σ' H' s'/\Q σ' H') X.xe s
abbrev Ho:=V->V->V->Hp->(Hp->Prop)->Prop
def wb(X:Cx)(t:Ho):Prop:=
 ∀(ag:List (dP×Obj)) (s:dN) (σ:St) (H:Hp) (o i v:V) (ov iv u:dM) (Q:Hp->Prop),Inv X ag σ H s->ew o ov->ew i iv->ew v u->t o i v H Q ->
  dX (model X.prog X.w) X.A (setItem ov iv u) (λ_ s'=>∃H',Inv X ag σ H' s'/\Q H') X.xe s
abbrev KQ:=V->V->Hp->VK->Prop
def JU(X:Cx)(op:Operator)(t:KQ):Prop:=
 ∀(ag:List (dP×Obj)) (s:dN) (σ:St) (H:Hp) (x y:V) (v u:dM) (Q:VK),Inv X ag σ H s->ew x v->ew y u->t x y H Q ->
  dX (model X.prog X.w) X.A (inplaceOp op v u) (EP X ag σ Q) X.xe s
section
variable{pos:Pos}
noncomputable def xn(i:Nat):TG:=λv σ H Q=>Q (σ.set i (Z v)) H
theorem wL{i:Nat}{x:Str}(hN:X.N.Nodup)(hi:X.N[i]?=Z x)(hx:wc X.env.scope x)(hf:autoParam (X.fn x=M\/X.env.scope.names.lookup x=Z .local) au0):PG X (.Name x pos) (xn i):=by
 intro ag s σ H v u Q I r h;exact wpAny_assign_Name (js I hN hi hx r (λs' a=>⟨_,H,a,h⟩) hf)
noncomputable def KF:EK:=λvs σ H Q=>vs=[]/\Q σ H
noncomputable def I7(t:TG)(u:EK):EK:=λvs σ H Q=>∃v r,vs=v::r/\t v σ H fun σ' H'=>u r σ' H' Q
theorem CH:Hr X [] KF:=by
 intro ag s σ H vs a Q I r h;obtain⟨e,h⟩:=h;subst e;cases r;exact assignInOrder_nil ⟨σ,H,I,h⟩
theorem Ao{e:Expr}{es:List Expr}{t:TG}{u:EK}(h1:PG X e t)(h2:Hr X es u)(hs:autoParam ((assignEach (e::es) X.env).map (·.2)=assign e X.env::(assignEach es X.env).map (·.2)) au0):Hr X (e::es) (I7 t u):=by
 intro ag s σ H vs j Q I r h;obtain⟨v,i,g,h⟩:=h;subst g;cases r with
 |cons r b=>
  rw[hs];refine assignInOrder_cons (fO (h1 ag s σ H _ _ _ I r h) λ_ f ⟨a,H1,c,d⟩=>?_);exact h2 ag f a H1 _ _ Q c b d
noncomputable def gTup(K:Fg1)(n:Nat)(t:EK):TG:=λv σ H Q=>∃a xs,v = .ref a/\lY K H a xs/\xs.length=n/\t xs σ H Q
theorem FK{es:List Expr}{k:Nat}{t:EK}{n:Nat}(hc:X.calm=M)(h:Hr X es t)(hn:autoParam ((assignEach es X.env).length=n) au0)(hst:autoParam ((assignEach es X.env).findIdx? (·.1)=Y) au0):PG X (.Tuple es k pos) (gTup X.K n t):=by
 intro ag s σ H v u Q I r c;obtain⟨a,xs,j,l,f,c⟩:=c;subst j;cases r;obtain⟨m,d,i,q⟩:=I.tuple l;refine assign_Tuple_tuple (I.ok.hd hc) i (by simp[hn,<- f,d.length]) hst λh' p=>?_;have g:Inv X ag σ H {s with heap:=h'}:=I.kept (t':=s.toks) λb o e=>p b o (nN1 (hL1 e)) e;exact h ag _ σ H xs _ Q g (by simpa using d) c
noncomputable def gSub(to ti:TE)(t:Ho):TG:=λv σ H Q=>to σ H λo H1=>ti σ H1 λi H2=>t o i v H2 λH3=>Q σ H3
theorem FL{o i:Expr}{to ti:TE}{t:Ho}(ho:PE X o to)(hi:PE X i ti)(hs:wb X t)(ha:autoParam (∀v,assign (.Subscript o i pos) X.env v=(do
   let a<-holding [v] (eval o X.env)
   let b<-holding [v,a] (eval i X.env)
   standAt pos
   holding [v,a,b] (setItem a b v)
   release [v,a,b] [])) du0):PG X (.Subscript o i pos) (gSub to ti t):=by
 intro ag s σ H v u Q I r h;rw[ha];refine wB1 (wpAny_holding (fO (ho ag s σ H _ I h) λa g ⟨x,H1,d,c,f⟩=>?_));refine wB1 (wpAny_holding (fO (hi ag g σ H1 _ d f) λb j ⟨y,H2,e,r2,n⟩=>?_));refine wB1 (wpAny_standAt (wB1 (wpAny_holding (fO (hs ag j σ H2 x y v a b u _ e c r2 r n) λ_ p ⟨k,l,m⟩=>?_))));exact wpAny_release ⟨σ,k,l,m⟩
noncomputable def zT(te:TE)(g:TG):TS:=λD σ H=>te σ H λx H1=>g x σ H1 D.nx
theorem FB{tg e:Expr}{te:TE}{g:TG}(he:PE X e te)(hg:PG X tg g)(hs:autoParam (swapsWithSole [tg] e pos.line X.env=pure J) au0)(hw:autoParam (swappedStores [tg] e X.env=pure Y) au0)(h1:autoParam ((assignEach [tg] X.env).map (·.2)=[assign tg X.env]) au0):PS X (.Assign [tg] e pos) (zT te g):=by
 intro ag s σ H D I h;refine wpAny_Assign_stores (fO (he ag s σ H _ I h) λv d ⟨x,H1,b,a,c⟩=>?_) hs hw;rw[h1];exact fO (hg ag d σ H1 x v _ b a c) λ_ f q=>q
theorem Fv{i:Nat}{x:Str}{e:Expr}{te:TE}{pos':Pos}(hN:X.N.Nodup)(hi:X.N[i]? = some x)(hx:wc X.env.scope x)(he:PE X e te)(hs:autoParam (swapsWith e (some (.Name x pos')) pos.line X.env=pure false) au0)(hf:autoParam (X.fn x=true\/X.env.scope.names.lookup x=some .local) au0):
  PS X (.Assign [.Name x pos'] e pos) (zT te (xn i)):=by
 intro ag s σ H D I h;refine wpAny_Assign_Name (fO (he ag s σ H _ I h) λv f ⟨y,H1,b,a,c⟩=>?_) hs;exact js b hN hi hx a (λg d=>⟨_,H1,d,c⟩) hf
noncomputable def J7(i j:Nat)(ta:TA):TS:=λD σ H=>ta σ H λvs H1=>∃v w,vs=[v,w]/\D.nx ((σ.set i (Z v)).set j (Z w)) H1
theorem Fx{i j:Nat}{x y:Str}{a b:Expr}{ta:TA}{m g pt:Pos}{kt k2 pt2}(hc:X.calm=true)(hN:X.N.Nodup)(hi:X.N[i]? = some x)(u:X.N[j]? = some y)(n:i≠j)(hx:X.env.scope.names.lookup x=some .local)(hy:X.env.scope.names.lookup y=some .local)(ha:PA X [a,b] ta)(hw:swappedStores [.Tuple [.Name x m,.Name y g] kt pt] (.Tuple [a,b] k2 pt2) X.env=pure (some [x,y]))(hs:autoParam (swapsWithSole [.Tuple [.Name x m,.Name y g] kt pt] (.Tuple [a,b] k2 pt2) pos.line X.env=pure false) au0):
  PS X (.Assign [.Tuple [.Name x m,.Name y g] kt pt] (.Tuple [a,b] k2 pt2) pos) (J7 i j ta):=by
 intro ag s σ H D I h;rw[exec_Assign_arm];refine wB1 (wpAny_standAt ?_);rw[hs];refine wB1 (wP1 ?_);rw[aj (by decide)];refine wB1 (Tuple_ (fO (ha _ ag s σ H _ I h) λA d ⟨vs,H1,C,F,k⟩=>?_));obtain⟨v,w,K,k⟩:=k;subst K;obtain⟨c,u2,rfl,B,f⟩:∃c u2,A=[c,u2]/\ew v c/\ew w u2:=by
  cases F with
  |cons p q=>
   cases q with
   |cons G z=>
    cases z;exact⟨_,_,O,p,G⟩
 refine wO1 ?_ (by show 2<=dW;decide);have t:Inv X ag σ H1 {d with heap:=d.heap.push {cls:=.type "tuple",data:=.seq [c,u2].toArray}}:=C.kept (t':=d.toks) λb o e=>hP1 _ e;rw[hw];refine wB1 (wP1 ?_);show dX (model X.prog X.w) X.A (do rule "assign.swapped-stores";let items<-unpackItems (.ref d.heap.objs.size) 2 Y;assignInOrder [λv=>bindName X.env y v,λv=>bindName X.env x v] items.reverse;pure Flow.next) _ _ _;refine wB1 (wpAny_rule (wB1 (unpackItems_tuple (items:= #[c,u2]) (I.ok.hd hc) (IsTup.new d.heap _) λh' l=>?_)));have ao:=t.kept (h':=h') (t':=d.toks) λb o e=>l b o (nN1 (hL1 e)) e;show dX _ _ (assignInOrder [λv=>bindName X.env y v,λv=>bindName X.env x v] [u2,c] >>= λ_=>pure Flow.next) _ _ _;refine wB1 (assignInOrder_cons (wpAny_bindName (js ao hN u (.inl hy) f (λaq E=>?_) (.inr hy))));refine assignInOrder_cons (wpAny_bindName (js E hN hi (.inl hx) B (λL r=>assignInOrder_nil (wP1 ?_)) (.inr hx)));rw[List.set_comm _ _ (Ne.symm n)]at r;exact⟨_,H1,r,k⟩
noncomputable def Kg(i:Nat)(te:TE)(ti:KQ):TS:=λD σ H=>∃x,σ[i]?=Z (Z x)/\te σ H λy H1=>ti x y H1 λz H2=>D.nx (σ.set i (Z z)) H2
theorem Fz{i:Nat}{x:Str}{e:Expr}{te:TE}{op:Operator}{ti:KQ}{pos':Pos}(hN:X.N.Nodup)(hi:X.N[i]? = some x)(hx:wc X.env.scope x)(he:PE X e te)(ho:JU X op ti)(hf:autoParam (X.fn x=true\/X.env.scope.names.lookup x=some .local) au0):
  PS X (.AugAssign (.Name x pos') op e pos) (Kg i te ti):=by
 intro ag s σ H D I h;obtain⟨v,G,h⟩:=h;obtain⟨m,p,o⟩:=I.loc;have g:Vis X.env.scope x:=by rcases hx with k|k;exact .inl k;exact .inr (.inl k)
 obtain⟨u,r,l⟩:=o i x v hi G g;refine wpAny_AugAssign_Name ?_;have j:dX (model X.prog X.w) X.A (eval e X.env) (λw d=>dX (model X.prog X.w) X.A (inplaceOp op u w) (λr f=>dX (model X.prog X.w) X.A (storeName X.env x r) (λ_=>SP X ag D .next) X.xe f) X.xe d) X.xe s:=by
  refine fO (he ag s σ H _ I h) λw F ⟨y,H1,q,A,t⟩=>?_;refine fO (ho ag F σ H1 v y u w _ q r A t) λz K ⟨L,H2,n,r2,E⟩=>?_;exact js n hN hi hx r2 (λao C=>⟨_,H2,C,E⟩) hf
 rcases l with⟨a,B⟩|⟨a,c,hc,b⟩
 ·exact wpAny_loadName_local I.ok.kind a p B j
 ·rcases a with a|a
  ·exact wpAny_loadName_cell I.ok.kind a hc b j
  ·rcases hx with k|k
   ·have:X.env.scope.names.lookup x=Z .free:=a;rw[k]at this;cases this
   ·have:X.env.scope.names.lookup x=Z .free:=a;rw[k]at this;cases this
noncomputable def zR(c:TT)(tb:TS):TS:=λD σ H=>∃W:Nat->St->Hp->Prop,(∃m,W m σ H) /\ ∀m σ H,W m σ H ->
 c σ H λb H1=>if b=M then∃N:St->Hp->Prop,(∀ σ' H',N σ' H' -> ∃m',m'<m/\W m' σ' H')/\tb {D with nx:=N,ct:=N,bk:=D.nx} σ H1 else D.nx σ H1
theorem Ag{c:Expr}{e:List d0}{tc:TT}{tb:TS}(hp:PassesOwn (model X.prog X.w) X.A X.env X.xe)(hc:PT X c tc)(hb:u7 X e tb):PS X (.While c e [] pos) (zR tc tb):=by
 intro ag s σ H D I h;obtain⟨W,⟨B,y⟩,j⟩:=h;refine wpAny_While (codeAny_whileLoop (λn s'=>∃g H',Inv X ag g H' s'/\W n g H') ?_ B ⟨σ,H,I,y⟩);rintro n z ⟨d,H1,w,A⟩;refine wpAny_passesOwn hp (fO (hc ag z d H1 _ w (j n d H1 A)) λb x ⟨H2,t,k⟩=>?_);cases b with
 |true=>
  obtain⟨N,u,k⟩:=k;rw[ak O];refine wpAny_passesOwn hp (fO (hb ag x d H2 _ t k) λf C l=>?_);cases f with
  |next=>
   obtain⟨a,i,q,r⟩:=l;obtain⟨o,p,m⟩:=u a i r;exact⟨o,p,a,i,q,m⟩
  |cont=>
   obtain⟨a,i,q,r⟩:=l;obtain⟨o,p,m⟩:=u a i r;exact⟨o,p,a,i,q,m⟩
  |brk=>exact l
  |ret v=>exact l
 |false=>
  rw[aj aL];exact wpAny_execs_nil ⟨d,H2,t,k⟩
end
structure It where
 go:Nat->Hp->Prop
 yld:Nat->Hp->V->Hp->Prop
 stop:Nat->Hp->Prop
def j5(X:Cx)(ag:List (dP×Obj))(H:Hp)(b:dP):Prop:=
 H b=Y/\b≠X.env.locals/\b∉X.fs/\(b∈X.ex\/X.s₀.heap.objs.size<=b)/\(∀x c,X.env.cells.lookup x=Z c->c≠b) /\ ∀p∈X.pn++ag,p.1≠b
theorem Inv.fpOk{X:Cx}{ag:List (dP×Obj)}{σ:St}{H H':Hp}{s:dN}{b:dP}(I:Inv X ag σ H s)(hb:s.heap.objs.size<=b)(hn:H' b=Y):j5 X ag H' b:=by
 refine⟨hn,nG1 (nL1 I.lt hb),I.nofs hb,.inr (aD I.sz hb),λx c e z=>?_,λp a z=>?_⟩
 ·obtain⟨v,q⟩:=I.cell x c e;exact absurd (nL1 q.lt (by rw[z];exact hb)) (aA _)
 ·exact absurd (nL1 (hL1 (I.pin p a).1) (by rw[z];exact hb)) (aA _)
structure uW (P:dQ)(w:dS)(K:Fg1)(tg:Expr)(ao:It)(fp:List dP)(it:dP)(tn:Nat->dY->Prop):Prop where
 mem:it∈fp
 obj:∀i h,tn i h -> ∀b∈fp,∃o,h.get? b=some o /\ ∀v,o.data ≠ .cell v
 keep:∀i h h',tn i h->(∀b∈fp,∀o,h.get? b=some o->h'.get? b=some o)->tn i h'
 item:∀(X:Cx),X.prog=P->X.w=w->X.K=K->X.calm=true -> ∀(i:Nat) (ag:List (dP×Obj)) (s:dN) (σ:St) (H:Hp) (E:dM->dN->Prop),Inv X ag σ H s->(∀b∈fp,j5 X ag H b)->tn i s.heap->ao.go i H ->
  dX (model P w) X.A (pyNext (.ref it)) (λr s1=>∃u,r=some u /\
   dX (model P w) X.A (letOwnedTupleGo tg (.ref it) u) (λ_ s2=>∃x H',Inv X ag σ H' s2/\ew x u/\ao.yld i H x H'/\tn (i+1) s2.heap /\ ∀b∈fp,H' b=none) E s1) E s
 done:∀(X:Cx),X.prog=P->X.w=w->X.K=K->X.calm=true -> ∀(i:Nat) (ag:List (dP×Obj)) (s:dN) (σ:St) (H:Hp) (E:dM->dN->Prop),Inv X ag σ H s->(∀b∈fp,j5 X ag H b)->tn i s.heap->ao.stop i H ->
  dX (model P w) X.A (pyNext (.ref it)) (λr s1=>r=none/\Inv X ag σ H s1) E s
 self:∀(A:dR) (i:Nat) (s:dN) (Q:dM->dN->Prop) (E:dM->dN->Prop),tn i s.heap->Q (.ref it) s->dX (model P w) A (pyIter (.ref it)) Q E s
abbrev TI:=St->Hp->(It->Hp->Prop)->Prop
def Lo(X:Cx)(ag:List (dP×Obj))(σ:St)(tg:Expr)(R:It->Hp->Prop)(itv:dM)(s2:dN):Prop:=
 ∃(it:dP) (fp:List dP) (tn:Nat->dY->Prop) (ao:It) (H':Hp),itv = .ref it/\Inv X ag σ H' s2/\uW X.prog X.w X.K tg ao fp it tn/\tn 0 s2.heap/\(∀b∈fp,j5 X ag H' b)/\R ao H'
def PI(X:Cx)(tg iter:Expr)(wi:TI):Prop:=
 ∀(ag:List (dP×Obj)) (s:dN) (σ:St) (H:Hp) (R:It->Hp->Prop),Inv X ag σ H s->wi σ H R ->
  dX (model X.prog X.w) X.A (eval iter X.env) (λv s1=>dX (model X.prog X.w) X.A (pyIter v) (Lo X ag σ tg R) X.xe s1) X.xe s
theorem xl {aq:Model}{A:dR}{E:dM->dN->Prop}{s:dN}{tg:Expr}{it:dP}{u:dM}{o:Obj}{n:String}{vs:Array dM}{Q:Unit->dN->Prop}(ho:s.heap.get? it=some o)(hc:o.cls = .type n)(hd:o.data = .fields vs)
   (hn:["enumerate","zip","dict_itemiterator","dict_reverseitemiterator","odict_iterator","itertools.zip_longest","itertools.pairwise"].contains n=J) (a:Q () s):dX aq A (letOwnedTupleGo tg (.ref it) u) Q E s:=by
 unfold letOwnedTupleGo;cases tg <;> first
   |exact wP1 a
   | (cases u<;>first
       |exact wP1 a
       | (refine wB1 (wpAny_load ho ?_)
          rw[hc,hd];show dX aq A (if(["enumerate","zip","dict_itemiterator","dict_reverseitemiterator","odict_iterator","itertools.zip_longest","itertools.pairwise"].contains n&&vs[0]? == Z (rawInt _))=M then _ else _) Q E s;rw[aj (by intro h;rw[hn,Bool.false_and]at h;cases h)];exact wP1 a))
noncomputable def Lr(K:Fg1)(a:dP):It:=
 ⟨λi H=>∃xs x,nL K H a xs/\xs[i]?=Z x,λi H x H'=>H'=H /\ ∀xs,nL K H a xs->xs[i]?=Z x,λi H=>∃xs,nL K H a xs/\xs.length<=i⟩
noncomputable def Lq(K:Fg1)(a:dP):It:=
 ⟨λi H=>∃xs x,lY K H a xs/\xs[i]?=Z x,λi H x H'=>H'=H /\ ∀xs,lY K H a xs->xs[i]?=Z x,λi H=>∃xs,lY K H a xs/\xs.length<=i⟩
noncomputable def JA(lo:Int)(n:Nat):It:=⟨λi _=>i<n,λi H x H'=>H'=H/\x = .int (lo+i),λi _=>n<=i⟩
theorem x4{P:dQ}{w:dS}{K:Fg1}{tg:Expr}(a it:dP):uW P w K tg (Lr K a) [it] it (λi h=>h.IsListIter it a i) where
 mem:=by simp
 obj:=λi h st b f=>by
  have e:b=it:=by simpa using f
  subst e;obtain⟨o,e,c,d⟩:=st;exact⟨o,e,λv z=>by rw[d]at z;cases z⟩
 keep:=λi h h' st k=>st.at λo e=>k it (by simp) o e
 item:=by
  intro X C D q hc i ag s σ H E I g st y;subst C D q;obtain⟨xs,x,j,A⟩:=y;obtain⟨F,n,p,ao⟩:=I.list j;obtain⟨u,G,av⟩:=n.get A;obtain⟨l,t,L,B,r,m⟩:=g it (by simp);refine wpAny_pyNext_list_item st p.isList (x:=u) (by simpa using G) λh' st' Q=>?_;have N:Inv X ag σ H {s with heap:=h'}:=I.turned (t':=s.toks) (λb o f e=>(Q.2 b f).trans e) l t B r m;obtain⟨o,e,c,d⟩:=id st';exact⟨u,O,xl (s:={s with heap:=h'}) e c d (by decide) ⟨x,H,N,av,⟨O,λys R=>by rw[I.list_inj R j];exact A⟩,st',λb f=>(g b f).1⟩⟩
 done:=by
  intro X C D q hc i ag s σ H E I g st y;subst C D q;obtain⟨xs,j,A⟩:=y;obtain⟨F,n,p,ao⟩:=I.list j;obtain⟨l,t,L,B,r,m⟩:=g it (by simp);have S:=n.length;exact wpAny_pyNext_list_end (I.ok.hd hc) st p.isList (by simp;lia) λh' aq=>⟨O,I.turned (t':=s.toks) (λb o f e=>aq b o f e) l t B r m⟩
 self:=λ_ _ _ _ _ st h=>wpAny_pyIter_listiter st h
theorem vh{P:dQ}{w:dS}{K:Fg1}{tg:Expr}(a it:dP):uW P w K tg (Lq K a) [it] it (λi h=>h.IsTupleIter it a i) where
 mem:=by simp
 obj:=λi h st b f=>by
  have e:b=it:=by simpa using f
  subst e;obtain⟨o,e,c,d⟩:=st;exact⟨o,e,λv z=>by rw[d]at z;cases z⟩
 keep:=λi h h' st k=>st.at λo e=>k it (by simp) o e
 item:=by
  intro X D F r hc i ag s σ H E I j st A;subst D F r;obtain⟨xs,x,l,B⟩:=A;obtain⟨g,q,p,ao⟩:=I.tuple l;obtain⟨u,G,av⟩:=q.get B;obtain⟨m,y,L,C,t,n⟩:=j it (by simp);refine wpAny_pyNext_tuple_item st (show s.heap.IsTuple a g.toArray from p) (x:=u) (by simpa using G) λh' st' Q=>?_;have N:Inv X ag σ H {s with heap:=h'}:=I.turned (t':=s.toks) (λb o f e=>(Q.2 b f).trans e) m y C t n;obtain⟨o,e,c,d⟩:=id st';exact⟨u,O,xl (s:={s with heap:=h'}) e c d (by decide) ⟨x,H,N,av,⟨O,λys R=>by rw[I.tuple_inj R l];exact B⟩,st',λb f=>(j b f).1⟩⟩
 done:=by
  intro X D F r hc i ag s σ H E I j st A;subst D F r;obtain⟨xs,l,B⟩:=A;obtain⟨g,q,p,ao⟩:=I.tuple l;obtain⟨m,y,L,C,t,n⟩:=j it (by simp);have S:=q.length;exact wpAny_pyNext_tuple_end (I.ok.hd hc) st (show s.heap.IsTuple a g.toArray from p) (by simp;lia) λh' aq=>⟨O,I.turned (t':=s.toks) (λb o f e=>aq b o f e) m y C t n⟩
 self:=λ_ _ _ _ _ st h=>wpAny_pyIter_tupleiter st h
theorem vi{P:dQ}{w:dS}{K:Fg1}{tg:Expr}(it:dP)(lo:Int)(n:Nat):uW P w K tg (JA lo n) [it] it (λi h=>IsRangeIter h it (lo+(i:Nat)*1) ((n:Int)-(i:Nat)) 1) where
 mem:=by simp
 obj:=λi h st b a=>by
  have e:b=it:=by simpa using a
  subst e;exact⟨_,st,λv z=>by
   have A:Data.fields _=Data.cell v:=z;cases A⟩
 keep:=λi h h' st k=>k it (by simp) _ st
 item:=by
  intro X d l q hc i ag s σ H E I c st p;subst d l q;obtain⟨f,m,B,r,g,j⟩:=c it (by simp);have W:=Walks.range (prog:=X.prog) (w:=X.w) (I.ok.hd hc) it lo 1 n;refine W.item i s _ _ p st λv h' tk y st' C=>?_;obtain⟨t,rfl⟩:=y;have x:Inv X ag σ H {s with heap:=h',toks:=tk}:=I.turned (λb o a e=>C b o (by simpa using a) e) f m r g j;refine⟨_,O,xl (s:={s with heap:=h',toks:=tk}) (n:="range_iterator") st' O O (by decide) ⟨.int (lo+i),H,x,⟨t,?_⟩,⟨O,O⟩,st',λb a=>(c b a).1⟩⟩;rw[Int.mul_one]
 done:=by
  intro X d l q hc i ag s σ H E I c st p;subst d l q;obtain⟨f,m,B,r,g,j⟩:=c it (by simp);exact wpAny_pyNext_range_end (I.ok.hd hc) st (by have:n<=i:=p;lia) λh' u=>⟨O,I.turned (t':=s.toks) (λb o a e=>u b o a e) f m r g j⟩
 self:=λ_ _ _ _ _ st h=>wpAny_pyIter_rangeiter st h
section
variable{tg:Expr}
def IT(K:Fg1)(tl:TE):TI:=fun σ H R=>tl σ H λx H1=>∃a,x = .ref a/\(∃xs,nL K H1 a xs)/\R (Lr K a) H1
def KD(K:Fg1)(tl:TE):TI:=fun σ H R=>tl σ H λx H1=>∃a,x = .ref a/\(∃xs,lY K H1 a xs)/\R (Lq K a) H1
theorem CF{l:Expr}{tl:TE}(m:PE X l tl):PI X tg l (IT X.K tl):=by
 intro ag s σ H R I h;refine fO (m ag s σ H _ I h) λv d ⟨x,H1,c,f,g⟩=>?_;obtain⟨a,e,⟨xs,j⟩,q⟩:=g;subst e;cases f;obtain⟨k,r,p,n⟩:=c.list j;refine wpAny_pyIter_list p.isList ?_;refine⟨d.heap.objs.size,[d.heap.objs.size],_,_,H1,O,c.kept (t':=d.toks) λb o e=>hP1 _ e,x4 a _,⟨_,hS1 _ O,O,O⟩,λb i=>?_,q⟩;have e:b=d.heap.objs.size:=by simpa using i
 subst e;exact c.fpOk (nR1 _) (c.hok.fresh (nR1 _))
theorem FH{l:Expr}{tl:TE}(m:PE X l tl):PI X tg l (KD X.K tl):=by
 intro ag s σ H R I h;refine fO (m ag s σ H _ I h) λv c ⟨x,H1,d,g,i⟩=>?_;obtain⟨a,e,⟨xs,k⟩,q⟩:=i;subst e;cases g;obtain⟨f,r,p,n⟩:=d.tuple k;refine wpAny_pyIter_tuple (show c.heap.IsTuple a f.toArray from p) ?_;refine⟨c.heap.objs.size,[c.heap.objs.size],_,_,H1,O,d.kept (t':=c.toks) λb o e=>hP1 _ e,vh a _,⟨_,hS1 _ O,O,O⟩,λb j=>?_,q⟩;have e:b=c.heap.objs.size:=by simpa using j
 subst e;exact d.fpOk (nR1 _) (d.hok.fresh (nR1 _))
theorem tU{ag:List (dP×Obj)}{σ:St}{H:Hp}{s:dN}{R:It->Hp->Prop}{E:dM->dN->Prop}{lo hi:Int}{t u v:Tok}{tk:Nat}(I:Inv X ag σ H s)(h1: -(2^62)<=lo)(h2:lo<2^62)(c: -(2^62)<=hi)(h:hi<2^62)(q:R (JA lo (hi-lo).toNat) H):dX (model X.prog X.w) X.A (pyIter (.ref s.heap.objs.size)) (Lo X ag σ tg R) E {s with heap:=s.heap.push {cls:=.type "range",data:=.fields #[.int lo t,.int hi u,.int 1 v]},toks:=tk}:=by
 refine wpAny_pyIter_range (IsRange.new ..) (small_one h1 h2 c h) ?_;have a:Inv X ag σ H {s with heap:=s.heap.push {cls:=.type "range",data:=.fields #[.int lo t,.int hi u,.int 1 v]},toks:=tk}:=I.kept λb o e=>hP1 _ e;refine⟨(s.heap.push {cls:=.type "range",data:=.fields #[.int lo t,.int hi u,.int 1 v]}).objs.size,[(s.heap.push {cls:=.type "range",data:=.fields #[.int lo t,.int hi u,.int 1 v]}).objs.size],_,_,H,O,
  a.kept (t':=tk) λb o e=>hP1 _ e,vi _ lo (hi-lo).toNat,?_,λb f=>?_,q⟩
 ·have d:lo+((0:Nat):Int)*1=lo:=by simp
  have g:(((hi-lo).toNat:Nat):Int)-((0:Nat):Int)=Builtin.Range.rangeSize lo hi 1:=by rw[rangeSize_one];split<;>lia
  show IsRangeIter _ _ (lo+((0:Nat):Int)*1) ((((hi-lo).toNat:Nat):Int)-((0:Nat):Int)) 1;rw[d,g];exact hS1 _ O
 ·have e:b=(s.heap.push {cls:=.type "range",data:=.fields #[.int lo t,.int hi u,.int 1 v]}).objs.size:=by simpa using f
  subst e;exact a.fpOk (nR1 _) (a.hok.fresh (nR1 _))
def IR(ta:TA):TI:=fun σ H R=>ta σ H λvs H1=>∃j:Int,vs=[.int j] /\ -(2^62)<=j/\j<2^62/\R (JA 0 j.toNat) H1
def IQ(ta:TA):TI:=fun σ H R=>ta σ H λvs H1=>∃i j:Int,vs=[.int i,.int j]/\(-(2^62)<=i/\i<2^62 /\ -(2^62)<=j/\j<2^62)/\R (JA i (j-i).toNat) H1
theorem yn {a:Expr}{ta:TA}{p pos:Pos}(hg:Gl X "range")(hm:X.mg "range"=Y)(ha:PA X [a] ta)(hs:autoParam (dV [a] X.env=[(J,eval a X.env)]) au0):PI X tg (.Call (.Name "range" p) [a] [] pos) (IR ta):=by
 intro ag s σ H R I h;refine Call_ (jC I hg hm boot_range (PyProof.Rows.callWith_type1 (fO (ha pos ag s σ H _ I h) λk i ⟨vs,H1,f,d,b⟩=>?_) hs O));obtain⟨j,e,b,g,q⟩:=b;subst e;cases d with
 |cons r c=>
  cases c;obtain⟨t,rfl⟩:=r;exact call_range_1 (tU f (by lia) (by lia) b g (by simpa using q))
theorem ym {a b:Expr}{ta:TA}{p pos:Pos}(hg:Gl X "range")(hm:X.mg "range"=none)(ha:PA X [a,b] ta)(hs:autoParam (dV [a,b] X.env=[(false,eval a X.env),(false,eval b X.env)]) au0)(hs2:autoParam (dV [b] X.env=[(false,eval b X.env)]) au0):
  PI X tg (.Call (.Name "range" p) [a,b] [] pos) (IQ ta):=by
 intro ag s σ H R I h;refine Call_ (jC I hg hm boot_range (PyProof.Rows.callWith_type1 (fO (ha pos ag s σ H _ I h) λv o ⟨vs,H1,g,f,d⟩=>?_) (by rw[hs,hs2]) (by rw[hs2];rfl)));obtain⟨i,j,e,⟨d,n,m,l⟩,q⟩:=d;subst e;cases f with
 |cons r c=>
  cases c with
  |cons k c=>
   cases c;obtain⟨t,rfl⟩:=r;obtain⟨u,rfl⟩:=k;exact call_range_2 (tU g d n m l q)
noncomputable def HR(wi:TI)(g:TG)(tb:TS):TS:=λD σ H=>wi σ H λao H1=>∃W:Nat->Nat->St->Hp->Prop,(∃m,W 0 m σ H1) /\ ∀i m σ H,W i m σ H ->
 (ao.stop i H/\D.nx σ H)\/(ao.go i H /\ ∃N:St->Hp->Prop,(∀ σ' H',N σ' H' -> ∃m',m'<m/\W (i+1) m' σ' H') /\ ∀x H',ao.yld i H x H'->g x σ H' fun σ2 H2=>tb {D with nx:=N,ct:=N,bk:=D.nx} σ2 H2)
noncomputable def oo(fp:List dP)(h:dY):List (dP×Obj):=fp.filterMap λb=>(h.get? b).map λo=>(b,o)
theorem jd{a:List dP}{h:dY}{b:dP}{o:Obj}(hb:b∈a)(e:h.get? b=Z o):(b,o)∈oo a h:=aM.mpr ⟨b,hb,by rw[e];rfl⟩
theorem yp{a:List dP}{h:dY}{p:dP×Obj}(hp:p∈oo a h):p.1∈a/\h.get? p.1=Z p.2:=by
 obtain⟨b,d,e⟩:=aM.mp hp;cases q:h.get? b with
 |none=>rw[q]at e;cases e
 |some o=>
  rw[q]at e;have c:(b,o)=p:=Option.some.inj e;subst c;exact⟨d,q⟩
theorem Inv.pinned{ag:List (dP×Obj)}{σ:St}{H:Hp}{s:dN}{a:List dP}(I:Inv X ag σ H s)(hf:∀b∈a,j5 X ag H b)(ho:∀b∈a,∃o,s.heap.get? b=Z o /\ ∀v,o.data ≠ .cell v):Inv X (ag++oo a s.heap) σ H s:=
 I.pins_of λp g=>(aH.mp g).elim (λz=>I.pin p (mA1 _ z)) λz=>by
  obtain⟨f,e⟩:=yp z;obtain⟨h,i,j,_⟩:=hf p.1 f;obtain⟨o,c,d⟩:=ho p.1 f;rw[e]at c;cases c;exact⟨e,h,i,j,d⟩
theorem Inv.unpinned{ag pl:List (dP×Obj)}{σ:St}{H:Hp}{s:dN}(I:Inv X (ag++pl) σ H s):Inv X ag σ H s:=I.pins_of λp a=>I.pin p (mA1 _ (aI _ a))
theorem Fy{iter:Expr}{t:List d0}{wi:TI}{g:TG}{tb:TS}{pos:Pos}(hp:PassesOwn (model X.prog X.w) X.A X.env X.xe)(hc:X.calm=M)(hi:PI X tg iter wi)(hg:PG X tg g)(hb:u7 X t tb)(hs:autoParam (∀x,foldedSetIterable iter X.env x=pure x) du0):PS X (.For tg iter t [] pos) (HR wi g tb):=by
 intro ag s σ H D I h;refine wpAny_For (fO (hi ag s σ H _ I h) λv s1 h1=>fO h1 λitv s2 h2=>?_) hs;obtain⟨it,A,au,ao,H2,e,I2,T,P,V,W,⟨m0,w0⟩,E⟩:=h2;subst e
 -- what stays M of the iterator's objects through the loop
 have j:∀{H':Hp},(∀b∈A,H' b=Y) -> ∀b∈A,j5 X ag H' b:=λhn b hb=>⟨hn b hb,(V b hb).2⟩;refine codeAny_forLoop_any (λn s'=>∃i c H',Inv X ag c H' s'/\au i s'.heap/\(∀b∈A,H' b=Y)/\W i n c H') ?_ m0 ⟨0,σ,H2,I2,P,λb hb=>(V b hb).1,w0⟩;rintro n R ⟨i,p,G,wq,C,B,w3⟩;rcases E i n p G w3 with⟨F,qn⟩|⟨go,N,hN,step⟩
 ·refine wpAny_passesOwn hp (fO (T.done X O O O hc i ag R p G X.xe wq (j B) C F) λr s4 ⟨L,I4⟩=>?_);subst L;exact wpAny_execs_nil ⟨p,G,I4,qn⟩
 ·refine wpAny_passesOwn hp (fO (T.item X rfl rfl rfl hc i ag R p G X.xe wq (j B) C go) fun r s4 ⟨u,L,h4⟩=>?_);subst L;refine wpAny_passesOwn hp (fO h4 fun _ S ⟨x,U,I5,r5,y5,y,K⟩=>?_);have aq:=I5.pinned (j K) (T.obj _ _ y);refine wpAny_passesOwn hp (fO (hg _ S p U x u _ aq r5 (step x U y5)) fun _ s6 ⟨Q,H6,I6,q6⟩=>?_);refine wpAny_passesOwn hp (fO (hb _ s6 Q H6 _ I6 q6) fun f av w=>?_);have l:∀ {a:St} {k:Hp},Inv X (ag++oo A S.heap) a k av->N a k -> ∃ m,m<n /\ ∃ i c H',Inv X ag c H' av/\au i av.heap/\(∀ b∈A,H' b=none)/\W i m c H':=fun {a k} q z=>by
   obtain⟨m',hm,w7⟩:=hN a k z;refine⟨m',hm,i+1,a,k,q.unpinned,T.keep _ _ _ y λb hb o e=>(q.pin (b,o) (mA1 _ (mA1 _ (jd hb e)))).1,λb hb=>?_,w7⟩;obtain⟨o,e,d⟩:=T.obj _ _ y b hb;exact(q.pin (b,o) (mA1 _ (mA1 _ (jd hb e)))).2.1
  cases f with
  |next=>obtain⟨a,k,q,z⟩:=w;exact l q z
  |cont=>obtain⟨a,k,q,z⟩:=w;exact l q z
  |brk=>obtain⟨a,k,q,w⟩:=w;exact⟨a,k,q.unpinned,w⟩
  |ret v=>obtain⟨x7,a,k,q,r7,w⟩:=w;exact⟨x7,a,k,q.unpinned,r7,w⟩
end
abbrev R2:=V->V->Hp->VK->Prop
def gF(X:Cx)(f:dM->dM->Sem dM)(r:R2):Prop:=
 ∀(ag:List (dP×Obj)) (s:dN) (σ:St) (H:Hp) (x y:V) (v u:dM) (Q:VK),Inv X ag σ H s->ew x v->ew y u->r x y H Q ->
  dX (model X.prog X.w) X.A (f v u) (EP X ag σ Q) X.xe s
def HA(X:Cx)(f:dM->Sem dM)(r:V->Hp->VK->Prop):Prop:=
 ∀(ag:List (dP×Obj)) (s:dN) (σ:St) (H:Hp) (x:V) (v:dM) (Q:VK),Inv X ag σ H s->ew x v->r x H Q ->
  dX (model X.prog X.w) X.A (f v) (EP X ag σ Q) X.xe s
def fH(X:Cx)(f:dM)(r:List V->Hp->VK->Prop):Prop:=
 ∀(ag:List (dP×Obj)) (s:dN) (σ:St) (H:Hp) (xs:List V) (us:List dM) (Q:VK),Inv X ag σ H s->eI xs us->r xs H Q ->
  dX (model X.prog X.w) X.A (call f us) (EP X ag σ Q) X.xe s
def KP(X:Cx)(r:V->Hp->(Bool->Hp->Prop)->Prop):Prop:=
 ∀(ag:List (dP×Obj)) (s:dN) (σ:St) (H:Hp) (x:V) (v:dM) (Q:Bool->Hp->Prop),Inv X ag σ H s->ew x v->r x H Q ->
  dX (model X.prog X.w) X.A (truthy v) (TP X ag σ Q) X.xe s
noncomputable def HN(r:R2)(ta tb:TE):TE:=fun σ H Q=>ta σ H λx H1=>tb σ H1 λy H2=>r x y H2 Q
def K1(r:V->Hp->VK->Prop)(ta:TE):TE:=fun σ H Q=>ta σ H λx H1=>r x H1 Q
def rI(C:Int->Int->Prop)(g:Int->Int->V):R2:=λx y H Q=>∃i j,x = .int i/\y = .int j/\C i j/\Q (g i j) H
noncomputable def Es(g:Int->Int->V):R2:=λx y H Q=>∃i j,x = .int i/\y = .int j/\Q (g i j) H
def rU(g:Int->V):V->Hp->VK->Prop:=λx H Q=>∃i,x = .int i/\Q (g i) H
section
variable{a b c:Expr}{ta tb tc:TE}{pos:Pos}
theorem Hg(ha:PE X a ta)(hb:PE X b tb){ag:List (dP×Obj)}{s:dN}{σ:St}{H:Hp}{R:V->V->Hp->Prop}(I:Inv X ag σ H s)(h:ta σ H fun x H1=>tb σ H1 fun y H2=>R x y H2){Q:dM->dN->Prop}{f:dM->dM->Sem dM}(hf:∀v u e x y H2,Inv X ag σ H2 e->ew x v->ew y u->R x y H2->dX (model X.prog X.w) X.A (f v u) Q X.xe e):
  dX (model X.prog X.w) X.A (eval a X.env) (λv c=>dX (model X.prog X.w) X.A (eval b X.env) (λu d=>dX (model X.prog X.w) X.A (f v u) Q X.xe d) X.xe c) X.xe s:=by
 refine fO (ha ag s σ H _ I h) λv l ⟨x,H1,i,g,k⟩=>?_;refine fO (hb ag l σ H1 _ i k) λu e ⟨y,H2,j,r2,m⟩=>?_;exact hf v u e x y H2 j g r2 m
theorem Ij{op:Operator}{r:R2}(ho:gF X (binaryOp op) r)(ha:PE X a ta)(hb:PE X b tb):PE X (.BinOp a op b pos) (HN r ta tb):=by
 intro ag s σ H Q I h;exact wpAny_BinOp (Hg ha hb I h λv u d x y H2 c e f q=>ho ag d σ H2 x y v u Q c e f q)
theorem Ii{op:UnaryOp}{r:V->Hp->VK->Prop}(ho:HA X (unaryOp op) r)(ha:PE X a ta):PE X (.UnaryOp op a pos) (K1 r ta):=by
 intro ag s σ H Q I h;exact UnaryOp_ (fO (ha ag s σ H _ I h) λv e ⟨x,H1,c,b,d⟩=>ho ag e σ H1 x v Q c b d)
theorem JI{f:dM->dM->Sem dM}{C:Int->Int->Prop}{g:Int->Int->Int}(a:∀(i j:Int) (t u:Tok) (s:dN) (Q:dM->dN->Prop) (E:dM->dN->Prop),C i j->Q (.int (g i j) s.toks) {s with toks:=s.toks+1}->dX (model X.prog X.w) X.A (f (.int i t) (.int j u)) Q E s):
  gF X f (rI C λi j=>.int (g i j)):=by
 intro ag s σ H x y v u Q I d c h;obtain⟨i,j,rfl,rfl,hc,q⟩:=h;obtain⟨t,rfl⟩:=d;obtain⟨b,rfl⟩:=c;exact a i j t b s _ _ hc ⟨.int (g i j),H,I.tok _,⟨_,O⟩,q⟩
theorem F5{f:dM->dM->Sem dM}{g:Int->Int->Int}(a:∀(i j:Int) (t u:Tok) (s:dN) (Q:dM->dN->Prop) (E:dM->dN->Prop),Q (.int (g i j) s.toks) {s with toks:=s.toks+1}->dX (model X.prog X.w) X.A (f (.int i t) (.int j u)) Q E s):
  gF X f (Es λi j=>.int (g i j)):=by
 intro ag s σ H x y v u Q I d c h;obtain⟨i,j,rfl,rfl,q⟩:=h;obtain⟨t,rfl⟩:=d;obtain⟨b,rfl⟩:=c;exact a i j t b s _ _ ⟨.int (g i j),H,I.tok _,⟨_,O⟩,q⟩
theorem Ir{f:dM->dM->Sem dM}{g:Int->Int->Bool}(a:∀(i j:Int) (t u:Tok) (s:dN) (Q:dM->dN->Prop) (E:dM->dN->Prop),Q (.bool (g i j)) s->dX (model X.prog X.w) X.A (f (.int i t) (.int j u)) Q E s):
  gF X f (Es λi j=>.bl (g i j)):=by
 intro ag s σ H x y v u Q I d c h;obtain⟨i,j,rfl,rfl,q⟩:=h;obtain⟨t,rfl⟩:=d;obtain⟨b,rfl⟩:=c;exact a i j t b s _ _ ⟨.bl (g i j),H,I,O,q⟩
def JD(i j:Int):Prop:=0<j/\j<1073741824
def JC(i j:Int):Prop:=0<=j/\j<=1000000/\i.natAbs<2^64
theorem F4:gF X (binaryOp .Add) (Es λi j=>.int (i+j)):=F5 λ_ _ _ _ _ _ _ q=>add_int q
theorem FY:gF X (binaryOp .Sub) (Es λi j=>.int (i-j)):=F5 λ_ _ _ _ _ _ _ q=>sub_int q
theorem CO:gF X (binaryOp .FloorDiv) (rI JD λi j=>.int (i/j)):=JI λi j _ _ _ _ _ hc q=>by
 have h1:(0:Int)<j:=hc.1;have h2:j<1073741824:=hc.2;exact floordiv_int (by lia) (by rw[Int.fdiv_eq_ediv_of_nonneg i (by lia)];exact q) (.inl (PyProof.noPylong_small (by lia)))
theorem F1:gF X (binaryOp .Mod) (rI (λ_ j=>0<j) λi j=>.int (i%j)):=JI λi j _ _ _ _ _ hc q=>by
 have h1:(0:Int)<j:=hc;exact mod_int' (by lia) (by rw[Int.fmod_eq_emod_of_nonneg i (by lia)];exact q)
theorem F0:gF X (binaryOp .Pow) (rI JC λi j=>.int (i^j.toNat)):=JI λ_ _ _ _ _ _ _ hc q=>pow_int_small hc.1 hc.2.1 hc.2.2 q
theorem Dy:gF X (inplaceOp .Add) (Es λi j=>.int (i+j)):=F5 λ_ _ _ _ _ _ _ q=>iadd_int q
theorem Lv{f:dM->Sem dM}{g:Int->Int}(a:∀(i:Int) (t:Tok) (s:dN) (Q:dM->dN->Prop) (E:dM->dN->Prop),Q (.int (g i) s.toks) {s with toks:=s.toks+1}->dX (model X.prog X.w) X.A (f (.int i t)) Q E s):
  HA X f (rU λi=>.int (g i)):=by
 intro ag s σ H x v Q I b h;obtain⟨i,rfl,q⟩:=h;obtain⟨t,rfl⟩:=b;exact a i t s _ _ ⟨.int (g i),H,I.tok _,⟨_,O⟩,q⟩
theorem ET:HA X (unaryOp .USub) (rU λi=>.int (-i)):=Lv λ_ _ _ _ _ q=>neg_int q
theorem Bm{ag:List (dP×Obj)}{σ:St}{H:Hp}{s:dN}{Q:VK}{k k':Bool}(I:Inv X ag σ H s)(q:Q (.bl k) H)(e:k=k'):EP X ag σ Q (.bool k') s:=by
 subst e;exact⟨.bl k,H,I,O,q⟩
theorem Ip:gF X (compareOp .Gt) (Es λi j=>.bl (decide (j<i))):=Ir λ_ _ _ _ _ _ _ q=>gt_int q
theorem Iq:gF X (compareOp .GtE) (Es λi j=>.bl (decide (j<=i))):=Ir λ_ _ _ _ _ _ _ q=>ge_int q
theorem F2:gF X (compareOp .Is) (λx y H Q=>y = .non/\Q (.bl (decide (x = .non))) H):=by
 intro ag s σ H x y v u Q I a b h;obtain⟨rfl,q⟩:=h;cases b;refine is_none_gen (Bm I q ?_);cases x<;>first
  |(cases a;rfl)
  |(obtain⟨t,rfl⟩:=a;rfl)
theorem CN:gF X (compareOp .IsNot) (λx y H Q=>y = .non/\Q (.bl (!decide (x = .non))) H):=by
 intro ag s σ H x y v u Q I a b h;obtain⟨rfl,q⟩:=h;cases b;refine isnot_none_gen (Bm I q ?_);cases x<;>first
  |(cases a;rfl)
  |(obtain⟨t,rfl⟩:=a;rfl)
theorem AC(b:Expr){op:CmpOp}(h:autoParam (op ≠ .In) bu0)(h2:autoParam (op ≠ .NotIn) bu0):behindInMarks op b=J:=by
 have c:(op == CmpOp.In)=J:=by cases op<;>first|rfl|exact absurd rfl h
 have a:(op == CmpOp.NotIn)=J:=by cases op<;>first|rfl|exact absurd rfl h2
 cases b<;>simp[behindInMarks,c,a]
theorem CK{op:CmpOp}{r:R2}(ho:gF X (compareOp op) r)(ha:PE X a ta)(hb:PE X b tb)(hm:behindInMarks op b=J):PE X (.Compare a [op] [b] pos) (HN r ta tb):=by
 intro ag s σ H Q I h;exact wpAny_Compare1 (Hg ha hb I h λv u d x y H2 c e f q=>ho ag d σ H2 x y v u Q c e f q) hm
noncomputable def HL(t:TE):TT:=fun σ H Q=>t σ H λx H'=>∃k,x = .bl k/\Q k H'
theorem Cv{op:CmpOp}{r:R2}(ho:gF X (compareOp op) r)(ha:PE X a ta)(hb:PE X b tb)(hm:behindInMarks op b=J):PT X (.Compare a [op] [b] pos) (HL (HN r ta tb)):=by
 intro ag s σ H Q I h;refine wpAny_isTrue_Compare1 (fO (ha ag s σ H _ I h) λv j ⟨x,H1,f,d,i⟩=>fO (hb ag j σ H1 _ f i) λu l ⟨y,H2,g,r2,p⟩=>
  fO (ho ag l σ H2 x y v u _ g d r2 p) λc t ⟨z,m,n,q,k,e,o⟩=>?_) hm
 subst e;cases q;exact wpAny_truthy_bool ⟨m,n,o⟩
def Ee(K:Fg1)(x:V)(H:Hp)(k:Bool):Prop:=
 match x with
 | .non=>k=J
 | .bl b=>k=b
 | .int i=>k=(i != 0)
 | .str y=>y.length<=dW/\k=((y.length:Int) != 0)
 | .byt y=>y.size<=dW/\k=((y.size:Int) != 0)
 | .ref p=>(∃xs,nL K H p xs/\k = !xs.isEmpty)\/(∃xs,lY K H p xs/\k = !xs.isEmpty) \/ ∃kvs,H p=Z (.dK kvs)/\k = !kvs.isEmpty
 |_=>False
theorem vL{κ:Type}{kvs:List (κ×V)}{vs:List (κ×dM)}(r:KV kvs vs):(!vs.isEmpty) = !kvs.isEmpty:=by
 cases r<;>rfl
theorem oI{xs:List V}{its:List dM}(r:eI xs its):(!its.toArray.isEmpty) = !xs.isEmpty:=by
 cases r<;>simp
theorem mm:(dW:Nat)<2^63:=by rw[sizeLine_eq];decide
theorem EY:KP X (λx H Q=>∃k,Ee X.K x H k/\Q k H):=by
 intro ag s σ H x v Q I d h;obtain⟨k,e,q⟩:=h;have o:=mm;have u:dW=16777216:=sizeLine_eq;cases x with
 |non=>
  cases d;have a:k=J:=e;subst a;exact truthy_none ⟨H,I,q⟩
 |bl b=>
  cases d;have a:k=b:=e;subst a;exact wpAny_truthy_bool ⟨H,I,q⟩
 |int i=>
  obtain⟨t,rfl⟩:=d;have a:k=(i != 0):=e;subst a;exact PySem.P.truthy_int ⟨H,I,q⟩
 |str y=>
  obtain⟨t,rfl⟩:=d;obtain⟨n,a⟩:y.length<=dW/\k=((y.length:Int) != 0):=e;subst a;exact PySem.P.truthy_str (by lia) ⟨H,I.tok _,q⟩
 |byt y=>
  obtain⟨t,rfl⟩:=d;obtain⟨n,a⟩:y.size<=dW/\k=((y.size:Int) != 0):=e;subst a;exact PySem.W.truthy_bytes (by lia) ⟨H,I.tok _,q⟩
 |ref p=>
  cases d;have a:(∃xs,nL X.K H p xs/\k = !xs.isEmpty)\/(∃xs,lY X.K H p xs/\k = !xs.isEmpty) \/ ∃kvs,H p=Z (.dK kvs)/\k = !kvs.isEmpty:=e;rcases a with⟨xs,f,a⟩|⟨xs,f,a⟩|⟨kvs,f,a⟩
  ·subst a;obtain⟨g,r,pl,j⟩:=I.list f;have c:=r.length;exact wpAny_truthy_list pl.isList (by simp only[sT1];lia) ⟨H,I.tok _,by rw[oI r];exact q⟩
  ·subst a;obtain⟨g,r,pl,j⟩:=I.tuple f;have c:=r.length;exact truthy_tuple pl (by simp only[sT1];lia) ⟨H,I.tok _,by rw[oI r];exact q⟩
  ·subst a;obtain⟨j,l,vs,r,m⟩:kvs.length<=dW/\(p == sysModules)=false /\ ∃vs,KV kvs vs/\s.heap.DictOf (fu X.prog X.w) p vs:=I.hok p _ f;have c:kvs.length=vs.length:=Paired.length r;exact wpAny_truthy_dict l m (by lia) ⟨H,I.tok _,by rw[vL r];exact q⟩
 |_=>exact(show False from e).elim
theorem Ae(ha:PE X a ta)(he:∀ b,isTrue a X.env b=(do let v<-b;standAt a.pos;holding [v] (truthy v))):
  PT X a (fun σ H Q=>ta σ H λx H'=>∃k,Ee X.K x H' k/\Q k H'):=by
 intro ag s σ H Q I h;exact isTrue_plain (fO (ha ag s σ H _ I h) λv f ⟨x,H1,d,c,e⟩=>EY ag f σ H1 x v Q d c e) (he _)
theorem vy:gF X (binaryOp .Add) (λx y H Q=>∃i j,x = .str i/\y = .str j/\i.length+j.length<=dW/\Q (.str (i++j)) H):=by
 intro ag s σ H x y v u Q I c b h;obtain⟨i,j,rfl,rfl,d,q⟩:=h;obtain⟨t,rfl⟩:=c;obtain⟨a,rfl⟩:=b;exact add_str (λa tk=>⟨.str (i++j),H,I.tok _,⟨_,O⟩,q⟩) d
theorem jr{x:V}{a:List dM}(r:eI [x] a):∃u,a=[u]/\ew x u:=by
 cases r with
 |cons b r2=>cases r2;exact⟨_,O,b⟩
theorem zG{x y:V}{a:List dM}(r:eI [x,y] a):∃u w',a=[u,w']/\ew x u/\ew y w':=by
 cases r with
 |cons b r2=>
  cases r2 with
  |cons d c=>cases c;exact⟨_,_,O,b,d⟩
theorem zg(hc:X.calm=M):fH X (.builtin "max") (λxs H Q=>∃i j,xs=[.int i,.int j]/\Q (.int (if j>i then j else i)) H):=by
 intro ag s σ H xs b Q I r h;obtain⟨i,j,rfl,q⟩:=h;obtain⟨u,d,rfl,⟨t,rfl⟩,⟨c,rfl⟩⟩:=zG r;refine max_two_ints (I.ok.hd hc) λh' tk k=>⟨_,H,I.kept k,?_,q⟩;by_cases a:j>i
 ·rw[ak a,ak a];exact⟨_,O⟩
 ·rw[aj a,aj a];exact⟨_,O⟩
theorem zf(hc:X.calm=M):fH X (.builtin "min") (λxs H Q=>∃i j,xs=[.int i,.int j]/\Q (.int (if j<i then j else i)) H):=by
 intro ag s σ H xs b Q I r h;obtain⟨i,j,rfl,q⟩:=h;obtain⟨u,d,rfl,⟨t,rfl⟩,⟨c,rfl⟩⟩:=zG r;refine min_two_ints (I.ok.hd hc) λh' tk k=>⟨_,H,I.kept k,?_,q⟩;by_cases a:j<i
 ·rw[ak a,ak a];exact⟨_,O⟩
 ·rw[aj a,aj a];exact⟨_,O⟩
theorem rn:fH X (.type "int") (λxs H Q=>(∃i,xs=[.int i]/\Q (.int i) H) \/ ∃k,xs=[.bl k]/\Q (.int (if k then 1 else 0)) H):=by
 intro ag s σ H xs b Q I r h;rcases h with⟨i,rfl,q⟩|⟨k,rfl,q⟩
 ·obtain⟨u,rfl,t,rfl⟩:=jr r;exact call_int_int ⟨.int i,H,I,⟨_,O⟩,q⟩
 ·obtain⟨u,rfl,a⟩:=jr r;cases a;exact call_int_bool ⟨.int (if k then 1 else 0),H,I.tok _,⟨_,O⟩,q⟩
end
structure Hs (h:dY)(x dx C:dP)(mA:Str->Option dM):Prop where
 obj:h.get? x=some (PySem.W.instObj C dx)
 ns:h.Ns1 dx mA
 ne:dx≠x
theorem yC{h:dY}{dx:dP}{mA:Str->Option dM}(n:h.Ns1 dx mA):∃c,h.get? dx=Z c /\ ∀name,PySem.W.lookIn name c=Z (mA name):=by
 obtain⟨o,es,ep,j,i,f,_,g⟩:=n;refine⟨o,j,λname=>?_⟩;have e:=g name;unfold nsFind findBy at e;rw[<- Array.find?_toList]at e;unfold PySem.W.lookIn;rw[i];dsimp only;split
 ·rename_i y q;rw[q]at e;exact congrArg Z e
 ·rename_i q;rw [q] at e;have a:es.toList.any (·.refKey)=false:=by
   rw[aN];intro y k;obtain⟨z,t,b⟩:=f y (aO.mp k);simp[DictEntry.refKey,b]
  have d:¬ es.toList.any (·.refKey)=M:=by rw[a];exact aL
  rw[aj d];exact congrArg Z e
theorem Hs.look{h:dY}{x dx C:dP}{mA:Str->Option dM}(I:Hs h x dx C mA):∃a,PySem.W.InstAt h x (PySem.W.instObj C dx) C (Z a) /\ ∀name,PySem.W.lookIn name a=Z (mA name):=
 let ⟨a,ho,hl⟩:=yC I.ns
 ⟨a,⟨I.obj,O,O,ho⟩,hl⟩
section
variable{prog:dQ}{w:dS}{A:dR}{E:dM->dN->Prop}{s:dN}{K:Fg1}{x dx C f:dP}{mA:Str->Option dM}{name:Str}{v:dM}
end
theorem mH.some_of{v:V}{o:Option dM}(r:mH (Z v) o):∃u,o=Z u/\ew v u:=by
 cases o with
 |none=>exact(show False from r).elim
 |some u=>exact⟨u,O,r⟩
section
variable{P:dQ}{w:dS}{H H':Hp}{h h':dY}{a C dx:dP}{fs fs':List (Str×V)}
theorem DA(b:kF P w H h)(e:H a=Z (.ins C dx fs)):∃mA,Hs h a dx C mA/\(∀f,mH (fs.lookup f) (mA f))/\PySem.Within mA (fs.map (·.1))/\fs.length<=1000/\H dx=Z (.own a):=by
 obtain⟨d,z,ne,c,mA,n,r,q⟩:=(show eY P w H h a (.ins C dx fs)from b a _ e);exact⟨mA,⟨c,n,ne⟩,r,q,z,d⟩
end
structure KY (K:Fg1)(C:dP):Prop where
 pg:PySem.W.plainGet K C Str.empty=true
 hd:PySem.W.hasDictIn K C=true
 po:PySem.W.plainOver K C=true
 sa:PySem.W.findIn K (.ref C) "__setattr__"=some (some (.builtin "object.__setattr__"))
theorem KY.get{K:Fg1}{C:dP}(c:KY K C)(f:Str):PySem.W.plainGet K C f=M:=c.pg
section
variable{ag:List (dP×Obj)}{σ:St}{H:Hp}{s:dN}{a C dx:dP}{fs:List (Str×V)}{f:Str}{v:V}{A:dR}{E:dM->dN->Prop}
end
section
variable{o e value:Expr}{f:Str}{pos pos' tpos:Pos}{ta tv:TE}
end
section
variable{ag:List (dP×Obj)}{σ:St}{H:Hp}{s:dN}{A:dR}{E:dM->dN->Prop}{Q:dM->dN->Prop}{c:dM}{b:Bool}
inductive ny (K:Fg1)(H:Hp):V->dM->Prop where
 |non:ny K H .non (.type "NoneType")
 |bl (x:Bool):ny K H (.bl x) (.type "bool")
 |int (i:Int):ny K H (.int i) (.type "int")
 |str (x:Str):ny K H (.str x) (.type "str")
 |flt (x:UInt64):ny K H (.flt x) (.type "float")
 |lst {a:dP} {xs:List V} (e:H a=some (.lst xs)):ny K H (.ref a) (.type "list")
 |frz {a:dP} {o:Obj} {xs:List V} (e:H a=some (.frz o (.lst xs))):ny K H (.ref a) (.type "list")
 |tup {a:dP} {xs:List V} (e:H a=some (.tup xs)):ny K H (.ref a) (.type "tuple")
 |dK {a:dP} {kvs:List (Key×V)} (e:H a=some (.dK kvs)):ny K H (.ref a) (.type "dict")
 |dT {a:dP} {kvs:List (List Key×V)} (e:H a=some (.dT kvs)):ny K H (.ref a) (.type "dict")
 | ins {a C dx:dP} {fs:List (Str×V)} (e:H a=some (.ins C dx fs)) (cl:KY K C) (ha:PySem.W.findIn K (.ref C) "__class__"=some (some (.builtin "object.__class__")))
   (hn:PySem.W.specialIn K (.builtin "object.__class__") "__get__"=some (some (.builtin "getset_descriptor.__get__"))) (htk:PySem.W.takesIn K (.builtin "object.__class__")=some true)
   (hm:PySem.W.mroIn K C (.type "object")=some true):ny K H (.ref a) (.ref C)
theorem iT{x:V}{u t:dM}(I:Inv X ag σ H s)(f:ew x u)(ty:ny X.K H x t)(e:PySem.W.kitOne X.K t c=some b)(h:∀ tk,Q (.bool b) {s with toks:=tk}):
  dX (model X.prog X.w) A (call (.builtin "isinstance") [u,c]) Q E s:=by
 cases ty with
 |non=>cases(show u=Value.none from f);exact PySem.W.kia_one PySem.W.kitx_none I.kIn True.intro e (λz=>nomatch z) h
 |bl y=>cases(show u=Value.bool y from f);exact PySem.W.kia_one PySem.W.kitx_bool I.kIn True.intro e (λz=>nomatch z) h
 |int i=>obtain⟨t,q⟩:=(show∃t,u=Value.int i t from f);cases q;exact PySem.W.kia_one PySem.W.kitx_int I.kIn True.intro e (λz=>nomatch z) h
 |str y=>obtain⟨t,q⟩:=(show∃t,u=Value.str y t from f);cases q;exact PySem.W.kia_one PySem.W.kitx_str I.kIn True.intro e (λz=>nomatch z) h
 |flt y=>obtain⟨t,q⟩:=(show∃t,u=Value.float y t from f);cases q;exact PySem.W.kia_one PySem.W.kitx_float I.kIn True.intro e (λz=>nomatch z) h
 | @lst a xs d=>
  cases(show u=Value.ref a from f);obtain⟨_,_,n,_,h1⟩:=(show eY X.prog X.w H s.heap a (.lst xs)from I.hok a _ d);exact PySem.W.kia_one PySem.W.kitx_list I.kIn ⟨_,h1,O⟩ e (λz=>nomatch z) h
 | @frz a l xs d=>
  cases(show u=Value.ref a from f);obtain⟨_,_,_,n,_,h1⟩:=(show eY X.prog X.w H s.heap a (.frz l (.lst xs))from I.hok a _ d);exact PySem.W.kia_one PySem.W.kitx_list I.kIn ⟨_,h1,O⟩ e (λz=>nomatch z) h
 | @tup a xs d=>
  cases(show u=Value.ref a from f);obtain⟨_,_,_,p⟩:=(show eY X.prog X.w H s.heap a (.tup xs)from I.hok a _ d);obtain⟨o,h1,h2,_⟩:=p;exact PySem.W.kia_one PySem.W.kitx_tuple I.kIn ⟨o,h1,h2⟩ e (λz=>nomatch z) h
 | @dK a kvs d=>
  cases(show u=Value.ref a from f);obtain⟨_,_,vs,_,p⟩:=(show eY X.prog X.w H s.heap a (.dK kvs)from I.hok a _ d);obtain⟨o,es,ep,h1,h2,_⟩:=p;exact PySem.W.kia_one PySem.W.kitx_dict I.kIn ⟨o,h1,h2.1⟩ e (λz=>nomatch z) h
 | @dT a kvs d=>
  cases(show u=Value.ref a from f);obtain⟨_,_,xs,_,o,es,ep,h1,h2,_⟩:=(show eY X.prog X.w H s.heap a (.dT kvs)from I.hok a _ d);exact PySem.W.kia_one PySem.W.kitx_dict I.kIn ⟨o,h1,h2.1⟩ e (λz=>nomatch z) h
 | @ins a C dx fs d j r k g m=>
  cases(show u=Value.ref a from f);obtain⟨mA,av,_⟩:=DA I.hok d;obtain⟨v,ao,_⟩:=av.look;exact PySem.W.kia_one (PySem.W.kitx_own (j.get _) j.hd r k g m) I.kIn ao e (λz=>nomatch z) h
end
structure gi (k:Nat)(A:dR):Prop where
 hd:A.handled=none
 dp:A.depth+3*k+5<recursionLimit
 un:A.units+16*k+200<cLine
 gd:A.guards=some []
theorem gi.mono{j k:Nat}{A:dR}(r:gi k A)(h:j<=k):gi j A:=⟨r.hd,by have:=r.dp;lia,by have:=r.un;lia,r.gd⟩
theorem gi.deeper{k:Nat}{A:dR}(r:gi (k+1) A)(env:Env):gi k (A.deeper env):=
 ⟨r.hd,by have:=r.dp;show A.depth+1+3*k+5<_;lia,by have:=r.un;show A.units+3+16*k+200<_;lia,r.gd⟩
theorem gi.depth{k:Nat}{A:dR}(r:gi k A):A.depth<recursionLimit:=by have:=r.dp;lia
theorem gi.units{k:Nat}{A:dR}(r:gi k A):A.units+64<cLine:=by have:=r.un;lia
noncomputable def J9:TA:=λ_ H Q=>Q [] H
noncomputable def HV(ta:TE)(tr:TA):TA:=fun σ H Q=>ta σ H λx H1=>tr σ H1 λxs H2=>Q (x::xs) H2
section
variable{e:Expr}{es:List Expr}{te:TE}{t:TA}{pos:Pos}
theorem oy:PA X [] J9:=λ_ _ _ _ H Q I h=>Calls.spliced_nil ⟨[],H,I,.nil,h⟩
theorem jU(ha:PE X e te)(hr:PA X es t)(hs:autoParam (dV (e::es) X.env=(J,eval e X.env)::dV es X.env) au0):PA X (e::es) (HV te t):=by
 intro pos ag s σ H Q I h;rw[hs];show dX _ _ (spliced ((J,eval e X.env)::backTo pos (dV es X.env))) _ _ s;refine Calls.spliced_cons (fO (ha ag s σ H _ I h) λu f ⟨x,H1,d,a,c⟩=>?_);exact fO (hr pos ag f σ H1 _ d c) λj i ⟨xs,H2,b,r2,g⟩=>⟨x::xs,H2,b,.cons a r2,g⟩
def JZ(t:TA):TE:=fun σ H Q=>t σ H λxs H1=>xs.length<=dW /\ ∀p,H1 p=Y->Q (.ref p) (upd H1 p (.tup xs))
def Kd(t:TA):TE:=fun σ H Q=>t σ H λxs H1=>xs.length<=dW /\ ∀p,H1 p=Y->Q (.ref p) (upd H1 p (.lst xs))
theorem FM{x1}(h:PA X es t):PE X (.Tuple es x1 pos) (JZ t):=by
 intro ag s σ H Q I d;refine wpAny_Tuple_spliced (fO (h pos ag s σ H _ I d) λf a ⟨xs,H1,c,r,z,q⟩=>⟨by rw[<- r.length];exact z,?_⟩);have g:H1 a.heap.objs.size=Y:=c.hok.fresh (nR1 _);refine⟨.ref a.heap.objs.size,upd H1 a.heap.objs.size (.tup xs),c.laid (t':=a.toks) (λb u e=>hP1 _ e) (nR1 _) ?_,O,q _ g⟩;exact⟨z,f,r,⟨_,hS1 _ O,O,_,O⟩⟩
theorem FR(h:PA X es t):PE X (.List es pos) (Kd t):=by
 intro ag s σ H Q I d;refine wpAny_List_spliced (fO (h pos ag s σ H _ I d) λf a ⟨xs,H1,c,r,z,q⟩=>⟨by rw[<- r.length];exact z,?_⟩);have g:H1 a.heap.objs.size=Y:=c.hok.fresh (nR1 _);refine⟨.ref a.heap.objs.size,upd H1 a.heap.objs.size (.lst xs),c.laid (t':=a.toks) (λb u e=>hP1 _ e) (nR1 _) ?_,O,q _ g⟩;exact⟨z,f,0,r,hS1 _ O⟩
end
abbrev Sp:=List V->Hp->VK->XK->Prop
abbrev zn:=List Env->Hp->dN->XK->dM->dN->Prop
structure Eh (P:dQ)(w:dS)(K:Fg1)(mg:Str->Option dM)(base:dY)(A:dR)(outer:List Env)(s:dN)(H:Hp):Prop where
 frames:A.frames=some outer
 mod:Mod K mg base
 bs:∀b o,base.get? b=some o->s.heap.get? b=some o/\H b=none
 bsz:base.objs.size<=s.heap.objs.size
 funs:s.heap.FunFrames base outer
 frf:∀b∈frs outer,H b=none
 hok:kF P w H s.heap
 bare:AllBare s.gens
def CE(outer:List Env)(P:dQ)(w:dS)(H:Hp)(s:dN)(Q:VK)(u:dM)(s':dN):Prop:=
 ∃v H',s'.os=s.os/\AllBare s'.gens/\Un (frs outer) [] H H' s.heap s'.heap/\kF P w H' s'.heap/\ew v u/\Q v H'
def CR(CX:zn)(outer:List Env)(P:dQ)(w:dS)(H:Hp)(s:dN)(Q:VK)(E:XK)(r:Result)(s':dN):Prop:=
 match r with
 | .ok (.ret u)=>CE outer P w H s Q u s'
 | .ok _=>False
 | .error e=>CX outer H s E e s'
structure j6 (P:dQ)(w:dS)(K:Fg1)(mg:Str->Option dM)(base:dY)(CX:zn)(k:Nat)(f:dP)(fd:dZ)(ps:List Str)(sp:Sp):Prop where
 len:∀vs H Q E,sp vs H Q E->vs.length=ps.length
 run:∀(A:dR) (outer:List Env) (s:dN) (H:Hp) (args:Args) (us:List dM) (vs:List V) (Q:VK) (E:XK),gi k A->Eh P w K mg base A outer s H->BindsTo s fd args (ps.zip us)->eI vs us->sp vs H Q E ->
  codeAny (model P w) A (.call (.ref f) args) (CR CX outer P w H s Q E) s
theorem j6.imp{P:dQ}{w:dS}{K:Fg1}{mg:Str->Option dM}{base:dY}{CX:zn}{k:Nat}{f:dP}{fd:dZ}{ps:List Str}{sp sp':Sp}(F:j6 P w K mg base CX k f fd ps sp)(h:∀vs H Q E,sp' vs H Q E->sp vs H Q E):j6 P w K mg base CX k f fd ps sp':=
 ⟨λvs H Q E q=>F.len vs H Q E (h _ _ _ _ q),λA a s H b e vs Q E i g c j d=>F.run A a s H b e vs Q E i g c j (h _ _ _ _ d)⟩
section
variable{ag:List (dP×Obj)}{σ:St}{H:Hp}{s s':dN}
theorem Inv.env0(I:Inv X ag σ H s):Eh X.prog X.w X.K X.mg X.base X.A X.stack s H:=
 ⟨I.ok.frames,I.ok.mod,I.bs,aD I.ok.bsz I.sz,I.stack,I.stkFree,I.hok,I.bare⟩
theorem Inv.after{Q:VK}{u:dM}(I:Inv X ag σ H s)(h:CE X.stack X.prog X.w H s Q u s'):EP X ag σ Q u s':=by
 obtain⟨v,H',f,a,un,e,r,q⟩:=h;obtain⟨i,g,d,t,c⟩:=s';obtain rfl:c=s.os:=f;exact⟨v,H',I.call (h':=i) (g':=g) (d':=d) (t':=t) (ch:=[]) un e a (λb z=>absurd z (by simp)),r,q⟩
end
noncomputable def HW(sp:Sp)(dvs:List V)(E:XK)(t:TA):TE:=fun σ H Q=>t σ H λvs H1=>sp (vs++dvs) H1 Q E
def lX(K:Fg1)(fd:dZ)(ps:List Str)(ds:List dM):Prop:=
 ∀(s:dN) (us:List dM),K.In s.heap->(us++ds).length=ps.length->BindsTo s fd ⟨us,[]⟩ (ps.zip (us++ds))
theorem lX.all{K:Fg1}{fd:dZ}{ps:List Str}(h:∀a:List dM,a.length=ps.length->bindArgs fd ⟨a,[]⟩=pure (ps.zip a)):lX K fd ps []:=λs a _ b=>by
 rw[aP]at b ⊢;exact .of_eq (h a b)
def wa(CX:zn)(X:Cx)(E:XK):Prop:=∀(ag:List (dP×Obj)) (σ:St) (H:Hp) (s:dN) (e:dM) (s':dN),Inv X ag σ H s->CX X.stack H s E e s'->X.xe e s'
section
variable{CX:zn}{k:Nat}{f C:dP}{fd:dZ}{ps:List Str}{sp:Sp}{dvs:List V}{ds:List dM}{E:XK}{x m:Str}{p pos apos:Pos}{e o:Expr}{es:List Expr}{ta:TE}{t:TA}
theorem Fk{ag:List (dP×Obj)}{σ:St}{H:Hp}{s:dN}{Q:VK}{a:List dM}{vs:List V}(F:j6 X.prog X.w X.K X.mg X.base CX k f fd ps sp)(hr:gi k X.A)(hb:lX X.K fd ps ds)(hd:eI dvs ds)(hx:wa CX X E)(I:Inv X ag σ H s)(r:eI vs a)(h:sp (vs++dvs) H Q E):dX (model X.prog X.w) X.A (call (.ref f) a) (EP X ag σ Q) X.xe s:=by
 have r2:eI (vs++dvs) (a++ds):=r.append hd;have d:(a++ds).length=ps.length:=by rw[<- r2.length];exact F.len _ _ _ _ h
 refine wpAny_call (codeAny_mono (F.run X.A X.stack s H ⟨a,[]⟩ (a++ds) (vs++dvs) Q E hr I.env0 (hb s a I.kIn d) r2 h) λr s' b=>?_);cases r with
 |error e=>exact hx ag σ H s e s' I b
 |ok c=>
  cases c with
  |ret u=>exact I.after b
  |next=>exact False.elim b
  |brk=>exact False.elim b
  |cont=>exact False.elim b
theorem CL (F:j6 X.prog X.w X.K X.mg X.base CX k f fd ps sp)(hr:gi k X.A)(hg:Gl X x)(hm:X.mg x=some (.ref f))(hk:wK1 X.K (.ref f)=true)(hb:lX X.K fd ps ds)(hd:eI dvs ds)(hx:wa CX X E)
  (ha:PA X (e::es) t) (hdb:autoParam ((x == ("__debug__":Str))=J) bu0) (he:autoParam (dV (e::es) X.env=(J,eval e X.env)::dV es X.env) au0) (hpl:autoParam ((backTo pos (dV es X.env)).any (·.1)=J) au0):
  PE X (.Call (.Name x p) (e::es) [] pos) (HW sp dvs E t):=by
 intro ag s σ H Q I h;refine wpAny_Call_Name_kw (w8 I hg hm ?_ hdb);refine PySem.W.callWith_K (h₀:=X.base) I.ok.mod.kin hk (fO (ha pos ag s σ H _ I h) λb c ⟨vs,H1,a,r,q⟩=>⟨a.kIn,?_⟩) he hpl;exact Fk F hr hb hd hx a r q
end
section
variable{CX:zn}{k:Nat}{f C:dP}{fd:dZ}{ps ks:List Str}{sp:Sp}{E:XK}{x m:Str}{p pos apos kpos:Pos}{e o:Expr}{es:List Expr}{kws:List Keyword}{te ta:TE}{t tk:TA}{nm:Option Str}
variable{g:List dM->List dM->List dM}{gV:List V->List V->List V}
end
structure gK (N P:List Str)(sc:d3):Prop where
 kind:sc.kind = .function
 co:sc.isCoroutine=false
 gen:sc.isGenerator=false
 nd:N.Nodup
 pre:N.take P.length=P
 par:∀x∈P,sc.names.lookup x=some .local\/sc.names.lookup x=some .cell
 nofree:∀y∈sc.names,y.2 ≠ .free
theorem rp{kindOf:Str->Option NameKind}{x:Str}:∀{binds:List (Str×dM)} {m:Str->Option dM},(∀v,(x,v)∉binds)->bindL kindOf binds m x=m x
 |[],_,_=>rfl
 |(n,v)::r,m,h=>by
  unfold bindL;rw[rp λw a=>h w (mC1 _ a)];split
  ·have:x≠n:=by rintro rfl;exact h v mS1
   simp[this]
  ·rfl
theorem rr{kindOf:Str->Option NameKind}{x:Str}:∀{binds:List (Str×dM)} {m:Str->Option dM},(∀v,(x,v)∉binds)->bindC kindOf binds m x=m x
 |[],_,_=>rfl
 |(n,v)::r,m,h=>by
  unfold bindC;rw[rr λw a=>h w (mC1 _ a)];split
  ·rfl
  ·have:x≠n:=by rintro rfl;exact h v mS1
   simp[this]
theorem rq{kindOf:Str->Option NameKind}{x:Str}{v:dM}:∀ {P:List Str} {vs:List dM} {i:Nat} {m:Str->Option dM},P.Nodup->P[i]? = some x->vs[i]? = some v->kindOf x=some .local ->
  bindL kindOf (P.zip vs) m x=Z v
 |[],_,_,_,_,h,_,_=>by simp at h
 |_::_,[],_,_,_,_,h,_=>by simp at h
 |p::P,w::vs,0,m,nd,h1,h2,hk=>by
  simp at h1 h2;subst h1;subst h2;show bindL kindOf ((p,w)::P.zip vs) m p=_;unfold bindL;rw[rp λv a=>(aQ.mp nd).1 (List.of_mem_zip a).1,ak hk];simp
 |p::P,w::vs,i+1,m,nd,h1,h2,hk=>by
  show bindL kindOf ((p,w)::P.zip vs) m x=_;unfold bindL;exact rq (i:=i) (aQ.mp nd).2 (by simpa using h1) (by simpa using h2) hk
theorem rz{kindOf:Str->Option NameKind}{x:Str}{v:dM}:∀ {P:List Str} {vs:List dM} {i:Nat} {m:Str->Option dM},P.Nodup->P[i]? = some x->vs[i]? = some v->kindOf x≠some .local ->
  bindC kindOf (P.zip vs) m x=Z v
 |[],_,_,_,_,h,_,_=>by simp at h
 |_::_,[],_,_,_,_,h,_=>by simp at h
 |p::P,w::vs,0,m,nd,h1,h2,hk=>by
  simp at h1 h2;subst h1;subst h2;show bindC kindOf ((p,w)::P.zip vs) m p=_;unfold bindC;rw[rr λv a=>(aQ.mp nd).1 (List.of_mem_zip a).1,aj hk];simp
 |p::P,w::vs,i+1,m,nd,h1,h2,hk=>by
  show bindC kindOf ((p,w)::P.zip vs) m x=_;unfold bindC;exact rz (i:=i) (aQ.mp nd).2 (by simpa using h1) (by simpa using h2) hk
noncomputable def ju(N:List Str)(vs:List V):St:=vs.map Z++aR (N.length-vs.length) Y
noncomputable def nw(CX:zn)(P:dQ)(w:dS)(K:Fg1)(mg:Str->Option dM)(base:dY)(N:List Str)(qual:Str)(scope:d3)(f:dP)(cd:dM)(A:dR)(outer:List Env)(s:dN)(H:Hp)(E:XK):Cx where
 prog:=P
 w:=w
 K:=K
 mg:=mg
 base:=base
 A:=A.deeper (envOfC qual scope s.heap.objs.size f cd)
 N:=N
 s₀:=s
 H₀:=H
 env:=envOfC qual scope s.heap.objs.size f cd
 outer:=outer
 stack:=envOfC qual scope s.heap.objs.size f cd::outer
 ex:=[]
 calm:=M
 fn:=λ_=>M
 pn:=[]
 xe:=λe s'=>dX (model P w) (A.deeper (envOfC qual scope s.heap.objs.size f cd)) (leaving (envOfC qual scope s.heap.objs.size f cd) e) (λ_ s''=>CX outer H s E e s'') (λe' s''=>CX outer H s E e' s'') s'
theorem uP{a:d3}{n:Nat}{x:Str}(h:a.names.lookup x=Z .cell):∃c,(cellsFrom n a.names []).lookup x=Z c:=by
 have q:=PySem.W.cellsFrom_some a.names n [] (.inl h);exact aS.mp q
theorem yF{CX:zn}{P:dQ}{w:dS}{K:Fg1}{mg:Str->Option dM}{base:dY}{N ps:List Str}{g:Str}{scope:d3}{f:dP}{B:dM}{A:dR}{d:List Env}{s s1:dN}{H:Hp}{E:XK}{C:List dM}{vs:List V}(S:gK N ps scope)(hd:A.handled=none)(j:Eh P w K mg base A d s H)(aq:vs.length=ps.length)(r:eI vs C)(x:InCallC s s.heap.objs.size (bindL (envOfC g scope s.heap.objs.size f B).kindOf (ps.zip C) fun _=>none) (cellsFrom (s.heap.objs.size+1) scope.names []) (bindC (envOfC g scope s.heap.objs.size f B).kindOf (ps.zip C) fun _=>none) s1):
  Inv (nw CX P w K mg base N g scope f B A d s H E) [] (ju N vs) H s1:=by
 have ao:ps.length<=N.length:=by have:=congrArg List.length S.pre;rw[aT]at this;lia
 obtain⟨h1,tk,rfl,F⟩:=x.done;have l:∀b:dP,b∉(nw CX P w K mg base N g scope f B A d s H E).ex:=λb z=>absurd (show b∈([]:List dP)from z) (by simp);refine⟨⟨j.mod,S.kind,O,O,nR1 _,λy z c h1 h2=>?_,λy m=>?_,λy c _ h=>?_,λ_=>hd,Around.frames_deeper j.frames,.inr ⟨O,O⟩,λb z=>absurd z (l b),j.bs,j.bsz,λb _ _=>l b,λb z=>absurd z (l b),j.funs,j.frf⟩,
  rfl,j.bare,Un.kept F,⟨_,x.toInCall.ns,λi y v h1 h2 L=>?_⟩,λy c h=>⟨_,x.cell y c h⟩,j.hok.fresh (nR1 _),λy c h=>?_,λp o=>absurd (show p∈([]:List (dP×Obj))from o) (by simp),j.hok.kept F,?_⟩
 ·exact name_of_addr x.apart (PySem.mem_of_lookup h1) (PySem.mem_of_lookup h2)
 ·have m:scope.names.lookup y=Z .cell\/scope.names.lookup y=Z .free:=m;rcases m with m|m
  ·exact uP m
  ·exact absurd O (S.nofree _ (PySem.mem_of_lookup m))
 ·exact aE (x.above y c (PySem.mem_of_lookup h))
 ·have hi:i<vs.length:=by
   unfold ju at h2;by_cases hi:i<vs.length
   ·exact hi
   ·rw[gR1 (by simpa using hi)]at h2;rw[aU]at h2;split at h2<;>cases h2
  have G:vs[i]?=Z v:=by
   unfold ju at h2;rw[gL1 (by simpa using hi),gP1]at h2;cases e:vs[i]? with
   |none=>rw[e]at h2;cases h2
   |some a=>rw[e]at h2;cases h2;rfl
  obtain⟨u,D,I⟩:=r.get G;have o:ps[i]?=Z y:=by
   rw[<- S.pre,aV (by lia)];exact h1
  have t:ps.Nodup:=by rw[<- S.pre];exact S.nd.sublist (aW _ _)
  refine⟨u,I,?_⟩;rcases S.par y (gM1 o)with k|k
  ·exact .inl ⟨k,rq t o D k⟩
  ·obtain⟨c,e⟩:=uP (n:=s.heap.objs.size+1) k;refine .inr ⟨.inl k,c,e,?_⟩;have q:=x.cell y c e;rw[rz t o D (by show scope.names.lookup y≠_;rw[k];decide)]at q;exact q
 ·exact j.hok.fresh (aE (x.above y c (PySem.mem_of_lookup h)))
 ·unfold ju;show _=N.length;rw[lA1,lM1,lR1];lia
theorem I9{CX:zn}{P:dQ}{w:dS}{K:Fg1}{mg:Str->Option dM}{base:dY}{k:Nat}{f:dP}{name c:Str}{params:Arguments}{g:List d0}{scope:d3}{av kV z L d ct oc:dM}{T od:Option dP}{F:Array (Option dM)}{N ps:List Str}{sp:Sp}(lk:K.lookup f=some ⟨oc,od,.func (wF1 name c params g scope av kV z L T d ct),F⟩)(hcd:wC1 K d c=true)(S:gK N ps scope)(len:∀vs H Q E,sp vs H Q E->vs.length=ps.length)(j:∀(A:dR) (a:List Env) (s:dN) (H:Hp) (vs:List V) (Q:VK) (E:XK),gi k (A.deeper (envOfC c scope s.heap.objs.size f d))->sp vs H Q E ->
   ∃t,u7 (nw CX P w K mg base N c scope f d A a s H E) g t/\t {nx:=λ_ H'=>Q .non H',rt:=Q} (ju N vs) H):
  j6 P w K mg base CX (k+1) f (wF1 name c params g scope av kV z L T d ct) ps sp:=by
 refine⟨len,λA a s H R au vs Q E C B X r p=>?_⟩;have wq:=len _ _ _ _ p;have aq:K.In s.heap:=B.mod.kin.keeps λb o e=>(B.bs b o e).1;have G:s.heap.NoLimit:=B.mod.nolimit.keeps λb o e=>(B.bs b o e).1;have i:∀y∈ps.zip au,scope.names.lookup y.1=Z .local\/(scope.names.lookup y.1=Z .cell/\((cellsFrom (s.heap.objs.size+1) scope.names []).lookup y.1).isSome=M):=λ⟨n,v⟩ hy=>by
  rcases S.par n (List.of_mem_zip hy).1 with q|q
  ·exact .inl q
  ·exact .inr ⟨q,PySem.W.cellsFrom_some _ _ _ (.inl q)⟩
 refine codeAny_call_function C.depth (aq _ _ lk) O S.co S.gen O (PySem.W.codeRec_of aq hcd) (X _ _ _ _ ?_);refine wpAny_newFunctionEnv_cells S.kind i λW he s1 x=>?_;subst he;refine⟨G.keeps x.toInCall.keep,codeAny_func ?_⟩;obtain⟨t,ht,hq⟩:=j A a s H vs Q E (C.deeper _) p;have I:Inv (nw CX P w K mg base N c scope f d A a s H E) [] (ju N vs) H s1:=yF S C.hd B wq r x;refine wpAny_mono (ht [] s1 (ju N vs) H _ I hq) (λU s' l=>?_) λe s' l=>l;have m:∀{h:St} {H':Hp} {v:V} {u:dM},Inv (nw CX P w K mg base N c scope f d A a s H E) [] h H' s'->ew v u->Q v H'->CE a P w H s Q u s':=
  λ{h H' v u} ao D q=>⟨v,H',ao.os,ao.bare,ao.base,ao.hok,D,q⟩
 cases U with
 |ret u=>
  obtain⟨v,h,H',ao,D,q⟩:=l;exact m ao D q
 |next=>
  obtain⟨h,H',ao,q⟩:=l;exact m (v:=V.non) (u:=Value.none) ao O q
 |brk=>
  obtain⟨_,_,_,q⟩:=l;exact False.elim q
 |cont=>
  obtain⟨_,_,_,q⟩:=l;exact False.elim q
section
variable{x:Str}{p pos:Pos}{e:Expr}{es:List Expr}{t:TA}{id T:String}{r:List V->Hp->VK->Prop}
def K3(r:List V->Hp->VK->Prop)(t:TA):TE:=fun σ H Q=>t σ H λvs H1=>r vs H1 Q
theorem ow (hc:fH X (.builtin id) r)(hg:Gl X x)(hm:X.mg x=none)(hv:bootBuiltins x=some (.builtin id))(ha:PA X (e::es) t)(hn:autoParam (x≠"__name__") bu0)(hdb:autoParam ((x == ("__debug__":Str))=false) bu0)
  (he:autoParam (dV (e::es) X.env=(J,eval e X.env)::dV es X.env) au0) (hpl:autoParam ((backTo pos (dV es X.env)).any (·.1)=J) au0):PE X (.Call (.Name x p) (e::es) [] pos) (K3 r t):=by
 intro ag s σ H Q I h;refine wpAny_Call_Name_kw (jC I hg hm hv ?_ hn hdb);exact PyProof.Rows.callWith_builtin1 (fO (ha pos ag s σ H _ I h) λf d ⟨vs,H1,b,a,c⟩=>hc ag d σ H1 vs f Q b a c) he hpl
theorem me (hc:fH X (.type T) r)(hg:Gl X x)(hm:X.mg x=none)(hv:bootBuiltins x=some (.type T))(ha:PA X (e::es) t)(hn:autoParam (x≠"__name__") bu0)(hdb:autoParam ((x == ("__debug__":Str))=false) bu0)
  (he:autoParam (dV (e::es) X.env=(J,eval e X.env)::dV es X.env) au0) (hpl:autoParam ((backTo pos (dV es X.env)).any (·.1)=J) au0):PE X (.Call (.Name x p) (e::es) [] pos) (K3 r t):=by
 intro ag s σ H Q I h;refine wpAny_Call_Name_kw (jC I hg hm hv ?_ hn hdb);exact PyProof.Rows.callWith_type1 (fO (ha pos ag s σ H _ I h) λf d ⟨vs,H1,b,a,c⟩=>hc ag d σ H1 vs f Q b a c) he hpl
end
end L2
namespace HT
open PySem PyProof.Rows
section
open PySem.SeqAt
open PySem.AutoSeq1 (wpAny_loadPart')
open PySem.MeetsSeq PySem.MeetsSeq2 PySem.MeetsSeq3
end
section
variable{prog:dQ}{w:dS}{A:dR}{E:dM->dN->Prop}{s:dN}
theorem D1 {t b:dP}{vs ws:List dM}{Q:dM->dN->Prop}(ht:IsTup s.heap t vs.toArray)(hb:IsTup s.heap b ws.toArray)(hv:vs≠[])
  (h1:ws=[]->Q (.ref t) s) (h2:ws≠[]->Q (.ref s.heap.objs.size) {s with heap:=s.heap.push {cls:=.type "tuple",data:=.seq (vs++ws).toArray}})
  (hsz:vs.length+ws.length<=dW):dX (model prog w) A (binaryOp .Add (.ref t) (.ref b)) Q E s:=by
 obtain⟨⟨cls,k,data,p⟩,i,hc,n,l⟩:=id ht;obtain⟨⟨o,c,j,g⟩,a,d,m,f⟩:=id hb;simp only at hc l d f;subst hc l d f;have e:vs.toArray++ws.toArray=(vs++ws).toArray:=by simp
 by_cases h:ws=[]
 ·exact concat_meets ⟨_,i,rfl⟩ ⟨_,a,rfl⟩ noFill_tuple_add seq_tuple_add PySem.F.slot_tuple_add PySem.F.entry_tuple_add (PySem.F.args_tuple_add_2 _ _)
   (tuple_addW1 t b vs.toArray ws.toArray n m k c p g (by simpa using hv) (by simp[h])) ⟨i,a,h1 h⟩
 ·refine concat_meets ⟨_,i,rfl⟩ ⟨_,a,rfl⟩ noFill_tuple_add seq_tuple_add PySem.F.slot_tuple_add PySem.F.entry_tuple_add (PySem.F.args_tuple_add_2 _ _)
   (tuple_addW2 t b vs.toArray ws.toArray n m k c p g (by simpa using hv) (by simpa using h) (by rw[sT1,sT1];exact hsz)) ⟨i,a,?_⟩
  rw[e];exact h2 h
end
end HT
namespace L2
open PySem PySem.Spec PyProof.Rows
abbrev TO:=St->Hp->(Option Int->Hp->Prop)->Prop
variable{X:Cx}
section
variable{e:Expr}{te:TE}{lo hi:Option Expr}{tl th:TO}{pos p2:Pos}
def Ic(K:Fg1):R2:=λx y H Q=>∃a b xs ys,x = .ref a/\y = .ref b/\lY K H a xs/\lY K H b ys/\xs≠[]/\xs.length+ys.length<=dW /\
 (ys=[]->Q (.ref a) H)/\(ys≠[] -> ∀p,H p=Y->Q (.ref p) (upd H p (.tup (xs++ys))))
theorem eI.nil_iff{xs:List V}{a:List dM}(r:eI xs a):a=[]↔xs=[]:=by
 cases r with
 |nil=>simp
 |cons _ _=>simp
theorem CP:gF X (binaryOp .Add) (Ic X.K):=by
 intro ag s σ H x y v u Q I n f h;obtain⟨a,b,xs,ys,rfl,rfl,l,i,p,e,g,m⟩:=h;cases n;cases f;obtain⟨j,c,k,_⟩:=I.tuple l;obtain⟨d,r2,p2,_⟩:=I.tuple i;refine HT.D1 k p2 (λz=>p (c.nil_iff.mp z)) (λz=>⟨.ref a,H,I,O,g (r2.nil_iff.mp z)⟩) (λz=>?_) (by rw[<- c.length,<- r2.length];exact e);refine⟨.ref s.heap.objs.size,_,I.laid (t':=s.toks) (o:=.tup (xs++ys)) (λb r q=>hP1 _ q) (nR1 _) ?_,O,m (λw=>z (r2.nil_iff.mpr w)) _ (I.hok.fresh (nR1 _))⟩;exact⟨by rw[lA1];exact e,_,c.append r2,IsTup.new _ _⟩
end
noncomputable def xg(n:Nat)(i:Int):Option Nat:=if 0<=i then(if i<n then Z i.toNat else Y)else if-(n:Int)<=i then Z (i+n).toNat else Y
def u5{α:Type}(xs:List α)(i:Int):Option α:=(xg xs.length i).bind λj=>xs[j]?
theorem sF{n:Nat}{i:Int}{j:Nat}(h:xg n i=Z j):seqIndex? i n=Z j/\j<n /\ -(n:Int)<=i/\i<n:=by
 unfold xg at h;by_cases a:0<=i
 ·rw[ak a]at h;by_cases h1:i<n
  ·rw[ak h1]at h;have e:i.toNat=j:=Option.some.inj h;exact⟨by rw[seqIndex_of a h1,e],by lia,by lia,h1⟩
  ·rw[aj h1]at h;cases h
 ·rw[aj a]at h;by_cases h1: -(n:Int)<=i
  ·rw[ak h1]at h;have e:(i+n).toNat=j:=Option.some.inj h;exact⟨by rw[seqIndex_neg (by lia) h1,e],by lia,h1,by lia⟩
  ·rw[aj h1]at h;cases h
theorem xP{α:Type}{xs:List α}{i:Int}{v:α}(h:u5 xs i=Z v):∃j,seqIndex? i xs.length=Z j/\xs[j]?=Z v/\j<xs.length /\ -(xs.length:Int)<=i/\i<xs.length:=by
 unfold u5 at h;cases e:xg xs.length i with
 |none=>rw[e]at h;cases h
 |some j=>
  rw[e]at h;obtain⟨h1,h2,a,b⟩:=sF e;exact⟨j,h1,h,h2,a,b⟩
def nM(b:Expr):Prop:=∀o i,subscripted b J o i=operate [o,i] (getItem o i)
def EL(X:Cx)(r:R2):Prop:=
 ∀(value slice:Expr) (ag:List (dP×Obj)) (s:dN) (σ:St) (H:Hp) (x y:V) (v u:dM) (Q:VK),Inv X ag σ H s->ew x v->ew y u->r x y H Q ->
  subscripted slice J v u=operate [v,u] (getItem v u)->dX (model X.prog X.w) X.A (subscriptTail value slice v u) (EP X ag σ Q) X.xe s
def Eg(X:Cx)(id:String)(r:V->List V->Hp->VK->Prop):Prop:=
 ∀(ag:List (dP×Obj)) (s:dN) (σ:St) (H:Hp) (x:V) (xs:List V) (v:dM) (us:List dM) (Q:VK),Inv X ag σ H s->ew x v->eI xs us->r x xs H Q ->
  dX (model X.prog X.w) X.A (call (.builtin id) (v::us)) (EP X ag σ Q) X.xe s
section
variable{a b:Expr}{ta tb:TE}{pos:Pos}
theorem Ik{r:R2}(hr:EL X r)(ha:PE X a ta)(hb:PE X b tb)(hs:nM b):PE X (.Subscript a b pos) (HN r ta tb):=by
 intro ag s σ H Q I h;exact Subscript_ (Hg ha hb I h λv u d x y H2 c e f q=>hr a b ag d σ H2 x y v u Q c e f q (hs _ _))
def Kp(K:Fg1):R2:=λx y H Q=>∃p xs i v,x = .ref p/\y = .int i/\nL K H p xs/\u5 xs i=Z v/\Q v H
def Ko(K:Fg1):R2:=λx y H Q=>∃p xs i v,x = .ref p/\y = .int i/\lY K H p xs/\u5 xs i=Z v/\Q v H
theorem Ds:EL X (Kp X.K):=by
 intro value c ag s σ H x y v u Q I B m h g;obtain⟨p,xs,i,z,rfl,rfl,o,A,q⟩:=h;cases B;obtain⟨t,rfl⟩:=m;obtain⟨e,r,pl,F⟩:=I.list o;obtain⟨j,h1,h2,E,n,C⟩:=xP A;obtain⟨w,k,d⟩:=r.get h2;have l:=r.length;have D:=mm;have a:EP X ag σ Q w s:=⟨z,H,I,d,q⟩;by_cases f:0<=i
 ·have b:i.toNat=j:=by
   rw[seqIndex_of f C]at h1;exact Option.some.inj h1
  exact item_listR pl.isList f (by lia) (by rw[b];simpa using k) a g
 ·have b:(i+(e.toArray.size:Int)).toNat=j:=by
   rw[seqIndex_neg (by lia) n]at h1;rw[sT1,<- l];exact Option.some.inj h1
  exact subscriptTail_builtinR (x:=w) pl.isList.typeIs slot_list_getitem.lookup
   (wpAny_getItem_list_neg (Q:=λr s'=>r=w/\EP X ag σ Q r s') pl.isList (by lia) (by rw[sT1]<;>lia) (by lia) (by rw[b];simpa using k) ⟨O,a⟩) g
theorem GS:EL X (Ko X.K):=by
 intro value a ag s σ H x y v u Q I m d h e;obtain⟨p,xs,i,z,rfl,rfl,f,g,q⟩:=h;cases m;obtain⟨t,rfl⟩:=d;obtain⟨k,r,pl,C⟩:=I.tuple f;obtain⟨j,h1,h2,A,B,D⟩:=xP g;obtain⟨w,n,b⟩:=r.get h2;have l:=r.length;have o:=mm;have c:EP X ag σ Q w s:=⟨z,H,I,b,q⟩;exact subscriptTail_builtinR (x:=w) pl.typeIs slot_tuple_getitem.lookup
  (getItem_tuple (j:=j) (Q:=λr s'=>r=w/\EP X ag σ Q r s') pl (by lia) (by lia) (by rw[sT1,<- l];exact h1) (by simpa using n) ⟨O,c⟩) e
theorem vG(its:List dM)(n j:Nat)(u:dM):Obj.mapSeq (·.setIfInBounds j u) {cls:=.type "list",data:=.seq its.toArray n}={cls:=.type "list",data:=.seq (its.set j u).toArray n}:=by
 simp[Obj.mapSeq]
theorem Inv.lst{ag:List (dP×Obj)}{σ:St}{H:Hp}{s:dN}{p:dP}{xs:List V}(I:Inv X ag σ H s)(h:H p=some (.lst xs)):
  ∃(its:List dM) (n:Nat),eI xs its/\s.heap.get? p=Z {cls:=.type "list",data:=.seq its.toArray n}/\xs.length<=dW:=by
 obtain⟨z,its,n,r,e⟩:=I.hok p _ h;exact⟨its,n,r,e,z⟩
theorem Inv.lstUpd {ag:List (dP×Obj)}{σ:St}{H:Hp}{s:dN}{p:dP}{xs ys:List V}{its its':List dM}{n a:Nat}{f:Obj->Obj}(I:Inv X ag σ H s)(h:H p=some (.lst xs))
  (ho:s.heap.get? p=Z {cls:=.type "list",data:=.seq its.toArray n}) (hf:f {cls:=.type "list",data:=.seq its.toArray n}={cls:=.type "list",data:=.seq its'.toArray a}) (r:eI ys its') (c:ys.length<=dW) (t:Nat):
  Inv X ag σ (upd H p (.lst ys)) {s with heap:=s.heap.update p f,toks:=t}:=by
 have e:(s.heap.update p f).get? p=Z {cls:=.type "list",data:=.seq its'.toArray a}:=by
  rw[hW1 f ho (by rw[hf]<;>rfl),hf]
 refine I.write (x:=p) (e:=p) (by rw[h];trivial) (.inl O) (λb u d q=>(Heap.get?_update_other _ _ (Ne.symm d)).trans q) ⟨_,e⟩ ?_;exact⟨c,its',a,r,e⟩
def Ib:V->V->V->Hp->(Hp->Prop)->Prop:=λo i v H Q=>∃p xs k j,o = .ref p/\i = .int k/\H p=Z (.lst xs)/\xg xs.length k=Z j/\Q (upd H p (.lst (xs.set j v)))
theorem z0:wb X Ib:=by
 intro ag s σ H o i v D C u Q I y w A h;obtain⟨p,xs,k,j,rfl,rfl,e,x,q⟩:=h;cases y;obtain⟨t,rfl⟩:=w;obtain⟨a,n,r,d,z⟩:=I.lst e;obtain⟨h1,h2,g,m⟩:=sF x;have b:=r.length;have B:=mm;have l:Inv X ag σ (upd H p (.lst (xs.set j v))) {s with heap:=s.heap.update p (Obj.mapSeq (·.setIfInBounds j u))}:=
  I.lstUpd e d (vG a n j u) (r.set A j) (by rw[aX];exact z) s.toks
 by_cases f:0<=k
 ·have c:k.toNat=j:=by
   rw[seqIndex_of f m]at h1;exact Option.some.inj h1
  exact PySem.W.ki_setAt d f (by lia) (by rw[sT1,<- b];exact m) (by rw[c];exact⟨_,l,q⟩)
 ·have c:(k+(a.toArray.size:Int)).toNat=j:=by
   rw[seqIndex_neg (by lia) g]at h1;rw[sT1,<- b];exact Option.some.inj h1
  exact PySem.W.ki_setBack d (by lia) (by rw[sT1,<- b];exact g) (by lia) (by rw[c];exact⟨_,l,q⟩)
noncomputable def kh:V->Bool
 | .non=>M
 | .bl _=>M
 | .int _=>M
 | .str _=>M
 |_=>J
noncomputable def u4:V->V->Bool
 | .non,.non=>M
 | .bl a,.bl b=>a == b
 | .bl a,.int b=>(if a then 1 else 0) == b
 | .int a,.bl b=>a == (if b then 1 else 0)
 | .int a,.int b=>a == b
 | .str a,.str b=>a == b
 |_,_=>J
theorem kA{A:dR}{s:dN}{y x:V}{u v:dM}(e:ew y u)(c:ew x v)(g:kh y=M)(f:kh x=M):SeqAt.EqAt A s u v (u4 y x):=by
 cases y with
 |non=>
  cases e;cases x with
  |non=>cases c;exact SeqAt.EqAt.same _
  |bl b=>cases c;exact SeqAt.EqAt.none_bool b
  |int b=>obtain⟨t,rfl⟩:=c;exact SeqAt.EqAt.none_int b t
  |str b=>obtain⟨t,rfl⟩:=c;exact SeqAt.EqAt.none_str b t
  |_=>exact absurd (show J=M from f) aL
 |bl a=>
  cases e;cases x with
  |non=>cases c;exact SeqAt.EqAt.bool_none a
  |bl b=>cases c;exact SeqAt.EqAt.bool_bool a b
  |int b=>obtain⟨t,rfl⟩:=c;exact SeqAt.EqAt.bool_int a b t
  |str b=>obtain⟨t,rfl⟩:=c;exact SeqAt.EqAt.bool_str a b t
  |_=>exact absurd (show J=M from f) aL
 |int a=>
  obtain⟨d,rfl⟩:=e;cases x with
  |non=>cases c;exact SeqAt.EqAt.int_none a d
  |bl b=>cases c;exact SeqAt.EqAt.int_bool a d b
  |int b=>obtain⟨t,rfl⟩:=c;exact SeqAt.EqAt.int_int a d b t
  |str b=>obtain⟨t,rfl⟩:=c;exact SeqAt.EqAt.int_str a d b t
  |_=>exact absurd (show J=M from f) aL
 |str a=>
  obtain⟨d,rfl⟩:=e;cases x with
  |non=>cases c;exact SeqAt.EqAt.str_none a d
  |bl b=>cases c;exact SeqAt.EqAt.str_bool a d b
  |int b=>obtain⟨t,rfl⟩:=c;exact SeqAt.EqAt.str_int a d b t
  |str b=>obtain⟨t,rfl⟩:=c;exact SeqAt.EqAt.str_str a d b t
  |_=>exact absurd (show J=M from f) aL
 |_=>exact absurd (show J=M from g) aL
theorem sV:fH X (.builtin "len") (λxs H Q=>∃p ys,xs=[.ref p]/\(nL X.K H p ys\/lY X.K H p ys)/\Q (.int ys.length) H):=by
 intro ag s σ H xs i Q I r h;obtain⟨p,ys,rfl,b,q⟩:=h;obtain⟨u,rfl,f⟩:=jr r;cases f;have g:=mm;rcases b with b|b
 ·obtain⟨d,c,pl,e⟩:=I.list b;have a:=c.length;exact Calls.call_len_list pl.isList (by simp only[sT1]<;>lia) ⟨.int ys.length,H,I.tok _,⟨s.toks+1,by rw[sT1,a]⟩,q⟩
 ·obtain⟨d,c,pl,e⟩:=I.tuple b;have a:=c.length;exact len_tuple pl (by simp only[sT1]<;>lia) ⟨.int ys.length,H,I.tok _,⟨s.toks+1,by rw[sT1,a]⟩,q⟩
theorem sU:fH X (.builtin "len") (λxs H Q=>∃z,xs=[.str z]/\z.length<=dW/\Q (.int z.length) H):=by
 intro ag s σ H xs a Q I r h;obtain⟨z,rfl,c,q⟩:=h;obtain⟨u,rfl,t,rfl⟩:=jr r;have b:=mm;exact len_str (by lia) ⟨.int z.length,H,I.tok _,⟨_,O⟩,q⟩
theorem pU:fH X (.type "tuple") (λxs H Q=>∃p ys,xs=[.ref p]/\((nL X.K H p ys /\ ∀l,H l=Y->Q (.ref l) (upd H l (.tup ys)))\/(lY X.K H p ys/\Q (.ref p) H))):=by
 intro ag s σ H xs n Q I r h;obtain⟨p,ys,rfl,h⟩:=h;obtain⟨u,rfl,m⟩:=jr r;cases m;rcases h with⟨d,q⟩|⟨d,q⟩
 ·obtain ⟨a,c,pl,i⟩:=I.list d;have g:=c.length;refine call_tuple_list pl.isList (fun h' k=>?_) (by simp only [sT1]<;>lia);have f:Inv X ag σ H {s with heap:=h'}:=I.kept (t':=s.toks) k;have j:Inv X ag σ (upd H h'.objs.size (.tup ys)) {s with heap:=h'.push {cls:=.type "tuple",data:=.seq a.toArray}}:=
   f.laid (t':=s.toks) (λb o e=>hP1 _ e) (nR1 _) (show eY X.prog X.w _ _ _ (.tup ys)from⟨i,a,c,IsTup.new _ _⟩)
  exact⟨.ref h'.objs.size,_,j,O,q _ (f.hok.fresh (nR1 _))⟩
 ·obtain⟨a,c,pl,i⟩:=I.tuple d;exact call_tuple_same pl ⟨.ref p,H,I,O,q⟩
def KZ(K:Fg1)(T:String)(x:V)(H:Hp):Prop:=match x with
 | .str _=>T="str"
 | .int _=>T="int"
 | .ref p=>(T="list" /\ ∃ xs,nL K H p xs)\/(T="tuple" /\ ∃ o,K.lookup p=some o/\o.cls = .type "tuple"/\o.dict=none) \/
   (T="dict"/\((∃kvs,H p=Z (.dK kvs)) \/ ∃kvs,H p=Z (.dT kvs)))\/(T="set" /\ ∃S n,H p=Z (.set S n))
 |_=>False
theorem EU{ag:List (dP×Obj)}{σ:St}{H:Hp}{s:dN}{T:String}{x:V}{v:dM}(I:Inv X ag σ H s)(r:ew x v)(ty:KZ X.K T x H):
  s.TypeIs v T /\ ∀a,v = .ref a -> ∃g,s.heap.get? a=Z g/\g.dict=Y:=by
 cases x with
 |str z=>
  obtain⟨t,rfl⟩:=r;cases(show T="str" from ty);exact⟨typeIs_str s z t,λ_ e=>nomatch e⟩
 |int i=>
  obtain⟨t,rfl⟩:=r;cases(show T="int" from ty);exact⟨typeIs_int s i t,λ_ e=>nomatch e⟩
 |ref p=>
  cases r;rcases ty with⟨rfl,xs,h⟩|⟨rfl,o,b,hc,d⟩|⟨rfl,b⟩|⟨rfl,S,n,b⟩
  ·obtain⟨j,_,pl,_⟩:=I.list h;refine⟨pl.isList.typeIs,λa e=>?_⟩;cases e;obtain⟨o,n,e,c,d,_⟩:=pl;exact⟨o,e,d⟩
  ·refine⟨⟨o,I.kIn p o b,hc⟩,λa e=>?_⟩;cases e;exact⟨o,I.kIn _ o b,d⟩
  ·have z:∃ o,s.heap.get? p=some o/\o.ExactDict:=by
    rcases b with⟨kvs,b⟩|⟨kvs,b⟩
    ·obtain⟨_,_,_,_,o,_,_,e,ex,_⟩:=I.hok p _ b;exact⟨o,e,ex⟩
    ·obtain⟨_,_,_,_,o,_,_,e,ex,_⟩:=I.hok p _ b;exact⟨o,e,ex⟩
   obtain⟨o,e,ex⟩:=z;refine⟨⟨o,e,ex.1⟩,λa f=>?_⟩;cases f;exact⟨o,e,ex.2.1⟩
  ·obtain⟨o,_,_,_,e,ex,_⟩:=I.hok p _ b;refine⟨⟨o,e,ex.1⟩,λa f=>?_⟩;cases f;exact⟨o,e,ex.2.1⟩
 |_=>exact False.elim ty
def Ly(K:Fg1)(T:String)(r:V->List V->Hp->VK->Prop)(to:TE)(t:TA):TE:=fun σ H Q=>to σ H λx H1=>KZ K T x H1/\t σ H1 λxs H2=>r x xs H2 Q
variable{o e:Expr}{es:List Expr}{to:TE}{t:TA}{name:Str}{apos cpos:Pos}{T id:String}{r:V->List V->Hp->VK->Prop}
theorem Il (l:PlainAttrs T)(slot:Slot T name id)(hty:typeOf (.builtin id)=pure (.type "method_descriptor"))(hm:Eg X id r)(ho:PE X o to)(ha:PA X (e::es) t)
  (hbase:autoParam (attributeBase o name X.env (eval o X.env)=eval o X.env) au0)
  (hfew:autoParam (((backTo cpos (dV (e::es) X.env)).all (λx=> !x.1)&&(backToKw cpos (keywordEach [] X.env)).all (λx=>x.1.isSome)
   && decide ((e::es).length+([]:List Keyword).length+(if([]:List Keyword).isEmpty then 0 else 1)<30))=M) au0)
  (hline:autoParam ((apos.endLine == cpos.line)=M) au0) (hs:autoParam (dV (e::es) X.env=(J,eval e X.env)::dV es X.env) au0) (hplain:autoParam ((backTo cpos (dV es X.env)).any (·.1)=J) au0):
  PE X (.Call (.Attribute o name apos) (e::es) [] cpos) (Ly X.K T r to t):=by
 intro ag s σ H Q I h;refine wpAny_Call_method_late hbase hfew hline O (fO (ho ag s σ H _ I h) λv g ⟨x,H1,b,a,ty,f⟩=>?_);obtain⟨h1,h2⟩:=EU b a ty;refine⟨T,id,l,slot,hty,h1,h2,?_⟩;have c:=ha cpos ag g σ H1 _ b f;rw[hs]at c ⊢;refine Calls.callWith_builtin (by show(J||(backTo cpos (dV es X.env)).any (·.1))=J;rw[hplain]<;>rfl) (Calls.evalArgs_plain ?_);exact fO c λj i ⟨vs,H2,d,r2,k⟩=>hm ag i σ H2 x vs v j Q d a r2 k
end
def KS(X:Cx)(id:String)(r:V->List V->Hp->VK->Prop):Prop:=
 ∀(ag:List (dP×Obj)) (s:dN) (σ:St) (H:Hp) (x:V) (xs:List V) (v:dM) (us:List dM) (Q:VK),Inv X ag σ H s->ew x v->eI xs us->r x xs H Q ->
  dX (model X.prog X.w) X.A (call (.builtin id) (v::us)) (EP X ag σ Q) X.xe s
theorem eI.one:∀{x:V} {a:List dM},eI [x] a -> ∃u,a=[u]/\ew x u:=by
 intro x a h;cases h with
 |cons r t=>cases t;exact⟨_,O,r⟩
theorem eI.two:∀{x y:V} {a:List dM},eI [x,y] a -> ∃u v,a=[u,v]/\ew x u/\ew y v:=by
 intro x y a h;cases h with
 |cons r t=>obtain⟨v,rfl,q⟩:=eI.one t;exact⟨_,_,O,r,q⟩
theorem eI.eraseIdx:∀{xs:List V} {a:List dM} (i:Nat),eI xs a->eI (xs.eraseIdx i) (a.eraseIdx i)
 |_,_,_,.nil=>.nil
 |_,_,0,.cons _ t=>t
 |_,_,i+1,.cons r t=>.cons r (eI.eraseIdx i t)
theorem eI.rep{xs:List V}{a:List dM}(h:eI xs a):∀k:Nat,eI (aR k xs).flatten (aR k a).flatten
 |0=>.nil
 |k+1=>by
  rw[aY,aY,aZ,aZ];exact eI.append h (eI.rep h k)
theorem qw{α:Type}:∀(l:List α) (i:Nat),(l.eraseIdx i).length<=l.length
 |[],_=>nR1 _
 |_::_,0=>a0 _
 |_::r,i+1=>Nat.succ_le_succ (qw r i)
theorem qS(its:List dM):∀ (k:Nat) (acc:List dM),
  List.foldl (λa b=>a++b) acc.toArray (aR k its.toArray)=(acc++(aR k its).flatten).toArray
 |0,acc=>by simp
 |k+1,acc=>by
  have e:acc.toArray++its.toArray=(acc++its).toArray:=by simp
  have c:(acc++its)++(aR k its).flatten=acc++(aR (k+1) its).flatten:=by
   rw[aY,aZ,bc]
  rw[<- c,<- qS its k (acc++its),<- e,aY,bd]
section
variable{ag:List (dP×Obj)}{σ:St}{H:Hp}{s:dN}{l b:dP}{xs ys zs:List V}
theorem Inv.lset {its its':List dM}{n:Nat}{f:Array dM->Array dM}{t':Nat}(I:Inv X ag σ H s)(d:H l=some (.lst xs))
  (e:s.heap.get? l=Z {cls:=.type "list",data:=.seq its.toArray n}) (hf:f its.toArray=its'.toArray) (hv:eI ys its') (c:ys.length<=dW):
  Inv X ag σ (upd H l (.lst ys)) {s with heap:=s.heap.update l (Obj.mapSeq f),toks:=t'}:=by
 have q:=PySem.IsL.update e f;rw[hf]at q;refine I.write (x:=l) (e:=l) (by rw[d];exact trivial) (.inl O) (λg u b a=>(Heap.get?_update_other s.heap (Obj.mapSeq f) (Ne.symm b)).trans a) ⟨_,q⟩ ?_;exact⟨c,its',_,hv,q⟩
theorem Inv.lnew{its:List dM}{t':Nat}(I:Inv X ag σ H s)(hv:eI ys its)(a:ys.length<=dW):
  Inv X ag σ (upd H s.heap.objs.size (.lst ys)) {s with heap:=s.heap.push {cls:=.type "list",data:=.seq its.toArray},toks:=t'}:=
 I.laid (λ_ _ q=>hP1 _ q) (nR1 _) ⟨a,its,0,hv,hS1 _ O⟩
theorem Inv.fresh(I:Inv X ag σ H s):H s.heap.objs.size=Y:=I.hok.fresh (nR1 _)
theorem Inv.lstM(I:Inv X ag σ H s)(a:H l=Z (.lst xs)):xs.length<=dW /\ ∃(its:List dM) (n:Nat),eI xs its/\xs.length=its.length/\s.heap.get? l=Z {cls:=.type "list",data:=.seq its.toArray n}:=by
 obtain⟨z,its,n,r,e⟩:=I.hok l _ a;exact⟨z,its,n,r,r.length,e⟩
theorem uc{n:Nat}(h:n<=dW):Builtin.List.listTooLong n=J:=by
 unfold Builtin.List.listTooLong;exact ai (by lia)
end
def Cs:V->List V->Hp->VK->Prop:=λx vs H Q=>∃l xs y,x = .ref l/\vs=[y]/\H l=Z (.lst xs)/\xs.length<dW/\Q .non (upd H l (.lst (xs++[y])))
theorem qq:KS X "list.append" Cs:=by
 intro ag s σ H x vs v i Q I f d h;obtain⟨l,xs,y,rfl,rfl,b,g,q⟩:=h;cases f;obtain⟨u,rfl,c⟩:=d.one;obtain⟨z,a,n,r,j,e⟩:=I.lstM b;refine call_meets F.slot_list_append ⟨_,e,O⟩ F.entry_list_append (F.args_list_append_2 _ _) (PySem.list_append l a.toArray n u (by rw[sT1];lia)) ⟨e,?_⟩;refine⟨.non,_,I.lset (its':=a++[u]) b e (by simp) (r.append (.cons c .nil)) ?_,O,q⟩;rw[lA1,bf];lia
def Cr:V->List V->Hp->VK->Prop:=λx vs H Q=>∃l b xs zs,x = .ref l/\vs=[.ref b]/\H l=Z (.lst xs)/\H b=Z (.lst zs)/\xs.length+zs.length<=dW/\Q .non (upd H l (.lst (xs++zs)))
theorem yt:KS X "list.extend" Cr:=by
 intro ag s σ H x vs v y Q I p m h;obtain⟨l,b,xs,zs,rfl,rfl,g,i,w,q⟩:=h;cases p;obtain⟨u,rfl,j⟩:=m.one;cases j;obtain⟨z,c,n,r,A,e⟩:=I.lstM g;obtain⟨B,a,k,r2,o,t⟩:=I.lstM i;have f:c.toArray.size+a.toArray.size<=dW:=by rw[sT1,sT1];lia
 have d:¬ (!c.toArray.isEmpty&&Builtin.List.listTooLong (c.toArray.size+a.toArray.size))=M:=by
  rw[uc f,Bool.and_false];exact aL
 refine call_meets F.slot_list_extend ⟨_,e,O⟩ F.entry_list_extend (F.args_list_extend_2 _ _)
  (AutoSeq1.list_extend_list_list_0 l c.toArray n b a.toArray k d (by rw[sT1];lia) (by lia)) ⟨e,t,?_⟩
 refine⟨.non,_,I.lset (its':=c++a) g e (by simp) (r.append r2) ?_,O,q⟩;rw[lA1];lia
def Fo:V->List V->Hp->VK->Prop:=λx vs H Q=>∃l xs i k y,x = .ref l/\vs=[.int i]/\H l=Z (.lst xs) /\ -(2^63)<=i/\i<2^63/\seqIndex? i xs.length=Z k/\xs[k]?=Z y/\Q y (upd H l (.lst (xs.eraseIdx k)))
theorem AG:KS X "list.pop" Fo:=by
 intro ag s σ H x vs v A Q I o m h;obtain⟨l,xs,i,k,y,rfl,rfl,c,h1,h2,d,p,q⟩:=h;cases o;obtain⟨u,rfl,f⟩:=m.one;obtain⟨t,rfl⟩:=f;obtain⟨z,a,n,r,j,e⟩:=I.lstM c;obtain⟨w,g,b⟩:=r.get p;refine call_meets F.slot_list_pop ⟨_,e,O⟩ F.entry_list_pop (F.args_list_pop_2 _ _)
  (MeetsSeq.list_pop_at l a.toArray n i t k w (fitsIndex_both h1 h2) (by rw[sT1,<- j];exact d) (by rw[<- aT1];exact g) (by rw[sT1];lia)) ⟨e,?_⟩
 refine⟨y,_,I.lset (its':=a.eraseIdx k) c e ?_ (r.eraseIdx k) ?_,b,q⟩
 ·show a.toArray.eraseIdxIfInBounds k=(a.eraseIdx k).toArray;rw[List.eraseIdxIfInBounds_toArray]
 ·have:=qw xs k;lia
def Kq:R2:=λx y H Q=>∃l b xs zs,x = .ref l/\y = .ref b/\H l=Z (.lst xs)/\H b=Z (.lst zs)/\xs.length+zs.length<=dW /\ ∀p,H p=Y->Q (.ref p) (upd H p (.lst (xs++zs)))
theorem F3:gF X (binaryOp .Add) Kq:=by
 intro ag s σ H x y v u Q I k d h;obtain⟨l,b,xs,zs,rfl,rfl,f,g,o,q⟩:=h;cases k;cases d;obtain⟨z,c,n,r,t,e⟩:=I.lstM f;obtain⟨w,a,p,r2,j,m⟩:=I.lstM g;refine PySem.P.add_list e m ?_ (by rw[sT1,sT1];lia);have i:c.toArray++a.toArray=(c++a).toArray:=by simp
 rw[i];exact⟨.ref _,_,I.lnew (t':=s.toks) (r.append r2) (by rw[lA1];lia),O,q _ I.fresh⟩
def Kn:R2:=λx y H Q=>∃l k xs,x = .ref l/\y = .int k/\H l=Z (.lst xs) /\ -(2^63)<=k/\k<2^63/\xs.length*k.toNat<=dW /\
 ∀p,H p=Y->Q (.ref p) (upd H p (.lst (aR k.toNat xs).flatten))
theorem Dh{α:Type}(xs:List α)(k:Nat):(aR k xs).flatten.length=k*xs.length:=by
 induction k with
 |zero=>simp
 |succ k ih=>rw[aY,aZ,lA1,ih,Nat.succ_mul,Nat.add_comm]
theorem FZ:gF X (binaryOp .Mult) Kn:=by
 intro ag s σ H x y v u Q I D w h;obtain⟨l,k,xs,rfl,rfl,A,h1,h2,p,q⟩:=h;cases D;obtain⟨t,rfl⟩:=w;obtain⟨z,b,n,r,C,e⟩:=I.lstM A;have g:b.toArray.size*k.toNat<=dW:=by rw[sT1,<- C];exact p
 have i:¬ b.toArray.size*k.toNat>(2^63-1)/8:=by
  have:(dW:Nat)<=(2^63-1)/8:=by decide
  lia
 have f:¬ (!Builtin.List.listFitsIndex k)=M:=by
  rw[fitsIndex_both h1 h2];exact aL
 have c:¬ Builtin.List.listTooLong (b.toArray.size*k.toNat)=M:=by
  rw[uc g];exact aL
 have d:List.foldl (λo j=>o++j) #[] (aR (if b.toArray.isEmpty=M then 0 else k.toNat) b.toArray)=(aR k.toNat b).flatten.toArray:=by
  have B:∀m:Nat,List.foldl (λo j=>o++j) #[] (aR m b.toArray)=(aR m b).flatten.toArray:=λm=>by
   have:=qS b m [];rw[bg]at this;exact this
  rw[B];cases b with
  |nil=>simp
  |cons a E=>rw[aj (by simp)]
 refine wpAny_binaryOp_repeat_ref (T:="list") (U:="int") (by decide) ⟨_,e,O⟩ (λs'=>typeIs_int s' k t) noFill_list_mul F.fills_int_mul F.slot_int_rmul repeat_list F.slot_int_index.lookup
  (call_meets F.slot_int_rmul (typeIs_int s k t) F.entry_int_rmul (F.args_int_rmul_2 _ _) (int___rmul___int_list k t l b.toArray n)
   ⟨e,O,⟨_,e,O⟩,call_meets F.slot_list_mul ⟨_,e,O⟩ F.entry_list_mul (F.args_list_mul_2 _ _) (AutoListH.list___mul___list_int_3 l b.toArray n k t f i c) ⟨e,?_⟩⟩)
 rw[d];exact⟨.ref _,_,I.lnew (t':=s.toks) (r.rep k.toNat) (by rw[Dh,Nat.mul_comm];exact p),O,q _ I.fresh⟩
section
variable{prog:dQ}{w:dS}{A:dR}{E:dM->dN->Prop}{s:dN}
end
end L2
namespace Att
open PySem PySem.W PySem.Calls PyProof.Rows
theorem nt{P:Params}{h:dY}:∀(ns:List Int) (vs:List dM),WellAll P h vs (ns.map WData.int)->IntsAre vs ns:=by
 intro ns
 induction ns with
 |nil=>
  intro vs w;rw[bh]at w;cases w;exact .nil
 |cons n ns ih=>
  intro vs w;rw[mP1]at w;cases w with
  |cons a b=>
   cases a;exact .cons _ _ (ih _ b)
theorem yg{l:OpenLaw}{n:Nat}(hn:l.most=some n){P:Params}{h:dY}{args:List WData}{c:List dM}(b:l.row.toRowW.claim.pre args=true)(j:WellAll P h c args):
  ∃a vs ns,c=[Value.ref a]/\args=[WData.list (ns.map WData.int)]/\h.get? a=Z {cls:=.type "list",data:=.seq vs.toArray}/\IntsAre vs ns/\ns.length<=n:=by
 have k:WShape.hasAll [] args [.list .int]=M:=(pre_splitW b).1;have hc:l.pre.holds [] {args:=args}=M:=(pre_splitW b).2;obtain⟨d,r,rfl,h1,h2⟩:=hasAllW_cons k;obtain rfl:=hasAllW_nil h2;obtain⟨xs,rfl,m⟩:=hasW_list h1;obtain⟨ns,rfl⟩:=items_int m;have f:ns.length<=n:=by
  unfold OpenLaw.pre at hc;have g:(WTm.not (.lt (.lit (.int (n:Int))) (.len (.arg 0)))).holds [] {args:=[.list (ns.map .int)]}=M:=by
   have g:=(holds_andW hc).1;rw[hn]at g;exact g
  have i:=condW_of g (w_not (w_lt w_lit (w_len_list (w_arg O))));rw[lM1]at i;refine bi λq=>?_;have o:(n:Int)<((ns.length:Nat):Int):=by omega
  first
   |(rw[ah o]at i;exact absurd i (by decide))
   |(simp at i;omega)
 cases j with
 |cons p s=>
  cases s;cases p with
  |list t e=>exact⟨_,_,ns,O,O,t,nt ns _ e,f⟩
theorem yk(l:OpenLaw)(args:List WData):l.row.toRowW.claim.post args (.bool M) args=M:=
 postW_of (r:=l.row.toRowW) (X:=(M == M))
  (show WShape.has [] (.bool M) .bool=M by first|rfl|decide|simp[WShape.has,WShape.arms,WShape.armsAll])
  (show(WTm.eq .res (.lit (.bool M))).value [] {args:=args,res:=Z (.bool M),after:=args}=Z (.bool (M == M))from w_eq_bool (w_res O) w_lit) O
theorem attach_call {l:OpenLaw}{n:Nat}{q:dQ}{e:List Str}{XP:(Str->Option dM)->dY->Prop}{B:dS->dY->Prop}{d:DefRec}
  (hn:l.most=Z n) (x:d.params.defaults=[])
  (call:∀(w:dS) (c b:dN) (mg y:Str->Option dM) (k:dP) (o:Obj) (s p h:dM) (a:dP) (vs:List dM) (ns:List Int),
   Ground q e [] XP w c mg y b.heap->B w b.heap ->
   b.heap.get? k=Z o->o.data = .func (docDef d.name d.params d.body d.scope s p h)->b.heap.CodeRec p d.name->mg d.name=Z (.ref k) ->
   b.heap.get? a=Z {cls:=.type "list",data:=.seq vs.toArray}->IntsAre vs ns->ns.length<=n->b.gens = #[] ->
   codeAny (model l.prog w) callerA (.call (.ref k) ⟨[.ref a],[]⟩) (λr s'=>r = .ok (.ret (.bool M))/\OldK b.heap s'.heap/\s'.os=b.os/\AllBare s'.gens) b):
  WalkO q e XP B l.row.toRowW d [] (λf vs=>PySem.call f vs):=by
 intro w c b mg y G au k o s p h H kV I aq v D u ao A z as m C F t N;obtain rfl:H = .none:=Dflts.none D x;obtain rfl:kV = .none:=Dflts.noKw D;obtain⟨a,vs,ns,rfl,rfl,j,g,i⟩:=yg hn m t;refine enter_call (codeAny_mono (call w c b mg y k o s p h a vs ns G au I (fd_plain aq) v u j g i ao) λr s' K=>?_);obtain⟨rfl,h2,E,av⟩:=K;exact⟨.inl ⟨.bool M,.bool M,[],O,λ_=>rfl,.bool M,yk l _,λ_=>⟨List.Pairwise.nil,λ_ L=>(nomatch L)⟩⟩,h2,E,av⟩
section
variable{prog:dQ}{w:dS}{A:dR}{E:dM->dN->Prop}{s:dN}{K:Frag}
end
end Att
namespace L2
open PySem PySem.Spec PyProof.Rows
theorem x0:∀{vs:List dM} {ns:List Int},IntsAre vs ns->eI (ns.map V.int) vs:=by
 intro vs ns h
 induction h with
 |nil=>exact .nil
 |cons n t h ih=>exact .cons ⟨t,O⟩ ih
def Ef(H:Hp):Prop:=∀b,H b=Y \/ ∃o xs,H b=Z (.frz o (.lst xs))
theorem A1 {P:dQ}{w:dS}{K:Fg1}{mg ao:Str->Option dM}{CX:zn}{k:Nat}{I a:dP}{fd:dZ}{x:Str}{sp:Sp}{s₁:dN}{vs:List dM}{ns:List Int}
  (aq:K.In s₁.heap) (j:s₁.heap.Ns dU mg) (hb:s₁.heap.Ns builtinsNs ao) (G:∀x:Str,x≠"__name__"->ao x=bootBuiltins x) (t:s₁.heap.NoLimit) (hg:s₁.gens = #[])
  (ha:s₁.heap.get? a=Z {cls:=.type "list",data:=.seq vs.toArray}) (hi:IntsAre vs ns) (N:ns.length<=dW) (hr:gi k callerA)
  (F:∀base:dY,K.In base->base.Ns dU mg->j6 P w K mg base CX k I fd [x] sp) (g:∀(s:dN) (u:dM),BindsTo s fd ⟨[u],[]⟩ [(x,u)])
  (E:∀H:Hp,Ef H->nL K H a (ns.map V.int)->sp [.ref a] H (λv _=>v = .bl M) λ_ _ _=>False)
  (L:∀H e s',CX [] H s₁ (λ_ _ _=>False) e s'->False):
  codeAny (model P w) callerA (.call (.ref I) ⟨[.ref a],[]⟩) (λr s'=>r = .ok (.ret (.bool M))/\OldK s₁.heap s'.heap/\s'.os=s₁.os/\AllBare s'.gens) s₁:=by
 have av:=x0 hi;have p:=hi.length
 -- from an abstract heap in which nothing but the script may be tracked
 have f:∀ H:Hp,Ef H->nL K H a (ns.map V.int)->kF P w H s₁.heap->(∀ b,H b≠none->b=a)->(H a≠none->K.lookup a=none) ->
   codeAny (model P w) callerA (.call (.ref I) ⟨[.ref a],[]⟩) (λr s'=>r = .ok (.ret (.bool M))/\OldK s₁.heap s'.heap/\s'.os=s₁.os/\AllBare s'.gens) s₁:=by
  intro H R hS B Q X;have base_of:∀{b:dP} {o:Obj},s₁.heap.get? b=Z o->H b=Y->(sJ s₁.heap H).get? b=Z o:=λe n=>Bb e n;have C:∀{b:dP} {o:Obj} {es:Array DictEntry} {ep:Nat},s₁.heap.get? b=Z o->o.data = .dict es ep->H b=Y:=λ{b o es ep} e d=>by
   cases q:H b with
   |none=>rfl
   |some u=>
    have D:b=a:=Q b (by rw[q];simp);subst D;rw[ha]at e;cases e;have d':Data.seq vs.toArray _=Data.dict es ep:=d;cases d'
  have c:∀{b:dP} {m:Str->Option dM},s₁.heap.Ns b m->(sJ s₁.heap H).Ns b m:=λ{b m} ⟨o,es,ep,e,d,r⟩=>⟨o,es,ep,base_of e (C e d),d,r⟩;have A:K.In (sJ s₁.heap H):=λb o e=>base_of (aq b o e) (by
   cases q:H b with
   |none=>rfl
   |some u=>
    have D:b=a:=Q b (by rw[q];simp);subst D;rw[X (by rw[q];simp)]at e;cases e)
  have hM:Mod K mg (sJ s₁.heap H):=⟨A,c j,⟨ao,c hb,G⟩,let ⟨mc,h1,h2⟩:=t;⟨mc,c h1,h2⟩⟩;have e0:Eh P w K mg (sJ s₁.heap H) callerA [] s₁ H:=⟨O,hM,λb o e=>CQ e,Nat.le_of_eq (yO _ _),trivial,λb hb=>absurd (show b∈([]:List dP)from hb) (by simp),B,.of_eq hg⟩;refine codeAny_mono ((F _ A (c j)).run callerA [] s₁ H ⟨[.ref a],[]⟩ [.ref a] [.ref a] _ _ hr e0 (g s₁ (.ref a)) (.cons O .nil) (E H R hS)) λr s' h=>?_;cases r with
  |error e=>exact(L H e s' h).elim
  |ok T=>
   cases T with
   |next=>exact False.elim h
   |brk=>exact False.elim h
   |cont=>exact False.elim h
   |ret u=>
    obtain⟨v,H',os,i,un,l,W,q⟩:=h;have U:v = .bl M:=q;subst U;obtain rfl:u=Value.bool true:=W;refine⟨O,OldK.of_keep λb o e=>?_,os,i⟩;cases q:H b with
    |none=>exact un.keep b o e q (by intro z;exact absurd (show b∈([]:List dP)from z) (by simp)) (by simp)
    |some u=>
     rcases R b with z|⟨ob,xs,z⟩
     ·rw[q]at z;cases z
     ·have wq:=un.frzs b ob _ z;obtain⟨S,_⟩:=B b _ z;obtain⟨au,_⟩:=l b _ wq;rw[e]at S;cases S;exact au
 cases hk:K.lookup a with
 |some o=>
  -- the script is one of the module's own objects
  have e:=aq a o hk;rw[ha]at e;cases e;refine f (λ_=>Y) (λ_=>.inl O) (.inr ⟨_,vs.toArray,_,hk,O,O,O,by rw[sT1,p];exact N,by simpa using av⟩) (λb u z=>by have y:(Y:Option HO)=Z u:=z;cases y) (λb z=>absurd O z) λz=>absurd O z
 |none=>
  refine f (λb=>if b=a then Z (.frz {cls:=.type "list",data:=.seq vs.toArray} (.lst (ns.map V.int)))else Y) (λb=>?_) (.inl (.inr ⟨{cls:=.type "list",data:=.seq vs.toArray},ak O⟩)) (λb u z=>?_) (λb z=>?_) λ_=>hk
  ·by_cases hb:b=a
   ·exact .inr ⟨_,_,ak hb⟩
   ·exact .inl (aj hb)
  ·by_cases hb:b=a
   ·have y:=(ak hb).symm.trans z;cases y;subst hb;exact⟨ha,by rw[lM1];exact N,vs,_,av,ha⟩
   ·have y:=(aj hb).symm.trans z;cases y
  ·by_cases hb:b=a
   ·exact hb
   ·exact absurd (aj hb) z
theorem Cf{l:PySem.W.OpenLaw}{n k:Nat}{q:dQ}{g:List Str}{XP:(Str->Option dM)->dY->Prop}{C:dS->dY->Prop}{d:DefRec}{K:Params->Fg1}{CX:dS->zn}{sp:dS->Sp}{x:Str}(hn:l.most=some n)(t:n<=dW)(y:d.params.defaults=[])(hr:gi k callerA)(E:∀(w:dS) (h:dY),C w h->(K w.params).In h)(F:∀(w:dS) (mg:Str->Option dM) (m:dP) (h:dY),(K w.params).In h->h.Ns dU mg->mg d.name=some (.ref m) ->
   ∃fd:dZ,(∀(s:dN) (u:dM),BindsTo s fd ⟨[u],[]⟩ [(x,u)]) /\
    ∀base:dY,(K w.params).In base->base.Ns dU mg->j6 l.prog w (K w.params) mg base (CX w) k m fd [x] (sp w))(r:∀(w:dS) (H:Hp) (a:dP) (ns:List Int),ns.length<=n->Ef H->nL (K w.params) H a (ns.map V.int)->sp w [.ref a] H (λv _=>v = .bl M) λ_ _ _=>False)(z:∀(w:dS) (H:Hp) (s:dN) (e:dM) (s':dN),CX w [] H s (λ_ _ _=>False) e s'->False):
  PySem.W.WalkO q g XP C l.row.toRowW d [] (λf vs=>PySem.call f vs):=by
 refine Att.attach_call hn y λw A i mg T m o P Q L a vs ns G au R S aq p j c b ao=>?_;have B:=E w _ au;obtain⟨fd,D,N⟩:=F w mg m _ B G.T.g p;exact A1 B G.T.g G.T.b G.T.builtins G.T.nolimit ao j c (aD b t) hr N D (λH I av=>r w H a ns b I av) λH e s'=>z w H i e s'
noncomputable def iC(s:d0):Arguments:=match s with
 | .FunctionDef _ a _ _ _ _ _ _ _ _=>a
 |_=>{posonlyargs:=[],args:=[],vararg:=Y,kwonlyargs:=[],kw_defaults:=[],kwarg:=Y,defaults:=[]}
noncomputable def fK(s:d0):List d0:=match s with
 | .FunctionDef _ _ b _ _ _ _ _ _ _=>b
 |_=>[]
noncomputable def eG(s:d0):d3:=match s with
 | .FunctionDef _ _ _ _ _ _ sc _ _ _=>sc
 |_=>{kind:=.function,names:=[],isGenerator:=J,isCoroutine:=J}
abbrev uY:zn:=λ_ _ _ _ _ _=>False
abbrev E0:XK:=λ_ _ _=>False
theorem Io{X:Cx}:wa uY X E0:=λ_ _ _ _ _ _ _ h=>h.elim
structure zt (K:Fg1)(x qual:Str)(st:d0)(f:dP)(fd:dZ):Prop where
 ex:∃(oc:dM) (od:Option dP) (kV doc pm:dM) (an:Option dP) (cdv ct:dM) (osl:Array (Option dM)),
  fd=wF1 x qual (iC st) (fK st) (eG st) .none kV doc pm an cdv ct/\K.lookup f=some ⟨oc,od,.func fd,osl⟩/\wC1 K cdv qual=true
 kp:wK1 K (.ref f)=true
section
variable{P:dQ}{w:dS}{K:Fg1}{mg:Str->Option dM}{base:dY}
theorem zt.ok{x b:Str}{st:d0}{f:dP}{fd:dZ}{N ps:List Str}{k:Nat}{sp:Sp}(F:zt K x b st f fd)(S:gK N ps (eG st))(len:∀ vs H Q E,sp vs H Q E->vs.length=ps.length)(d:∀(c:dM) (A:dR) (a:List Env) (s:dN) (H:Hp) (vs:List V) (Q:VK) (E:XK),gi k (A.deeper (envOfC b (eG st) s.heap.objs.size f c))->sp vs H Q E ->
   ∃t,u7 (nw uY P w K mg base N b (eG st) f c A a s H E).nox (fK st) t/\t {nx:=λ_ H'=>Q .non H',rt:=Q} (ju N vs) H):j6 P w K mg base uY (k+1) f fd ps sp:=by
 obtain⟨p,o,kV,i,n,r,c,ct,m,rfl,l,g⟩:=F.ex;refine I9 l g S len λA a s H vs Q E j e=>?_;obtain⟨t,h,q⟩:=d c A a s H vs Q E j e;exact⟨t,h.nox,q⟩
theorem zt.binds{x a:Str}{st:d0}{f:dP}{fd:dZ}{ps:List Str}(F:zt K x a st f fd)(h:∀(kV c d:dM) (g:Option dP) (b ct:dM) (e:List dM),e.length=ps.length->bindArgs (wF1 x a (iC st) (fK st) (eG st) .none kV c d g b ct) ⟨e,[]⟩=pure (ps.zip e)):lX K fd ps []:=by
 obtain⟨m,k,kV,c,d,g,b,ct,j,rfl,l,i⟩:=F.ex;exact .all (h kV c d g b ct)
theorem Bk{x a:Str}{st:d0}{f:dP}{j:dM}{i h:Option dP}{e:Array (Option dM)}{kV d g b ct:dM}(l:K.lookup f=Z ⟨j,i,.func (wF1 x a (iC st) (fK st) (eG st) .none kV d g h b ct),e⟩)(c:wC1 K b a=M)(k:wK1 K (.ref f)=M):zt K x a st f (wF1 x a (iC st) (fK st) (eG st) .none kV d g h b ct):=⟨⟨j,i,kV,d,g,h,b,ct,e,O,l,c⟩,k⟩
end
variable{X:Cx}
theorem pv (i:Nat){x:Str}{pos:Pos}(hN:autoParam (X.N[i]? = some x) au0)(hv:autoParam (Vis X.env.scope x) au0)(hd:autoParam ((x == ("__debug__":Str))=false) bu0)
  (hcd:autoParam ((x == ("__classdict__":Str))=J) bu0):PE X (.Name x pos) (HK i):=Ap hN hv hd hcd
section
variable{κ:Type} [DecidableEq κ]
noncomputable def i3(kvs:List (κ×V))(k:κ):Option V:=(kvs.find? λkv=>decide (kv.1=k)).map (·.2)
noncomputable def iN(kvs:List (κ×V))(k:κ)(v:V):List (κ×V):=
 if(kvs.any λkv=>decide (kv.1=k))=M then kvs.map (λkv=>if kv.1=k then(kv.1,v)else kv)else kvs++[(k,v)]
theorem nS{p:κ×V}{r:List (κ×V)}{k:κ}(e:p.1=k):i3 (p::r) k=Z p.2:=by simp[i3,bj,e]
theorem nT{p:κ×V}{r:List (κ×V)}{k:κ}(e:¬ p.1=k):i3 (p::r) k=i3 r k:=by simp[i3,bj,e]
theorem tq(k:κ):∀kvs:List (κ×V),(kvs.any λa=>decide (a.1=k))=(i3 kvs k).isSome
 |[]=>rfl
 |p::r=>by
  rw[bm];by_cases e:p.1=k
  ·simp only[nS e,ah e,Bool.true_or,Option.isSome_some]
  ·rw[nT e,ai e,Bool.false_or];exact tq k r
theorem jB(kvs:List (κ×V))(k:κ)(v:V):(iN kvs k v).length<=kvs.length+1:=by
 unfold iN;split
 ·rw[lM1];lia
 ·rw[lA1,lC1,bn];lia
theorem mH.isSome_eq{o:Option V}{u:Option dM}(r:mH o u):o.isSome=u.isSome:=by
 cases o with
 |none=>cases u with
  |none=>rfl
  |some _=>exact(show False from r).elim
 |some _=>cases u with
  |none=>exact(show False from r).elim
  |some _=>rfl
theorem mH.getD{o:Option V}{u:Option dM}{d:V}{d':dM}(r:mH o u)(a:ew d d'):ew (o.getD d) (u.getD d'):=by
 cases o with
 |none=>cases u with
  |none=>exact a
  |some _=>exact(show False from r).elim
 |some _=>cases u with
  |none=>exact(show False from r).elim
  |some _=>exact r
theorem KV.val{kvs:List (κ×V)}{vs:List (κ×dM)}(r:KV kvs vs)(k:κ):mH (i3 kvs k) (valueAt vs k):=by
 unfold KV at r
 induction r with
 |nil=>exact True.intro
 | @cons p q ps a h t ih=>
  obtain⟨h1,h2⟩:=h;by_cases e:p.1=k
  ·have c:q.1=k:=h1.symm.trans e;have b:valueAt (q::a) k=Z q.2:=by simp[valueAt,bj,c]
   rw[nS e,b];exact h2
  ·have c:¬ q.1=k:=λz=>e (h1.trans z);have b:valueAt (q::a) k=valueAt a k:=by simp[valueAt,bj,c]
   rw[nT e,b];exact ih
theorem KV.any{kvs:List (κ×V)}{vs:List (κ×dM)}(r:KV kvs vs)(k:κ):(kvs.any λa=>decide (a.1=k))=vs.any λa=>decide (a.1=k):=by
 unfold KV at r
 induction r with
 |nil=>rfl
 |cons h t ih=>rw[bm,bm,ih,h.1]
theorem KV.repl{kvs:List (κ×V)}{vs:List (κ×dM)}(r:KV kvs vs)(k:κ){y:V}{u:dM}(b:ew y u):
  KV (kvs.map λa=>if a.1=k then(a.1,y)else a) (vs.map λa=>if a.1=k then(a.1,u)else a):=by
 unfold KV at r ⊢
 induction r with
 |nil=>exact .nil
 | @cons p q ps c h t ih=>
  rw[mP1,mP1];refine .cons ?_ ih;obtain⟨h1,h2⟩:=h;by_cases e:p.1=k
  ·rw[ak e,ak (h1.symm.trans e)];exact⟨h1,b⟩
  ·rw[aj e,aj (λz=>e (h1.trans z))];exact⟨h1,h2⟩
theorem KV.put{kvs:List (κ×V)}{vs:List (κ×dM)}(r:KV kvs vs)(k:κ){y:V}{u:dM}(a:ew y u):KV (iN kvs k y) (stored vs k u):=by
 unfold iN stored;rw[r.any k];by_cases e:(vs.any λb=>decide (b.1=k))=M
 ·rw[ak e,ak e];exact r.repl k a
 ·rw[aj e,aj e];exact Paired.snoc r ⟨O,a⟩
theorem KV.length{kvs:List (κ×V)}{vs:List (κ×dM)}(r:KV kvs vs):kvs.length=vs.length:=Paired.length r
end
theorem qy{P:dQ}{w:dS}{k:Key}{u:dM}(r:ew (kV k) u):(fu P w).is k u=M:=by
 cases k with
 |inl i=>obtain⟨t,e⟩:=(show∃t,u=Value.int i t from r);subst e;exact ug P w i t
 |inr x=>obtain⟨t,e⟩:=(show∃t,u=Value.str x t from r);subst e;exact uf P w x t
theorem qz{P:dQ}{w:dS}:∀{ks:List Key} {a:List dM},eI (ks.map kV) a->ItemsAre (fu P w) ks a
 |[],_,r=>by rw[bh]at r;cases r;exact .nil
 |k::ks,_,r=>by
  rw[mP1]at r;cases r with
  |cons h t=>exact .cons (qy h) (qz t)
abbrev KT(H:Hp):List (List Key×V)->List (List Key×dP×dM)->Prop:=Paired λp q=>p.1=q.1/\H q.2.1=Z (.tup (p.1.map kV))/\ew p.2 q.2.2
theorem KT.val{H:Hp}{kvs:List (List Key×V)}{xs:List (List Key×dP×dM)}(r:KT H kvs xs)(k:List Key):mH (i3 kvs k) ((atKey xs k).map (·.2)):=by
 induction r with
 |nil=>exact True.intro
 | @cons p q ps a h t ih=>
  obtain⟨h1,_,h2⟩:=h;by_cases e:p.1=k
  ·have c:q.1=k:=h1.symm.trans e;have b:atKey (q::a) k=Z q.2:=by simp[atKey,bj,c]
   rw[nS e,b];exact h2
  ·have c:¬ q.1=k:=λz=>e (h1.trans z);have b:atKey (q::a) k=atKey a k:=by simp[atKey,bj,c]
   rw[nT e,b];exact ih
theorem KT.repl{H:Hp}{kvs:List (List Key×V)}{xs:List (List Key×dP×dM)}(r:KT H kvs xs)(k:List Key){y:V}{u:dM}(b:ew y u):
  KT H (kvs.map λa=>if a.1=k then(a.1,y)else a) (xs.map (putAt k u)):=by
 induction r with
 |nil=>exact .nil
 | @cons p q ps d h t ih=>
  rw[mP1,mP1];refine .cons ?_ ih;obtain⟨h1,h2,c⟩:=h;unfold putAt;by_cases e:p.1=k
  ·rw[ak e,ak (h1.symm.trans e)];exact⟨h1,h2,b⟩
  ·rw[aj e,aj (λz=>e (h1.trans z))];exact⟨h1,h2,c⟩
theorem KT.put{H:Hp}{kvs:List (List Key×V)}{xs:List (List Key×dP×dM)}(r:KT H kvs xs)(k:List Key){b:dP}{y:V}{u:dM}(hb:H b=some (.tup (k.map kV)))(a:ew y u):
  KT H (iN kvs k y) (storedH xs k b u):=by
 have e:(kvs.any λc=>decide (c.1=k))=(atKey xs k).isSome:=by
  rw[tq,(r.val k).isSome_eq,bo]
 unfold iN storedH;rw[e];by_cases q:(atKey xs k).isSome=M
 ·rw[ak q,ak q];exact r.repl k a
 ·rw[aj q,aj q];exact Paired.snoc r ⟨O,hb,a⟩
theorem KT.keeps{H H':Hp}{kvs:List (List Key×V)}{xs:List (List Key×dP×dM)}(r:KT H kvs xs)(ht:∀b ys,H b=Z (.tup ys)->H' b=Z (.tup ys)):KT H' kvs xs:=
 Paired.mapP r λ_ _ z=>⟨z.1,ht _ _ z.2.1,z.2.2⟩
section
variable{P:dQ}{w:dS}{H:Hp}{h:dY}{a:dP}
theorem Er{u:HO}(ok:kF P w H h)(e:Rd H a u):eY P w H h a u:=e.ok ok
theorem uJ{kvs:List (Key×V)}(ok:kF P w H h)(e:Rd H a (.dK kvs)):kvs.length<=dW/\(a == sysModules)=J /\ ∃vs,KV kvs vs/\h.DictOf (fu P w) a vs:=
 show eY P w H h a (.dK kvs)from Er ok e
theorem xE{kvs:List (Key×V)}(ok:kF P w H h)(e:H a=Z (.dK kvs)):kvs.length<=dW/\(a == sysModules)=J /\ ∃vs,KV kvs vs/\h.DictOf (fu P w) a vs:=uJ ok (.inl e)
theorem oH{ks:List Key}(ok:kF P w H h)(e:H a=Z (.tup (ks.map kV))):(tupleKind (fu P w)).is h ks a:=by
 obtain⟨_,b,r,o,h1,h2,n,c⟩:=(show eY P w H h a (.tup (ks.map kV))from ok a _ e);exact⟨o,b.toArray,n,h1,h2,c,by simpa using qz r⟩
theorem uI{kvs:List (List Key×V)}(ok:kF P w H h)(e:Rd H a (.dT kvs)):kvs.length<=dW/\(a == sysModules)=false /\
  ∃xs,KT H kvs xs/\h.DictOfH (tupleKind (fu P w)) a xs:=by
 obtain⟨z,y,xs,r,o,es,ep,h1,h2,d,f,g⟩:=(show eY P w H h a (.dT kvs)from Er ok e);refine⟨z,y,xs,r,o,es,ep,h1,h2,d,f,λx b=>?_,g⟩;have all:∀{l:List (List Key×V)} {m:List (List Key×dP×dM)},KT H l m -> ∀x∈m,(tupleKind (fu P w)).is h x.1 x.2.1:=by
  intro l m q
  induction q with
  |nil=>intro x b;exact nomatch b
  | @cons p q ps i c t ih=>
   intro x b;rcases aG.mp b with e|b
   ·subst e;exact oH ok (by rw[<- c.1];exact c.2.1)
   ·exact ih x b
 exact all r x b
theorem Jh{kvs:List (List Key×V)}(ok:kF P w H h)(e:H a=some (.dT kvs)):kvs.length<=dW/\(a == sysModules)=false /\
  ∃xs,KT H kvs xs/\h.DictOfH (tupleKind (fu P w)) a xs:=uI ok (.inl e)
end
def pX(H:Hp)(a:dP)(y:V)(r:Option V):Prop:=
 (∃kvs k,Rd H a (.dK kvs)/\y=kV k/\r=i3 kvs k) \/ ∃kvs k b,Rd H a (.dT kvs)/\y = .ref b/\H b=Z (.tup (k.map kV))/\r=i3 kvs k
def zm(H:Hp)(a:dP)(y v:V)(H':Hp):Prop:=
 (∃kvs k,H a=Z (.dK kvs)/\y=kV k/\kvs.length<dW/\H'=upd H a (.dK (iN kvs k v))) \/
 ∃kvs k b,H a=Z (.dT kvs)/\y = .ref b/\H b=Z (.tup (k.map kV))/\kvs.length<dW/\H'=upd H a (.dT (iN kvs k v))
theorem pX.k{H:Hp}{a:dP}{kvs:List (Key×V)}{k:Key}(e:H a=Z (.dK kvs)):pX H a (kV k) (i3 kvs k):=.inl ⟨kvs,k,.inl e,O,O⟩
theorem pX.t{H:Hp}{a b:dP}{kvs:List (List Key×V)}{k:List Key}(e:H a=Z (.dT kvs))(c:H b=Z (.tup (k.map kV))):pX H a (.ref b) (i3 kvs k):=.inr ⟨kvs,k,b,.inl e,O,c,O⟩
theorem zm.k{H:Hp}{a:dP}{kvs:List (Key×V)}{k:Key}{v:V}(e:H a=Z (.dK kvs))(b:kvs.length<dW):zm H a (kV k) v (upd H a (.dK (iN kvs k v))):=.inl ⟨kvs,k,e,O,b,O⟩
theorem zm.t{H:Hp}{a b:dP}{kvs:List (List Key×V)}{k:List Key}{v:V}(e:H a=some (.dT kvs))(c:H b=some (.tup (k.map kV)))(d:kvs.length<dW):
  zm H a (.ref b) v (upd H a (.dT (iN kvs k v))):=.inr ⟨kvs,k,b,e,O,c,d,O⟩
section
variable{ag:List (dP×Obj)}{σ:St}{H:Hp}{s:dN}{a:dP}{y v:V}{u r:dM}{o:Option V}{A:dR}{E:dM->dN->Prop}
theorem Inv.big(I:Inv X ag σ H s):sysModules<s.heap.objs.size:=by
 have h:dU<s.heap.objs.size:=(I.mod.glob.keeps I.bk).lt;exact bq (by decide) h
theorem y2{Q:dM->dN->Prop}(t:A.units+1<cLine)(I:Inv X ag σ H s)(g:pX H a y (some v))(q:ew y u)(h:∀ f s',Inv X ag σ H s'->ew v f->Q f s'):
  dX (model X.prog X.w) A (getItem (.ref a) u) Q E s:=by
 rcases g with⟨kvs,k,e,n,l⟩|⟨kvs,k,b,e,n,w,l⟩
 ·subst n;obtain⟨z,x,vs,d,i⟩:=uJ I.hok e;obtain⟨f,m,c⟩:=mH.some_of (v:=v) (o:=valueAt vs k) (by rw[l];exact d.val k);exact wpAny_getItem_of (qy q) i.mapOf m (h f _ (I.tok _) c)
 ·subst n;cases(show u=Value.ref b from q);obtain⟨z,x,xs,d,i⟩:=uI I.hok e;obtain⟨f,m,c⟩:=mH.some_of (v:=v) (o:=(atKey xs k).map (·.2)) (by rw[l];exact d.val k);obtain⟨p,r,j⟩:=oM1.mp m;refine wpAny_getItem_heap (tupleKind_room_in1 t) (oH I.hok w) i r ?_;rw[j];exact h f _ (I.tok _) c
theorem KH{Q:dM->dN->Prop}(n:A.units+1<cLine)(I:Inv X ag σ H s)(g:pX H a y o)(j:ew y u)(h:∀ s',Inv X ag σ H s'->Q (.bool o.isSome) s'):
  dX (model X.prog X.w) A (compareOp .In u (.ref a)) Q E s:=by
 rcases g with⟨kvs,k,e,i,l⟩|⟨kvs,k,b,e,i,m,l⟩
 ·subst i;obtain⟨z,f,vs,c,d⟩:=uJ I.hok e;refine wpAny_in_of (qy j) f d.mapOf ?_;rw[<- (c.val k).isSome_eq,<- l];exact h _ (I.tok _)
 ·subst i;cases(show u=Value.ref b from j);obtain⟨z,f,xs,c,d⟩:=uI I.hok e;refine wpAny_in_heap (tupleKind_room_in1 n) (oH I.hok m) f d ?_;have q:=(c.val k).isSome_eq;rw[bo]at q;rw[<- q,<- l];exact h _ (I.tok _)
theorem DX{Q:dM->dN->Prop}(n:A.units+1<cLine)(I:Inv X ag σ H s)(g:pX H a y o)(j:ew y u)(h:∀ s',Inv X ag σ H s'->Q (.bool (!o.isSome)) s'):
  dX (model X.prog X.w) A (compareOp .NotIn u (.ref a)) Q E s:=by
 rcases g with⟨kvs,k,e,i,l⟩|⟨kvs,k,b,e,i,m,l⟩
 ·subst i;obtain⟨z,f,vs,c,d⟩:=uJ I.hok e;refine wpAny_notIn_of (qy j) f d.mapOf ?_;rw[<- (c.val k).isSome_eq,<- l];exact h _ (I.tok _)
 ·subst i;cases(show u=Value.ref b from j);obtain⟨z,f,xs,c,d⟩:=uI I.hok e;refine wpAny_notIn_heap (tupleKind_room_in1 n) (oH I.hok m) f d ?_;have q:=(c.val k).isSome_eq;rw[bo]at q;rw[<- q,<- l];exact h _ (I.tok _)
theorem lI{h':dY}{t':Nat}{c:HO}(I:Inv X ag σ H s)(mu:Mut (H a))(hs:Heap.SameBut a s.heap h')(he:∃ q,h'.get? a=some q)(new:eY X.prog X.w (upd H a c) h' a c):
  Inv X ag σ (upd H a c) {s with heap:=h',toks:=t'}:=
 I.write (x:=a) (e:=a) mu (.inl O) (λb q d z=>(hs.2 b d).trans z) he new
theorem By{P:dQ}{w:dS}{H':Hp}{h':dY}{kvs:List (Key×V)}{vs:List (Key×dM)}(z:kvs.length<=dW)(hd:(a == sysModules)=false)(b:KV kvs vs)(dd:h'.DictOf (fu P w) a vs):
  eY P w H' h' a (.dK kvs):=⟨z,hd,vs,b,dd⟩
theorem yZ{H':Hp}{Q:Unit->dN->Prop}(F:A.units+1<cLine)(I:Inv X ag σ H s)(g:zm H a y v H')(C:ew y u)(x:ew v r)(h:∀ s',Inv X ag σ H' s'->Q () s'):
  dX (model X.prog X.w) A (setItem (.ref a) u r) Q E s:=by
 rcases g with⟨kvs,k,e,t,l,p⟩|⟨kvs,k,b,e,t,B,l,p⟩
 ·subst t p;obtain⟨z,w,vs,d,o⟩:=xE I.hok e;have n:vs.length<=dW:=by rw[<- d.length];exact z
  have m:(iN kvs k v).length<=dW:=by have:=jB kvs k v;lia
  refine wpAny_setItem_pairs (hsz:=n) (qy C) o λh' f j=>h _ ?_;have K:∃q,h'.get? a=Z q:=let ⟨q,_,_,i,_⟩:=f;⟨q,i⟩
  exact lI I (by rw[e];exact True.intro) j K (By m w (d.put k x) f)
 ·subst t p;cases(show u=Value.ref b from C);obtain⟨z,w,xs,d,o⟩:=Jh I.hok e;have n:xs.length<=dW:=by rw[<- Paired.length d];exact z
  have m:(iN kvs k v).length<=dW:=by have:=jB kvs k v;lia
  refine wpAny_setItem_heap (hsz:=n) (tupleKind_room_in1 F) (oH I.hok B) o λh' f j=>h _ ?_;obtain⟨q,es,ep,i,h2,G,L,_,ao⟩:=f;refine lI I (by rw[e];exact True.intro) j ⟨q,i⟩ ⟨m,w,_,(d.put k B x).keeps λc ys D=>?_,q,es,ep,i,h2,G,L,ao⟩;rw[d9 (Iy D e (λz=>nomatch z))];exact D
end
section
variable{ag:List (dP×Obj)}{σ:St}{H:Hp}{s:dN}{a:dP}{kvs:List (Key×V)}{k:Key}{u:dM}{A:dR}{E:dM->dN->Prop}
end
theorem uL{X:Cx}{ag:List (dP×Obj)}{σ:St}{H:Hp}{s:dN}{a:dP}{y:V}{o:Option V}(I:Inv X ag σ H s)(g:pX H a y o):s.TypeIs (.ref a) "dict":=by
 rcases g with⟨kvs,k,e,_,_⟩|⟨kvs,k,b,e,_,_,_⟩
 ·obtain⟨_,_,vs,_,c⟩:=uJ I.hok e;exact c.typeIs
 ·obtain⟨_,_,xs,_,c⟩:=uI I.hok e;exact c.typeIs
section
variable{o i e value:Expr}{pos pos' tpos:Pos}{td ty tv:TE}
end
theorem uK{P:dQ}{w:dS}{H:Hp}(h:dY)(hb:sysModules<h.objs.size):eY P w H (h.push {cls:=.type "dict",data:=.dict #[]}) h.objs.size (.dK []):=
 ⟨br _,beq_eq_false_iff_ne.mpr (Ne.symm (nN1 hb)),[],.nil,Heap.DictOf.new h⟩
def E7:TE:=λ_ H Q=>∀p,H p=Y->Q (.ref p) (upd H p (.dK []))
section
variable{pos:Pos}
theorem Ar:PE X (.Dict [] [] pos) E7:=λag s σ H Q I h=>
 wpAny_Dict_empty ⟨.ref s.heap.objs.size,_,I.laid (a:=s.heap.objs.size) (o:=.dK []) (t':=s.toks) (λ_ _ q=>hP1 _ q) (nR1 _) (uK s.heap I.big),O,h _ (I.hok.fresh (nR1 _))⟩
end
def rM:List (TE×TE)->St->Hp->(List (V×V)->Hp->Prop)->Prop
 |[],_,H,Q=>Q [] H
 |(tk,tv)::r,σ,H,Q=>tk σ H λx H1=>tv σ H1 λy H2=>rM r σ H2 λps H3=>Q ((x,y)::ps) H3
abbrev VV:List (V×V)->List (dM×dM)->Prop:=Paired λp q=>ew p.1 q.1/\ew p.2 q.2
def Jx(X:Cx)(pos:Pos)(keys:List (Option Expr))(values:List Expr)(trs:List (TE×TE)):Prop:=
 ∀(ag:List (dP×Obj)) (s:dN) (σ:St) (H:Hp) (Q:List (V×V)->Hp->Prop),Inv X ag σ H s->rM trs σ H Q ->
  dX (model X.prog X.w) X.A (evalPairs (pairTrees keys values X.env pos)) (λvs s'=>∃ps H',Inv X ag σ H' s'/\VV ps vs/\Q ps H') X.xe s
theorem CC{X:Cx}{pos:Pos}:Jx X pos [] [] []:=λag s σ H Q I h=>pairTrees_nil_walk ⟨[],H,I,.nil,h⟩
theorem Ai{X:Cx}{pos:Pos}{k v:Expr}{ks:List (Option Expr)}{vs:List Expr}{tk tv:TE}{a:List (TE×TE)}(hk:PE X k tk)(hv:PE X v tv)(hr:Jx X pos ks vs a):
  Jx X pos (Z k::ks) (v::vs) ((tk,tv)::a):=λag s σ H Q I h=>
 pairTrees_cons_walk (fO (hk ag s σ H _ I h) λu g ⟨x,H1,d,o,e⟩=>fO (hv ag g σ H1 _ d e) λq i ⟨y,H2,c,f,n⟩=>
  fO (hr ag i σ H2 _ c n) λws p ⟨ps,j,l,b,m⟩=>⟨(x,y)::ps,j,l,.cons ⟨o,f⟩ b,m⟩)
def jc(kvs more:List (Key×V)):List (Key×V):=more.foldl (λacc kv=>iN acc kv.1 kv.2) kvs
theorem KV.merge:∀{more:List (Key×V)} {rs:List (Key×dM)} {kvs:List (Key×V)} {vs:List (Key×dM)},KV more rs->KV kvs vs->KV (jc kvs more) (merged vs rs):=by
 intro more rs kvs vs r;unfold KV at r
 induction r generalizing kvs vs with
 |nil=>intro q;exact q
 | @cons p q ps b h t ih=>
  intro a;have e:KV (iN kvs p.1 p.2) (stored vs q.1 q.2):=by
   have:=a.put p.1 h.2;rw[<- h.1];exact this
  exact ih e
theorem kg:∀(more kvs:List (Key×V)),(jc kvs more).length<=kvs.length+more.length
 |[],kvs=>by show kvs.length<=kvs.length+0;lia
 |p::r,kvs=>by
  have h1:=kg r (iN kvs p.1 p.2);have h2:=jB kvs p.1 p.2;show(jc (iN kvs p.1 p.2) r).length<=_;rw[lC1];lia
theorem pd{P:dQ}{w:dS}:∀{kvs:List (Key×V)} {ws:List (dM×dM)},VV (kvs.map λd=>(kV d.1,d.2)) ws -> ∃rs,Carries (fu P w) ws rs/\KV kvs rs
 |[],_,r=>by rw[bh]at r;cases r;exact⟨[],True.intro,.nil⟩
 |p::kvs,_,r=>by
  rw[mP1]at r;cases r with
  | @cons a b as bs h t=>
   obtain⟨rs,c,q⟩:=pd (P:=P) (w:=w) t;obtain⟨b1,b2⟩:=b;exact⟨(p.1,b2)::rs,⟨qy h.1,O,c⟩,.cons ⟨O,h.2⟩ q⟩
def HU(trs:List (TE×TE)):TE:=fun σ H Q=>∀p,H p=Y->rM trs σ (upd H p (.dK [])) λps H2=>H2 p=Z (.dK []) /\ ∃kvs:List (Key×V),ps=kvs.map (λkv=>(kV kv.1,kv.2))/\kvs.length<=15/\Q (.ref p) (upd H2 p (.dK (jc [] kvs)))
theorem CJ{X:Cx}{pos:Pos}{keys:List (Option Expr)}{values:List Expr}{b:List (TE×TE)}(h:Jx X pos keys values b)(d:keys.all (·.isSome)=M)(m:keys.length=values.length)(h0:keys≠[])(i:keys.length<=15):PE X (.Dict keys values pos) (HU b):=by
 intro ag s σ H Q I q;have n:=I.hok.fresh (nR1 s.heap.objs.size);have p:=I.laid (a:=s.heap.objs.size) (o:=.dK []) (h':=s.heap.push {cls:=.type "dict",data:=.dict #[]}) (t':=s.toks) (λ_ _ q=>hP1 _ q) (nR1 _) (uK s.heap I.big);refine wpAny_Dict_walk (knd:=fu X.prog X.w) d m h0 i (fO (h ag _ σ _ _ p (q _ n)) λws A ⟨ps,H2,j,g,e,kvs,ep,B,x⟩=>?_);subst ep;obtain⟨rs,c,rk⟩:=pd (P:=X.prog) (w:=X.w) g;obtain⟨z,v,u,r,t⟩:=xE j.hok e;cases r;refine⟨rs,c,t,λh' f k=>⟨.ref s.heap.objs.size,_,?_,O,x⟩⟩;have l:(jc [] kvs).length<=dW:=by
  have h1:=kg kvs [];rw[bn]at h1;rw[sizeLine_eq];lia
 have y:∃q,h'.get? s.heap.objs.size=Z q:=let ⟨q,_,_,hq,_⟩:=f;⟨q,hq⟩
 exact lI j (by rw[e];exact True.intro) k y (By l v (rk.merge .nil) f)
structure M2 (X:Cx)(o:Expr)(m:Str)(apos:Pos)(e f:Expr)(cpos:Pos):Prop where
 base:attributeBase o m X.env (eval o X.env)=eval o X.env
 few:((backTo cpos (dV [e,f] X.env)).all (λx=> !x.1)&&(backToKw cpos (keywordEach [] X.env)).all (λx=>x.1.isSome)
  && decide (([e,f]:List Expr).length+([]:List Keyword).length+(if([]:List Keyword).isEmpty then 0 else 1)<30))=true
 line:(apos.endLine == cpos.line)=true
 trees:backTo cpos (dV [e,f] X.env)=[(false,eval e X.env),(false,eval f X.env)]
section
variable{ag:List (dP×Obj)}{σ:St}{H:Hp}{s:dN}{a:dP}{y d:V}{u r:dM}{o:Option V}{A:dR}{E:dM->dN->Prop}
end
section
variable{o e f:Expr}{apos cpos:Pos}{td ty tx:TE}
end
section
variable{ag:List (dP×Obj)}{σ:St}{H:Hp}{s:dN}{a:dP}{kvs:List (Key×V)}{A:dR}{E:dM->dN->Prop}
end
section
variable{ag:List (dP×Obj)}{σ:St}{H:Hp}{s:dN}{a:dP}{y:V}{u:dM}{A:dR}{E:dM->dN->Prop}
end
end L2
namespace Mi
open PySem PySem.Spec PyProof.Rows L2
inductive TK where
 |non|int (i:Int)|tup (xs:List TK)
instance:DecidableEq TK:=λ_ _=>Classical.propDecidable _
mutual
noncomputable def TK.hash:TK->Int
 | .non=>0xFCA86420
 | .int i=>hashInt i
 | .tup xs=>reduceHash (Builtin.Tuple.tupleHashOf (TK.hashes xs))
noncomputable def TK.hashes:List TK->List Int
 |[]=>[]
 |x::xs=>TK.hash x::TK.hashes xs
end
mutual
noncomputable def TK.draws:TK->Nat
 | .non=>1
 | .int _=>1
 | .tup xs=>TK.drawsAll xs+1
noncomputable def TK.drawsAll:List TK->Nat
 |[]=>0
 |x::xs=>TK.draws x+TK.drawsAll xs
end
mutual
noncomputable def TK.dep:TK->Nat
 | .non=>0
 | .int _=>0
 | .tup xs=>TK.depAll xs+1
noncomputable def TK.depAll:List TK->Nat
 |[]=>0
 |x::xs=>max (TK.dep x) (TK.depAll xs)
end
theorem TK.dep_mem:∀{xs:List TK} {x:TK},x∈xs->x.dep<=TK.depAll xs
 |y::ys,x,h=>by
  rw[TK.depAll];rcases aG.mp h with e|e
  ·rw[e];exact Nat.le_max_left _ _
  ·exact aD (TK.dep_mem e) (Nat.le_max_right _ _)
theorem TK.hashes_app:∀a b:List TK,TK.hashes (a++b)=TK.hashes a++TK.hashes b
 |[],_=>rfl
 |x::xs,b=>by rw[bt,TK.hashes,TK.hashes,TK.hashes_app xs b];rfl
theorem TK.draws_app:∀a b:List TK,TK.drawsAll (a++b)=TK.drawsAll a+TK.drawsAll b
 |[],_=>by simp[TK.drawsAll]
 |x::xs,b=>by rw[bt,TK.drawsAll,TK.drawsAll,TK.draws_app xs b,bu]
def v9(xs:Array Nat):Prop:=xs.toList.Pairwise (· < ·)
noncomputable def Eo(m:Nat):Nat->Nat->Nat->List Nat
 |0,_,_=>[]
 |n+1,i,b=>List.range' i (SetTable.runEnd m i-i+1)++Eo m n (SetTable.leap m i b).1 (SetTable.leap m i b).2
def Lz(m:Nat):Prop:=m=7\/m=31\/m=127
def Kj(m:Nat)(h:Int):List Nat:=Eo m (SetTable.turns m) (SetTable.bits h%(m+1)) (SetTable.bits h)
def Kl(m:Nat)(occ:List Nat)(h:Int)(j:Nat):Prop:=∃pre post,Kj m h=pre++j::post /\ ∀y∈pre,y∈occ
structure Kk (es:Array (Int×dM))(t:SetTable):Prop where
 mks:Lz t.mask
 up:v9 t.place
 du:t.dummies = #[]
 sz:t.place.size=es.size
 le:∀j∈t.place.toList,j<=t.mask
 fl:es.size<=t.mask
 rc:∀z∈t.place.toList.zip es.toList,Kl t.mask t.place.toList z.2.1 z.1
noncomputable def stO(es:Array (Int×dM))(ep:Nat)(t:SetTable):Obj:={cls:=.type "set",dict:=Y,data:=.set es ep t,slots:= #[]}
def Jw(a:dP)(xs:List (TK×dP×dM))(h:dY):Prop:=(xs.map (·.1)).Nodup /\ ∃es ep t,h.get? a=Z (stO es ep t)/\Kk es t/\t.tooFull=J/\(∀e∈es.toList,∃z∈xs,e=(z.1.hash,.ref z.2.1))/\(∀z∈xs,(z.1.hash,Value.ref z.2.1)∈es.toList)/\es.size=xs.length
inductive D where
 |non|bl (b:Bool)|int (i:Int)|str (x:Str)|tup (xs:List D)|rol (xs:List D)|ref (n:Nat)|fn (x:Str)
inductive Ob where
 |lst (xs:List D)|dct (kvs:List (Key×D))|dcT (kvs:List (TK×D))|iset (xs:List Int)|dcF (kvs:List (TK×D))|tst (ks:List TK)
abbrev Sto:=List Ob
abbrev Ev:=List (Option D)
abbrev FE:=Ev->Sto->Option (D×Sto)
abbrev FT:=Ev->Sto->Option (Bool×Sto)
abbrev FA:=Ev->Sto->Option (List D×Sto)
abbrev FN:=List D->Sto->Option (D×Sto)
inductive Fl where
 |nx|rt (d:D)|bk|ct
abbrev FS:=Ev->Sto->Option (Fl×Ev×Sto)
def RoL(K:Fg1)(H:Hp)(a:dP)(xs:List V):Prop:=(∃o,H a=Z (.frz o (.lst xs))) \/
 ∃(o:Obj) (its:Array dM) (n:Nat),K.lookup a=Z o/\o.cls = .type "list"/\o.dict=Y/\o.data = .seq its n/\its.size<=dW/\eI xs its.toList
theorem RoL.sq{K:Fg1}{H:Hp}{a:dP}{xs:List V}(h:RoL K H a xs):nL K H a xs:=h.elim (λ⟨o,q⟩=>.inl (.inr ⟨o,q⟩)) .inr
mutual
inductive eX (K:Fg1)(H:Hp)(mu:List dP):D->V->Prop
 |non:eX K H mu .non .non
 |bl (b:Bool):eX K H mu (.bl b) (.bl b)
 |int (i:Int):eX K H mu (.int i) (.int i)
 |str (x:Str):eX K H mu (.str x) (.str x)
 |tup {ds:List D} {vs:List V} {a:dP} (h:lY K H a vs) (r:eh K H mu ds vs):eX K H mu (.tup ds) (.ref a)
 |rol {ds:List D} {vs:List V} {a:dP} (h:RoL K H a vs) (r:eh K H mu ds vs):eX K H mu (.rol ds) (.ref a)
 |ref {n:Nat} {a:dP} (h:mu[n]?=some a):eX K H mu (.ref n) (.ref a)
 |fn {x:Str} {a:dP} (h:wN1 K dU x=some (some (.ref a))):eX K H mu (.fn x) (.ref a)
inductive eh (K:Fg1)(H:Hp)(mu:List dP):List D->List V->Prop
 |nil:eh K H mu [] []
 |cons {d:D} {v:V} {ds:List D} {vs:List V} (r:eX K H mu d v) (t:eh K H mu ds vs):eh K H mu (d::ds) (v::vs)
end
structure Ext (mu mu':List dP)(H H':Hp):Prop where
 pre:mu <+: mu'
 old:∀a o,H a=some o->a∉mu->H' a=some o
 tup:∀a xs,Rd H a (.tup xs)->Rd H' a (.tup xs)
 frz:∀a o u,H a=some (.frz o u)->H' a=some (.frz o u)
 new:∀a∈mu',a∈mu\/H a=none
theorem Ext.refl(mu:List dP)(H:Hp):Ext mu mu H H:=⟨bv,λ_ _ h _=>h,λ_ _ h=>h,λ_ _ _ h=>h,λ_ h=>.inl h⟩
theorem Ext.trans{mu m1 m2:List dP}{H H1 H2:Hp}(a:Ext mu m1 H H1)(b:Ext m1 m2 H1 H2):Ext mu m2 H H2 where
 pre:=a.pre.trans b.pre
 old:=λc o h n=>b.old c o (a.old c o h n) λz=>by
  rcases a.new c z with q|q
  ·exact n q
  ·rw[h]at q;cases q
 tup:=λc xs h=>b.tup c xs (a.tup c xs h)
 frz:=λc o u h=>b.frz c o u (a.frz c o u h)
 new:=λc h=>by
  rcases b.new c h with q|q
  ·exact a.new c q
  ·by_cases z:c∈mu
   ·exact .inl z
   ·right;cases e:H c with
    |none=>rfl
    |some o=>rw[a.old c o e z]at q;cases q
theorem Ext.at{mu mu':List dP}{H H':Hp}(e:Ext mu mu' H H'){n:Nat}{a:dP}(h:mu[n]?=Z a):mu'[n]?=Z a:=by
 obtain⟨t,rfl⟩:=e.pre;have b:n<mu.length:=(gE1.mp h).1;rw[gL1 b];exact h
theorem Ext.back{mu mu':List dP}{H H':Hp}(e:Ext mu mu' H H'):Ext mu mu H H':=⟨bv,e.old,e.tup,e.frz,λ_ h=>.inl h⟩
structure tf (mu mu':List dP)(H H':Hp):Prop where
 pre:mu <+: mu'
 tup:∀a xs,Rd H a (.tup xs)->Rd H' a (.tup xs)
 frz:∀a o u,H a=some (.frz o u)->H' a=some (.frz o u)
theorem Ext.w{mu mu':List dP}{H H':Hp}(e:Ext mu mu' H H'):tf mu mu' H H':=⟨e.pre,e.tup,e.frz⟩
theorem tf.trans{mu m1 m2:List dP}{H H1 H2:Hp}(a:tf mu m1 H H1)(b:tf m1 m2 H1 H2):tf mu m2 H H2:=⟨a.pre.trans b.pre,λc xs h=>b.tup c xs (a.tup c xs h),λc o u h=>b.frz c o u (a.frz c o u h)⟩
theorem tf.at{mu mu':List dP}{H H':Hp}(e:tf mu mu' H H'){n:Nat}{a:dP}(h:mu[n]?=Z a):mu'[n]?=Z a:=by
 obtain⟨t,rfl⟩:=e.pre;have b:n<mu.length:=(gE1.mp h).1;rw[gL1 b];exact h
structure zu (mu mu':List dP)(H H':Hp):Prop where
 pre:mu <+: mu'
 tup:∀a xs,Rd H a (.tup xs)->Rd H' a (.tup xs)
 frl:∀a o xs,H a=some (.frz o (.lst xs))->H' a=some (.frz o (.lst xs))
theorem tf.v{mu mu':List dP}{H H':Hp}(e:tf mu mu' H H'):zu mu mu' H H':=⟨e.pre,e.tup,λa o xs h=>e.frz a o _ h⟩
theorem Ext.v{mu mu':List dP}{H H':Hp}(e:Ext mu mu' H H'):zu mu mu' H H':=e.w.v
theorem zu.at{mu mu':List dP}{H H':Hp}(e:zu mu mu' H H'){n:Nat}{a:dP}(h:mu[n]?=Z a):mu'[n]?=Z a:=by
 obtain⟨t,rfl⟩:=e.pre;have b:n<mu.length:=(gE1.mp h).1;rw[gL1 b];exact h
theorem lY.exv{K:Fg1}{mu mu':List dP}{H H':Hp}{a:dP}{vs:List V}(e:zu mu mu' H H')(h:lY K H a vs):lY K H' a vs:=by
 rcases h with h|h
 ·exact .inl (e.tup a vs h)
 ·exact .inr h
theorem RoL.exv{K:Fg1}{mu mu':List dP}{H H':Hp}{a:dP}{vs:List V}(e:zu mu mu' H H')(h:RoL K H a vs):RoL K H' a vs:=by
 rcases h with⟨o,h⟩|h
 ·exact .inl ⟨o,e.frl a o _ h⟩
 ·exact .inr h
theorem eX.exv{K:Fg1}{mu mu':List dP}{H H':Hp}(e:zu mu mu' H H'):∀ {d:D} {v:V},eX K H mu d v->eX K H' mu' d v:=fun h=>h.rec (motive_1:=fun d v _=>eX K H' mu' d v) (motive_2:=fun ds vs _=>eh K H' mu' ds vs)
  .non .bl .int .str (λh _ ih=>.tup (lY.exv e h) ih) (λh _ ih=>.rol (RoL.exv e h) ih) (λh=>.ref (e.at h)) (λh=>.fn h) .nil (λ_ _ a b=>.cons a b)
theorem eh.ind{K:Fg1}{mu:List dP}{H:Hp}{P:(ds:List D)->(vs:List V)->eh K H mu ds vs->Prop}(hn:P [] [] .nil)(hc:∀{d v ds vs} (r:eX K H mu d v) (t:eh K H mu ds vs),P ds vs t->P (d::ds) (v::vs) (.cons r t)){ds:List D}{vs:List V}(h:eh K H mu ds vs):P ds vs h:=
 h.rec (motive_1:=λ_ _ _=>True) (motive_2:=P) trivial (λ_=>trivial) (λ_=>trivial) (λ_=>trivial) (λ_ _ _=>trivial) (λ_ _ _=>trivial) (λ_=>trivial) (λ_=>trivial) hn (λr t _ ih=>hc r t ih)
theorem eh.exv{K:Fg1}{mu mu':List dP}{H H':Hp}(e:zu mu mu' H H'):∀{ds:List D} {vs:List V},eh K H mu ds vs->eh K H' mu' ds vs:=λh=>h.ind (P:=λds vs _=>eh K H' mu' ds vs) .nil λr _ ih=>.cons (eX.exv e r) ih
section
variable{K:Fg1}{mu mu':List dP}{H H':Hp}{a:dP}{vs:List V}
theorem eX.exw(e:tf mu mu' H H'){d:D}{v:V}(h:eX K H mu d v):eX K H' mu' d v:=h.exv e.v
theorem eh.exw(e:tf mu mu' H H'){ds:List D}(h:eh K H mu ds vs):eh K H' mu' ds vs:=h.exv e.v
theorem eX.ext(e:Ext mu mu' H H'){d:D}{v:V}(h:eX K H mu d v):eX K H' mu' d v:=h.exv e.v
theorem eh.ext(e:Ext mu mu' H H'){ds:List D}(h:eh K H mu ds vs):eh K H' mu' ds vs:=h.exv e.v
end
section
variable{K:Fg1}{H:Hp}{mu:List dP}
theorem eh.length:∀{ds:List D} {vs:List V},eh K H mu ds vs->ds.length=vs.length:=λh=>h.ind (P:=λds vs _=>ds.length=vs.length) O λ_ _ ih=>congrArg (· + 1) ih
theorem eh.get:∀{ds:List D} {vs:List V} {i:Nat} {d:D},eh K H mu ds vs->ds[i]?=Z d -> ∃v,vs[i]?=Z v/\eX K H mu d v:=by
 intro ds vs i d h e
 induction h using eh.ind generalizing i with
 |hn=>cases e
 |hc r t ih=>cases i with
  |zero=>cases e;exact⟨_,O,r⟩
  |succ i=>exact ih (i:=i) e
theorem eh.getV:∀{ds:List D} {vs:List V} {i:Nat} {v:V},eh K H mu ds vs->vs[i]?=Z v -> ∃d,ds[i]?=Z d/\eX K H mu d v:=by
 intro ds vs i d h e
 induction h using eh.ind generalizing i with
 |hn=>cases e
 |hc r t ih=>cases i with
  |zero=>cases e;exact⟨_,O,r⟩
  |succ i=>exact ih (i:=i) e
theorem eh.append:∀{ds es:List D} {vs ws:List V},eh K H mu ds vs->eh K H mu es ws->eh K H mu (ds++es) (vs++ws):=λh s=>h.ind (P:=λds vs _=>eh K H mu (ds++_) (vs++_)) s λr _ ih=>.cons r ih
theorem eh.take:∀{ds:List D} {vs:List V} (n:Nat),eh K H mu ds vs->eh K H mu (ds.take n) (vs.take n):=by
 intro ds vs n h
 induction h using eh.ind generalizing n with
 |hn=>rw[aw,aw];exact .nil
 |hc r t ih=>cases n with
  |zero=>exact .nil
  |succ n=>exact .cons r (ih n)
theorem eh.drop:∀{ds:List D} {vs:List V} (n:Nat),eh K H mu ds vs->eh K H mu (ds.drop n) (vs.drop n):=by
 intro ds vs n h
 induction h using eh.ind generalizing n with
 |hn=>rw[ay,ay];exact .nil
 |hc r t ih=>cases n with
  |zero=>exact .cons r t
  |succ n=>exact ih n
theorem eh.set{d:D}{v:V}(r:eX K H mu d v):∀{ds:List D} {vs:List V} (i:Nat),eh K H mu ds vs->eh K H mu (ds.set i d) (vs.set i v):=by
 intro ds vs i h
 induction h using eh.ind generalizing i with
 |hn=>exact .nil
 |hc q t ih=>cases i with
  |zero=>exact .cons r t
  |succ i=>exact .cons q (ih i)
theorem eh.eraseIdx:∀{ds:List D} {vs:List V} (i:Nat),eh K H mu ds vs->eh K H mu (ds.eraseIdx i) (vs.eraseIdx i):=by
 intro ds vs i h
 induction h using eh.ind generalizing i with
 |hn=>exact .nil
 |hc q t ih=>cases i with
  |zero=>exact t
  |succ i=>exact .cons q (ih i)
end
def KR{κ:Type}(K:Fg1)(H:Hp)(mu:List dP):List (κ×D)->List (κ×V)->Prop:=Paired λp q=>p.1=q.1/\eX K H mu p.2 q.2
mutual
noncomputable def tkD:TK->D
 | .non=>.non
 | .int i=>.int i
 | .tup xs=>.tup (iE xs)
noncomputable def iE:List TK->List D
 |[]=>[]
 |x::xs=>tkD x::iE xs
end
def gG(a:dP)(xs:List (TK×dP×dM))(h:dY):Prop:=(a == sysModules)=J/\(xs.map (·.1)).Nodup /\ ∃o es ep,h.get? a=Z o/\o.ExactDict/\o.data = .dict es ep/\es.toList=xs.map λx=>(⟨x.1.hash,.ref x.2.1,x.2.2⟩:DictEntry)
def xW(a:dP)(xs:List (TK×dP×dM))(o:Obj):Prop:=(a == sysModules)=J/\(xs.map (·.1)).Nodup/\o.ExactDict /\ ∃es ep,o.data = .dict es ep/\es.toList=xs.map λx=>(⟨x.1.hash,.ref x.2.1,x.2.2⟩:DictEntry)
def KT(K:Fg1)(H:Hp)(mu:List dP):List (TK×D)->List (TK×dP×dM)->Prop:=Paired λp q=>p.1=q.1/\p.1.dep<=8/\eX K H mu (tkD p.1) (.ref q.2.1) /\ ∃v,ew v q.2.2/\eX K H mu p.2 v
def kC(K:Fg1)(H:Hp)(mu:List dP)(a:dP):Ob->Prop
 | .lst ds=>∃vs,H a=Z (.lst vs)/\eh K H mu ds vs
 | .dct kvs=>∃ws,H a=Z (.dK ws)/\KR K H mu kvs ws
 | .dcT kvs=>∃xs,H a=Z (.ext (gG a xs))/\KT K H mu kvs xs/\xs.length<=dW
 | .iset xs=>H a=Z (.set (λk=>xs.contains k) xs.length)/\xs.Nodup
 | .dcF kvs=>∃xs,(∃o u,H a=Z (.frz o u)/\xW a xs o)/\KT K H mu kvs xs/\xs.length<=dW
 | .tst ks=>∃xs,H a=Z (.ext (Jw a xs))/\KT K H mu (ks.map λk=>(k,D.non)) xs
structure Sim (K:Fg1)(H:Hp)(mu:List dP)(S:Sto):Prop where
 len:mu.length=S.length
 nd:mu.Nodup
 ob:∀(n:Nat) (o:Ob) (a:dP),S[n]?=some o->mu[n]?=some a->kC K H mu a o
structure fW (K:Fg1)(H:Hp)(mu:List dP)(r:Ev)(σ:L2.St):Prop where
 len:r.length=σ.length
 val:∀(i:Nat) (d:D),r[i]?=some (some d) -> ∃v,σ[i]?=some (some v)/\eX K H mu d v
theorem fW.ext{K:Fg1}{mu mu':List dP}{H H':Hp}{r:Ev}{σ:L2.St}(e:Ext mu mu' H H')(h:fW K H mu r σ):fW K H' mu' r σ:=⟨h.len,λi d q=>by
 obtain⟨v,b,a⟩:=h.val i d q;exact⟨v,b,a.ext e⟩⟩
theorem KR.ext{κ:Type}{K:Fg1}{mu mu':List dP}{H H':Hp}{ks:List (κ×D)}{ws:List (κ×V)}(e:Ext mu mu' H H')(h:KR K H mu ks ws):KR K H' mu' ks ws:=
 Paired.mapP h λ_ _ z=>⟨z.1,z.2.ext e⟩
theorem KT.ext{K:Fg1}{mu mu':List dP}{H H':Hp}{ks:List (TK×D)}{ws:List (TK×dP×dM)}(e:Ext mu mu' H H')(h:KT K H mu ks ws):KT K H' mu' ks ws:=
 Paired.mapP h λ_ _ ⟨z,d,k,v,a,r⟩=>⟨z,d,k.ext e,v,a,r.ext e⟩
theorem Sim.nil{K:Fg1}{H:Hp}:Sim K H [] []:=⟨O,bw,λn o a h=>by simp at h⟩
theorem Sim.here{K:Fg1}{H:Hp}{mu:List dP}{S:Sto}(s:Sim K H mu S){a:dP}(h:a∈mu):∃o,H a=Z o:=by
 obtain⟨n,b⟩:=bA h;have c:n<S.length:=by rw[<- s.len];exact(gE1.mp b).1
 have q:=s.ob n _ a (gG1 c) b;cases e:S[n]with
 |lst ds=>rw[e]at q;obtain⟨vs,z,_⟩:=q;exact⟨_,z⟩
 |dct ks=>rw[e]at q;obtain⟨vs,z,_⟩:=q;exact⟨_,z⟩
 |dcT ks=>rw[e]at q;obtain⟨vs,z,_⟩:=q;exact⟨_,z⟩
 |iset xs=>rw[e]at q;exact⟨_,q.1⟩
 |dcF ks=>rw[e]at q;obtain⟨vs,⟨_,_,z,_⟩,_⟩:=q;exact⟨_,z⟩
 |tst ks=>rw[e]at q;obtain⟨vs,z,_⟩:=q;exact⟨_,z⟩
def pY(K:Fg1)(mu:List dP)(H:Hp)(d:D)(S':Sto)(Q:VK):Prop:=∀v H' mu',Ext mu mu' H H'->eX K H' mu' d v->Sim K H' mu' S'->Q v H'
inductive tM (K:Fg1)(m:FE)(σ:L2.St)(H:Hp)(Q:VK):Prop
 |mk (r:Ev) (mu:List dP) (S:Sto) (d:D) (S':Sto) (he:fW K H mu r σ) (hs:Sim K H mu S) (hm:m r S=some (d,S')) (hc:pY K mu H d S' Q)
inductive zS (K:Fg1)(m:FT)(σ:L2.St)(H:Hp)(Q:Bool->Hp->Prop):Prop
 |mk (r:Ev) (mu:List dP) (S:Sto) (b:Bool) (S':Sto) (he:fW K H mu r σ) (hs:Sim K H mu S) (hm:m r S=some (b,S')) (hc:∀H' mu',Ext mu mu' H H'->Sim K H' mu' S'->Q b H')
inductive K2 (K:Fg1)(m:FA)(σ:L2.St)(H:Hp)(Q:List V->Hp->Prop):Prop
 |mk (r:Ev) (mu:List dP) (S:Sto) (ds:List D) (S':Sto) (he:fW K H mu r σ) (hs:Sim K H mu S) (hm:m r S=some (ds,S')) (hc:∀vs H' mu',Ext mu mu' H H'->eh K H' mu' ds vs->Sim K H' mu' S'->Q vs H')
def Ka(K:Fg1)(mu:List dP)(H:Hp)(r':Ev)(S':Sto)(E:jP)(f:Fl):Prop:=match f with
 | .nx=>∀ σ' H' mu',Ext mu mu' H H'->fW K H' mu' r' σ'->Sim K H' mu' S'->E.nx σ' H'
 | .bk=>∀ σ' H' mu',Ext mu mu' H H'->fW K H' mu' r' σ'->Sim K H' mu' S'->E.bk σ' H'
 | .ct=>∀ σ' H' mu',Ext mu mu' H H'->fW K H' mu' r' σ'->Sim K H' mu' S'->E.ct σ' H'
 | .rt d=>pY K mu H d S' E.rt
inductive wx (K:Fg1)(m:FS)(E:jP)(σ:L2.St)(H:Hp):Prop
 |mk (r:Ev) (mu:List dP) (S:Sto) (f:Fl) (r':Ev) (S':Sto) (he:fW K H mu r σ) (hs:Sim K H mu S) (hm:m r S=some (f,r',S')) (hc:Ka K mu H r' S' E f)
inductive rN (K:Fg1)(f:FN)(vs:List V)(H:Hp)(Q:VK):Prop
 |mk (mu:List dP) (S:Sto) (ds:List D) (d:D) (S':Sto) (hr:eh K H mu ds vs) (hs:Sim K H mu S) (hm:f ds S=some (d,S')) (hc:pY K mu H d S' Q)
abbrev ME(X:Cx)(e:Expr)(m:FE):Prop:=PE X e (tM X.K m)
abbrev MT(X:Cx)(e:Expr)(m:FT):Prop:=PT X e (zS X.K m)
abbrev MW(X:Cx)(e:Expr)(m:FT):Prop:=PW X e (zS X.K m)
abbrev MA(X:Cx)(es:List Expr)(m:FA):Prop:=PA X es (K2 X.K m)
abbrev MS(X:Cx)(st:d0)(m:FS):Prop:=PS X st (wx X.K m)
abbrev zj(X:Cx)(st:List d0)(m:FS):Prop:=u7 X st (wx X.K m)
variable{X:Cx}
section
variable{e:Expr}{es:List Expr}{st:d0}{sts:List d0}
theorem fE{t t':TE}(h:PE X e t)(i:∀ σ H Q,t' σ H Q->t σ H Q):PE X e t':=λag s σ H Q I q=>h ag s σ H Q I (i σ H Q q)
theorem vq{t t':TT}(h:PT X e t)(i:∀ σ H Q,t' σ H Q->t σ H Q):PT X e t':=λag s σ H Q I q=>h ag s σ H Q I (i σ H Q q)
theorem Ac{t t':TT}(h:PW X e t)(i:∀ σ H Q,t' σ H Q->t σ H Q):PW X e t':=λa ag s σ H Q I q=>h a ag s σ H Q I (i σ H Q q)
theorem At{t t':TA}(h:PA X es t)(i:∀ σ H Q,t' σ H Q->t σ H Q):PA X es t':=λpos ag s σ H Q I q=>h pos ag s σ H Q I (i σ H Q q)
theorem iF{t t':TS}(h:PS X st t)(i:∀E σ H,t' E σ H->t E σ H):PS X st t':=λag s σ H E I q=>h ag s σ H E I (i E σ H q)
theorem r6{t t':TS}(h:u7 X sts t)(i:∀E σ H,t' E σ H->t E σ H):u7 X sts t':=λag s σ H E I q=>h ag s σ H E I (i E σ H q)
end
noncomputable def mV (i:Nat):FE:=λr S=>match r[i]? with
 |some (some d)=>some (d,S)
 |_=>none
noncomputable def mC (d:D):FE:=λ_ S=>some (d,S)
section
variable{pos:Pos}
theorem Gu (i:Nat){x:Str}(hN:X.N[i]?=Z x)(hv:Vis X.env.scope x)(hd:autoParam ((x == ("__debug__":Str))=J) bu0)(hcd:autoParam ((x == ("__classdict__":Str))=J) bu0):ME X (.Name x pos) (mV i):=
 fE (Ap hN hv hd hcd) <| by
  rintro σ H Q ⟨r,mu,S,d,j,g,f,a,hc⟩;unfold mV at a;split at a
  ·rename_i h e;cases a;obtain⟨v,c,b⟩:=g.val i _ e;exact⟨v,c,hc v H mu (.refl _ _) b f⟩
  ·cases a
theorem AQ{e:Expr}{v:V}(d:D)(h:PE X e (tC v))(hr:∀H mu,eX X.K H mu d v):ME X e (mC d):=
 fE h <| by
  rintro σ H Q ⟨r,mu,S,c,f,g,a,b,hc⟩;cases b;exact hc v H mu (.refl _ _) (hr H mu) a
theorem GA{i:Int}{j}:ME X (.Constant (.int i) j pos) (mC (.int i)):=AQ _ FU λ_ _=>.int i
theorem IF{b:Bool}{j}:ME X (.Constant (.bool b) j pos) (mC (.bl b)):=AQ _ Im λ_ _=>.bl b
theorem Gy{j}:ME X (.Constant .none j pos) (mC .non):=AQ _ FQ λ_ _=>.non
theorem Gw{x:Str}{j}:ME X (.Constant (.str x) j pos) (mC (.str x)):=AQ _ FP λ_ _=>.str x
end
noncomputable def d5:FA:=λ_ S=>Z ([],S)
noncomputable def d4 (m:FE)(n:FA):FA:=λr S=>(m r S).bind λp=>(n r p.2).bind λq=>some (p.1::q.1,q.2)
section
variable{pos:Pos}{e:Expr}{es:List Expr}{m:FE}{n:FA}
theorem GC:MA X [] d5:=At oy <| by
 rintro σ H Q ⟨r,mu,S,ds,d,c,b,a,hc⟩;cases a;exact hc [] H mu (.refl _ _) .nil b
theorem Dd(h:ME X e m)(ht:MA X es n)(hs:autoParam (dV (e::es) X.env=(J,eval e X.env)::dV es X.env) au0):MA X (e::es) (d4 m n):=
 At (jU h ht hs) <| by
  rintro σ H Q ⟨r,mu,S,ds,s,g,hs,a,hc⟩;unfold d4 at a;obtain⟨⟨d,f⟩,o,a⟩:=oB1.mp a;obtain⟨⟨c,t⟩,q,a⟩:=oB1.mp a;cases a;refine⟨r,mu,S,d,f,g,hs,o,λv H1 mu1 j k l=>?_⟩;refine⟨r,mu1,f,c,_,g.ext j,l,q,λvs H2 b i r2 p=>?_⟩;exact hc _ H2 b (j.trans i) (.cons (k.ext i) r2) p
end
noncomputable def m2 (f:FN)(a b:FE):FE:=λr S=>(a r S).bind λp=>(b r p.2).bind λq=>f [p.1,q.1] q.2
noncomputable def m1 (f:FN)(a:FE):FE:=λr S=>(a r S).bind λp=>f [p.1] p.2
noncomputable def mN (f:FN)(a:FA):FE:=λr S=>(a r S).bind λp=>f p.1 p.2
abbrev r2(K:Fg1)(f:FN):R2:=λx y H Q=>rN K f [x,y] H Q
section
variable{K:Fg1}{f:FN}{a b:FE}{σ:L2.St}{H:Hp}{Q:VK}
theorem wZ(h:tM K (m2 f a b) σ H Q):HN (r2 K f) (tM K a) (tM K b) σ H Q:=by
 obtain⟨r,mu,S,d,t,m,q,c,hc⟩:=h;obtain⟨⟨o,i⟩,C,c⟩:=oB1.mp c;obtain⟨⟨l,n⟩,x,c⟩:=oB1.mp c;refine⟨r,mu,S,o,i,m,q,C,λv H1 mu1 k z B=>?_⟩;refine⟨r,mu1,i,l,n,m.ext k,B,x,λu H2 e j r2 y=>?_⟩;exact⟨e,n,[o,l],d,t,.cons (z.ext j) (.cons r2 .nil),y,c,λv s g w A p=>hc v s g ((k.trans j).trans w) A p⟩
theorem IJ(h:tM K (m1 f a) σ H Q):K1 (λx H Q=>rN K f [x] H Q) (tM K a) σ H Q:=by
 obtain⟨r,mu,S,d,o,q,m,b,hc⟩:=h;obtain⟨⟨g,e⟩,l,b⟩:=oB1.mp b;refine⟨r,mu,S,g,e,q,m,l,λv H1 mu1 s i j=>?_⟩;exact⟨mu1,e,[g],d,o,.cons i .nil,j,b,λv n c p t k=>hc v n c (s.trans p) t k⟩
theorem AT{a:FA}(h:tM K (mN f a) σ H Q):K2 K a σ H λvs H1=>rN K f vs H1 Q:=by
 obtain⟨r,mu,S,d,o,q,m,b,hc⟩:=h;obtain⟨⟨g,e⟩,l,b⟩:=oB1.mp b;refine⟨r,mu,S,g,e,q,m,l,λv H1 mu1 s i j=>?_⟩;exact⟨mu1,e,g,d,o,i,j,b,λv n c p t k=>hc v n c (s.trans p) t k⟩
theorem IC{op:Operator}{x y:Expr}{pos:Pos}(ho:gF X (binaryOp op) (r2 X.K f))(hx:ME X x a)(hy:ME X y b):ME X (.BinOp x op y pos) (m2 f a b):=fE (Ij ho hx hy) λ_ _ _=>wZ
theorem IB{op:UnaryOp}{x:Expr}{pos:Pos}(ho:HA X (unaryOp op) (λx H Q=>rN X.K f [x] H Q))(hx:ME X x a):ME X (.UnaryOp op x pos) (m1 f a):=fE (Ii ho hx) λ_ _ _=>IJ
theorem GB{op:CmpOp}{x y:Expr}{pos:Pos}(ho:gF X (compareOp op) (r2 X.K f))(hx:ME X x a)(hy:ME X y b)(hm:behindInMarks op y=J):ME X (.Compare x [op] [y] pos) (m2 f a b):=fE (CK ho hx hy hm) λ_ _ _=>wZ
theorem ID{x y:Expr}{pos:Pos}(ho:EL X (r2 X.K f))(hx:ME X x a)(hy:ME X y b)(hs:nM y):ME X (.Subscript x y pos) (m2 f a b):=fE (Ik ho hx hy hs) λ_ _ _=>wZ
theorem AO {x:Str}{p pos:Pos}{e:Expr}{es:List Expr}{id:String}{a:FA}(hc:fH X (.builtin id) (rN X.K f))(hg:Gl X x)(hm:X.mg x=none)(hv:bootBuiltins x=some (.builtin id))(ha:MA X (e::es) a)(hn:autoParam (x≠"__name__") bu0)(hdb:autoParam ((x == ("__debug__":Str))=false) bu0)
  (he:autoParam (dV (e::es) X.env=(J,eval e X.env)::dV es X.env) au0) (hpl:autoParam ((backTo pos (dV es X.env)).any (·.1)=J) au0):ME X (.Call (.Name x p) (e::es) [] pos) (mN f a):=
 fE (ow hc hg hm hv ha hn hdb he hpl) λ_ _ _=>AT
theorem yA {x:Str}{p pos:Pos}{e:Expr}{es:List Expr}{T:String}{a:FA}(hc:fH X (.type T) (rN X.K f))(hg:Gl X x)(hm:X.mg x=none)(hv:bootBuiltins x=some (.type T))(ha:MA X (e::es) a)(hn:autoParam (x≠"__name__") bu0)(hdb:autoParam ((x == ("__debug__":Str))=false) bu0)
  (he:autoParam (dV (e::es) X.env=(J,eval e X.env)::dV es X.env) au0) (hpl:autoParam ((backTo pos (dV es X.env)).any (·.1)=J) au0):ME X (.Call (.Name x p) (e::es) [] pos) (mN f a):=
 fE (me hc hg hm hv ha hn hdb he hpl) λ_ _ _=>AT
end
noncomputable def mB (m:FE):FT:=λr S=>(m r S).bind λp=>match p.1 with
 | .bl b=>some (b,p.2)
 |_=>none
theorem II{K:Fg1}{m:FE}{σ:L2.St}{H:Hp}{Q:Bool->Hp->Prop}(h:zS K (mB m) σ H Q):tB (tM K m) σ H Q:=by
 obtain⟨r,mu,S,b,l,g,f,a,hc⟩:=h;obtain⟨⟨i,n⟩,e,a⟩:=oB1.mp a;cases i with
 |bl k=>
  cases a;refine⟨r,mu,S,_,_,g,f,e,λv H1 mu1 j c d=>?_⟩;cases c;exact⟨_,O,hc H1 mu1 j d⟩
 |_=>cases a
noncomputable def vI(a b:FT):FT:=λr S=>(a r S).bind λp=>if p.1=M then b r p.2 else Z (J,p.2)
noncomputable def Hw(a b:FT):FT:=λr S=>(a r S).bind λp=>if p.1=M then Z (M,p.2)else b r p.2
noncomputable def AS(a:FT):FT:=λr S=>(a r S).bind λp=>Z (!p.1,p.2)
noncomputable def La(a b:FE):FE:=λr S=>(a r S).bind λp=>match p.1 with
 | .bl c=>if c=M then b r p.2 else Z (.bl J,p.2)
 |_=>Y
noncomputable def LV(a b:FE):FE:=λr S=>(a r S).bind λp=>match p.1 with
 | .bl c=>if c=M then Z (.bl M,p.2)else b r p.2
 |_=>Y
noncomputable def K7(a:FE):FE:=λr S=>(a r S).bind λp=>match p.1 with
 | .bl c=>Z (.bl (!c),p.2)
 |_=>Y
noncomputable def vH(c:FT)(a b:FE):FE:=λr S=>(c r S).bind λp=>if p.1=M then a r p.2 else b r p.2
section
variable{x y c:Expr}{rest:List Expr}{pos:Pos}{a b:FT}{f g:FE}
theorem Gf{op:CmpOp}{f:FN}{a b:FE}(ho:gF X (compareOp op) (r2 X.K f))(hx:ME X x a)(hy:ME X y b)(hm:behindInMarks op y=J):MT X (.Compare x [op] [y] pos) (mB (m2 f a b)):=
 vq (Cv ho hx hy hm) fun σ H Q h=>by
  obtain⟨r,mu,S,d,i,j,g,hm,hc⟩:=II h;exact wZ ⟨r,mu,S,d,i,j,g,hm,λv H' mu' k c e=>hc v H' mu' k c e⟩
theorem CY(ha:MT X x a):MW X (.BoolOp .And [x] pos) a:=Ct ha
theorem Gc(ha:MT X x a):MW X (.BoolOp .Or [x] pos) a:=Fp ha
theorem Gd(ha:MT X x a)(hb:MW X (.BoolOp .And (y::rest) pos) b):MW X (.BoolOp .And (x::y::rest) pos) (vI a b):=
 Ac (Fq ha hb) <| by
  rintro σ H Q ⟨r,mu,S,k,m,h,j,c,hc⟩;obtain⟨⟨b1,g⟩,i,c⟩:=oB1.mp c;refine⟨r,mu,S,b1,g,h,j,i,λH1 mu1 e f=>?_⟩;cases b1 with
  |true=>exact⟨r,mu1,g,k,m,h.ext e,f,c,λH2 d n l=>hc H2 d (e.trans n) l⟩
  |false=>cases c;exact hc H1 mu1 e f
theorem Iz(ha:MT X x a)(hb:MW X (.BoolOp .Or (y::rest) pos) b):MW X (.BoolOp .Or (x::y::rest) pos) (Hw a b):=
 Ac (Ie ha hb) <| by
  rintro σ H Q ⟨r,mu,S,k,m,h,j,c,hc⟩;obtain⟨⟨b1,g⟩,i,c⟩:=oB1.mp c;refine⟨r,mu,S,b1,g,h,j,i,λH1 mu1 e f=>?_⟩;cases b1 with
  |false=>exact⟨r,mu1,g,k,m,h.ext e,f,c,λH2 d n l=>hc H2 d (e.trans n) l⟩
  |true=>cases c;exact hc H1 mu1 e f
theorem Kt(h:MW X x a):MT X x a:=PW.pt h
theorem Ge(ha:MT X x a):MT X (.UnaryOp .Not x pos) (AS a):=
 vq (Ft ha) <| by
  rintro σ H Q ⟨r,mu,S,k,i,g,e,b,hc⟩;obtain⟨⟨b1,f⟩,d,b⟩:=oB1.mp b;cases b;exact⟨r,mu,S,b1,f,g,e,d,λH1 mu1 h c=>hc H1 mu1 h c⟩
theorem IE(hc:MT X c a)(hx:ME X x f)(hy:ME X y g):ME X (.IfExp c x y pos) (vH a f g):=
 fE (Aq hc hx hy) <| by
  rintro σ H Q ⟨r,mu,S,k,o,l,q,d,hc⟩;obtain⟨⟨b1,i⟩,p,d⟩:=oB1.mp d;refine⟨r,mu,S,b1,i,l,q,p,λH1 mu1 e n=>?_⟩;cases b1 with
  |true=>exact⟨r,mu1,i,k,o,l.ext e,n,d,λj H2 b m r2 h=>hc j H2 b (e.trans m) r2 h⟩
  |false=>exact⟨r,mu1,i,k,o,l.ext e,n,d,λj H2 b m r2 h=>hc j H2 b (e.trans m) r2 h⟩
end
section
variable{x y z:Expr}{pos:Pos}{f g:FN}{a b c:FE}{op op':CmpOp}
end
mutual
noncomputable def D.und(n:Nat):D->Bool
 | .tup xs=>D.unds n xs
 | .rol xs=>D.unds n xs
 | .ref k=>decide (k<n)
 | .non=>M
 | .bl _=>M
 | .int _=>M
 | .str _=>M
 | .fn _=>M
noncomputable def D.unds(n:Nat):List D->Bool
 |[]=>M
 |d::ds=>D.und n d&&D.unds n ds
end
noncomputable def D.sames(a b:List D):Bool:=@decide (a=b) (Classical.propDecidable _)
theorem D.sames_eq{a b:List D}(h:D.sames a b=M):a=b:=@of_decide_eq_true _ (Classical.propDecidable _) h
theorem D.sames_refl(a:List D):D.sames a a=M:=@decide_eq_true _ (Classical.propDecidable _) O
section
variable{K:Fg1}{H:Hp}{mu mu':List dP}
theorem eX.cut{n:Nat}(h:∀ k,k<n->mu[k]? = mu'[k]?):∀ {d:D} {v:V},eX K H mu d v->d.und n=true->eX K H mu' d v:=fun c=>c.rec (motive_1:=fun d v _=>d.und n=true->eX K H mu' d v) (motive_2:=fun ds vs _=>D.unds n ds=true->eh K H mu' ds vs)
  (λ_=>.non) (λb _=>.bl b) (λi _=>.int i) (λx _=>.str x) (λq _ ih e=>.tup q (ih (by rw[D.und]at e;exact e))) (λq _ ih e=>.rol q (ih (by rw[D.und]at e;exact e)))
  (λq e=>.ref (by rw[D.und]at e;rw[<- h _ (of_decide_eq_true e)];exact q)) (λq _=>.fn q) (λ_=>.nil) (λ_ _ a b e=>by rw[D.unds,bA1]at e;exact .cons (a e.1) (b e.2))
theorem eh.cut{n:Nat}(h:∀k,k<n->mu[k]?=mu'[k]?):∀{ds:List D} {vs:List V},eh K H mu ds vs->D.unds n ds=M->eh K H mu' ds vs:=λa=>a.ind (P:=λds vs _=>D.unds n ds=M->eh K H mu' ds vs) (λ_=>.nil) λr _ b e=>by rw[D.unds,bA1]at e;exact .cons (eX.cut h r e.1) (b e.2)
end
noncomputable def Ob.und(n:Nat):Ob->Bool
 | .lst xs=>D.unds n xs
 | .dct kvs=>D.unds n (kvs.map (·.2))
 | .dcT kvs=>D.unds n (kvs.map (·.2))
 | .iset _=>M
 | .dcF kvs=>D.unds n (kvs.map (·.2))
 | .tst _=>M
theorem KR.cut{κ:Type}{K:Fg1}{H:Hp}{mu mu':List dP}{n:Nat}(h:∀k,k<n->mu[k]?=mu'[k]?):∀{ks:List (κ×D)} {ws:List (κ×V)},KR K H mu ks ws->D.unds n (ks.map (·.2))=M->KR K H mu' ks ws:=by
 intro ks ws a e
 induction a with
 |nil=>exact .nil
 |cons r t ih=>
  rw[mP1,D.unds,bA1]at e;exact .cons ⟨r.1,r.2.cut h e.1⟩ (ih e.2)
mutual
theorem zP(n:Nat):∀k:TK,(tkD k).und n=M
 | .non=>rfl
 | .int _=>rfl
 | .tup xs=>by rw[tkD,D.und];exact wp n xs
theorem wp(n:Nat):∀ks:List TK,D.unds n (iE ks)=M
 |[]=>rfl
 |x::xs=>by rw[iE,D.unds,zP n x,wp n xs];rfl
end
theorem KT.cut{K:Fg1}{H:Hp}{mu mu':List dP}{n:Nat}(h:∀k,k<n->mu[k]?=mu'[k]?):∀{ks:List (TK×D)} {ws:List (TK×dP×dM)},KT K H mu ks ws->D.unds n (ks.map (·.2))=M->KT K H mu' ks ws:=by
 intro ks ws a e
 induction a with
 |nil=>exact .nil
 |cons r t ih=>
  rw[mP1,D.unds,bA1]at e;obtain⟨z,d,k,v,b,r⟩:=r;exact .cons ⟨z,d,k.cut h (zP n _),v,b,r.cut h e.1⟩ (ih e.2)
theorem wW(n:Nat):∀ks:List TK,D.unds n ((ks.map λk=>(k,D.non)).map (·.2))=M
 |[]=>rfl
 |_::ks=>by rw[mP1,mP1,D.unds,wW n ks];rfl
theorem kC.cut{K:Fg1}{H:Hp}{mu mu':List dP}{n:Nat}{a:dP}(h:∀k,k<n->mu[k]?=mu'[k]?):∀{o:Ob},kC K H mu a o->o.und n=M->kC K H mu' a o
 | .lst _,⟨vs,e,r⟩,b=>⟨vs,e,r.cut h b⟩
 | .dct _,⟨ws,e,r⟩,b=>⟨ws,e,KR.cut h r b⟩
 | .dcT _,⟨ws,e,r,l⟩,b=>⟨ws,e,KT.cut h r b,l⟩
 | .iset _,q,_=>q
 | .dcF _,⟨ws,e,r,l⟩,b=>⟨ws,e,KT.cut h r b,l⟩
 | .tst ks,⟨ws,e,r⟩,_=>⟨ws,e,KT.cut h r (wW n ks)⟩
def gc(n:Nat)(p:D×Sto):D×Sto:=if p.1.und n&&(p.2.take n).all (Ob.und n)then(p.1,p.2.take n)else p
mutual
noncomputable def D.sh(n:Nat):D->D
 | .tup xs=>.tup (D.shs n xs)
 | .rol xs=>.rol (D.shs n xs)
 | .ref k=>.ref (n+k)
 | .fn x=>.fn x
 | .non=>.non
 | .bl b=>.bl b
 | .int i=>.int i
 | .str x=>.str x
noncomputable def D.shs(n:Nat):List D->List D
 |[]=>[]
 |d::ds=>D.sh n d::D.shs n ds
end
def Ob.sh(n:Nat):Ob->Ob
 | .lst xs=>.lst (D.shs n xs)
 | .dct kvs=>.dct (kvs.map λp=>(p.1,p.2.sh n))
 | .dcT kvs=>.dcT (kvs.map λp=>(p.1,p.2.sh n))
 | .iset xs=>.iset xs
 | .dcF kvs=>.dcF (kvs.map λp=>(p.1,p.2.sh n))
 | .tst ks=>.tst ks
theorem eX.sh{K:Fg1}{H:Hp}{mu mu':List dP}:∀ {d:D} {v:V},eX K H mu' d v->eX K H (mu++mu') (d.sh mu.length) v:=fun c=>c.rec (motive_1:=fun d v _=>eX K H (mu++mu') (d.sh mu.length) v) (motive_2:=fun ds vs _=>eh K H (mu++mu') (D.shs mu.length ds) vs)
  .non .bl .int .str (λh _ ih=>.tup h ih) (λh _ ih=>.rol h ih) (λh=>.ref (by rw[gR1 (bB _ _),bC];exact h)) (λh=>.fn h) .nil (λ_ _ a b=>.cons a b)
theorem eh.sh{K:Fg1}{H:Hp}{mu mu':List dP}:∀{ds:List D} {vs:List V},eh K H mu' ds vs->eh K H (mu++mu') (D.shs mu.length ds) vs:=λh=>h.ind (P:=λds vs _=>eh K H (mu++mu') (D.shs mu.length ds) vs) .nil λr _ ih=>.cons (eX.sh r) ih
theorem KR.sh{κ:Type}{K:Fg1}{H:Hp}{mu mu':List dP}:∀{ks:List (κ×D)} {ws:List (κ×V)},KR K H mu' ks ws->KR K H (mu++mu') (ks.map λp=>(p.1,p.2.sh mu.length)) ws:=by
 intro ks ws h
 induction h with
 |nil=>exact .nil
 |cons r t ih=>exact .cons ⟨r.1,r.2.sh⟩ ih
mutual
theorem Ek(n:Nat):∀k:TK,(tkD k).sh n=tkD k
 | .non=>rfl
 | .int _=>rfl
 | .tup xs=>by rw[tkD,D.sh,zM n xs]
theorem zM(n:Nat):∀ks:List TK,D.shs n (iE ks)=iE ks
 |[]=>rfl
 |x::xs=>by rw[iE,D.shs,Ek n x,zM n xs]
end
theorem KT.sh{K:Fg1}{H:Hp}{mu mu':List dP}:∀{ks:List (TK×D)} {ws:List (TK×dP×dM)},KT K H mu' ks ws->KT K H (mu++mu') (ks.map λp=>(p.1,p.2.sh mu.length)) ws:=by
 intro ks ws h
 induction h with
 |nil=>exact .nil
 |cons r t ih=>
  obtain⟨z,d,k,v,a,r⟩:=r;exact .cons ⟨z,d,by have:=k.sh (mu:=mu);rw[Ek]at this;exact this,v,a,r.sh⟩ ih
theorem kC.sh{K:Fg1}{H:Hp}{mu mu':List dP}{a:dP}:∀{o:Ob},kC K H mu' a o->kC K H (mu++mu') a (o.sh mu.length)
 | .lst _,⟨vs,e,r⟩=>⟨vs,e,r.sh⟩
 | .dct _,⟨ws,e,r⟩=>⟨ws,e,KR.sh r⟩
 | .dcT _,⟨ws,e,r,l⟩=>⟨ws,e,KT.sh r,l⟩
 | .iset _,q=>q
 | .dcF _,⟨ws,e,r,l⟩=>⟨ws,e,KT.sh r,l⟩
 | .tst ks,⟨ws,e,r⟩=>⟨ws,e,by have:=KT.sh (mu:=mu) r;rw[bD]at this;exact this⟩
theorem eX.mor{K:Fg1}{H:Hp}{mu:List dP}(mu':List dP):∀{d:D} {v:V},eX K H mu d v->eX K H (mu++mu') d v:=λh=>h.exv ⟨bE _ _,λ_ _ h=>h,λ_ _ _ h=>h⟩
theorem eh.mor{K:Fg1}{H:Hp}{mu:List dP}(mu':List dP):∀{ds:List D} {vs:List V},eh K H mu ds vs->eh K H (mu++mu') ds vs:=λh=>h.exv ⟨bE _ _,λ_ _ h=>h,λ_ _ _ h=>h⟩
theorem KR.mor{κ:Type}{K:Fg1}{H:Hp}{mu:List dP}(mu':List dP){ks:List (κ×D)}{ws:List (κ×V)}(h:KR K H mu ks ws):KR K H (mu++mu') ks ws:=Paired.mapP h λ_ _ z=>⟨z.1,z.2.mor mu'⟩
theorem kC.mor{K:Fg1}{H:Hp}{mu:List dP}{a:dP}(mu':List dP):∀{o:Ob},kC K H mu a o->kC K H (mu++mu') a o
 | .lst _,⟨vs,e,r⟩=>⟨vs,e,r.mor mu'⟩
 | .dct _,⟨ws,e,r⟩=>⟨ws,e,KR.mor mu' r⟩
 | .dcT _,⟨ws,e,r,l⟩=>⟨ws,e,Paired.mapP r λ_ _ ⟨z,d,k,v,b,r⟩=>⟨z,d,k.mor mu',v,b,r.mor mu'⟩,l⟩
 | .iset _,q=>q
 | .dcF _,⟨ws,e,r,l⟩=>⟨ws,e,Paired.mapP r λ_ _ ⟨z,d,k,v,b,r⟩=>⟨z,d,k.mor mu',v,b,r.mor mu'⟩,l⟩
 | .tst _,⟨ws,e,r⟩=>⟨ws,e,Paired.mapP r λ_ _ ⟨z,d,k,v,b,r⟩=>⟨z,d,k.mor mu',v,b,r.mor mu'⟩⟩
def m7(f:FN):FN:=λds S=>if D.unds 0 ds=M then(f ds []).map λp=>if p.1.und 0=M then(p.1,S)else(p.1.sh S.length,S++p.2.map (Ob.sh S.length))else(f ds S).map (gc S.length)
theorem kC.keep{K:Fg1}{H H':Hp}{mu:List dP}{a:dP}(e:Ext mu mu H H')(h:∀o,H a=Z o->H' a=Z o):∀{o:Ob},kC K H mu a o->kC K H' mu a o
 | .lst _,⟨vs,q,r⟩=>⟨vs,h _ q,r.ext e⟩
 | .dct _,⟨ws,q,r⟩=>⟨ws,h _ q,KR.ext e r⟩
 | .dcT _,⟨ws,q,r,l⟩=>⟨ws,h _ q,KT.ext e r,l⟩
 | .iset _,q=>⟨h _ q.1,q.2⟩
 | .dcF _,⟨ws,⟨o,u,c,b⟩,r,l⟩=>⟨ws,⟨o,u,h _ c,b⟩,KT.ext e r,l⟩
 | .tst _,⟨ws,q,r⟩=>⟨ws,h _ q,KT.ext e r⟩
theorem uR{K:Fg1}{f:FN}{vs:List V}{H:Hp}{Q:VK}(h:rN K (m7 f) vs H Q):rN K f vs H Q:=by
 obtain⟨mu,S,ds,d,aq,D,c,g,hc⟩:=h;unfold m7 at g;split at g
 ·rename_i j;obtain⟨⟨B,p⟩,w,g⟩:=oM1.mp g;refine⟨[],[],ds,B,p,D.cut (n:=0) (λk i=>absurd i (bF _)) j,.nil,w,λv H' mu' x r s=>?_⟩;have y:Ext mu mu H H':=⟨bv,λa o e _=>x.old a o e (by simp),x.tup,x.frz,λ_ z=>.inl z⟩;dsimp only at g;split at g
  ·rename_i ao;cases g;refine hc v H' mu y (r.cut (n:=0) (λk i=>absurd i (bF _)) ao) ⟨c.len,c.nd,λn o a h1 h2=>?_⟩;exact(c.ob n o a h1 h2).keep y λo e=>x.old a o e (by simp)
  ·cases g;have E:∀ a∈mu',H a=none:=fun a u=>(x.new a u).resolve_left (by simp);have I:Ext mu (mu++mu') H H':=⟨bE _ _,fun a o e _=>x.old a o e (by simp),x.tup,x.frz,fun a z=>by
    rcases aH.mp z with z|z
    ·exact .inl z
    ·exact .inr (E a z)⟩
   refine hc v H' (mu++mu') I (by rw[<- c.len];exact r.sh) ⟨by rw[lA1,lA1,lM1,c.len,s.len],?_,λn o a h1 h2=>?_⟩
   ·refine bG.mpr ⟨c.nd,s.nd,λa u b j z=>?_⟩;subst z;obtain⟨o,e⟩:=c.here u;rw[E a j]at e;cases e
   ·by_cases l:n<S.length
    ·rw[gL1 l]at h1;rw[gL1 (by rw[c.len];exact l)]at h2;exact((c.ob n o a h1 h2).keep y λo e=>x.old a o e (by simp)).mor mu'
    ·have m:=bi l;rw[gR1 m]at h1;rw[gR1 (by rw[c.len];exact m)]at h2;rw[gP1]at h1;obtain⟨G,F,L⟩:=oM1.mp h1;subst L;have q:=s.ob (n-S.length) G a F (by rw[c.len]at h2;exact h2);rw[<- c.len];exact q.sh
 ·obtain⟨⟨B,p⟩,w,g⟩:=oM1.mp g;refine⟨mu,S,ds,B,p,D,c,w,λv H' mu' x r s=>?_⟩;unfold gc at g;split at g
  ·rename_i j;cases g;rw [bA1] at j;have i:∀ k,k<S.length->mu'[k]? = mu[k]?:=fun k i=>by
    obtain⟨t,rfl⟩:=x.pre;rw[gL1 (by rw[c.len];exact i)]
   refine hc v H' mu x.back (r.cut i j.1) ⟨?_,c.nd,λn o a h1 h2=>?_⟩
   ·have:=s.len;have C:=x.pre.length_le;rw[aT,<- s.len];rw[c.len]at C ⊢;exact(bH C).symm
   ·have l:n<S.length:=by rw[<- c.len];exact(gE1.mp h2).1
    have A:p[n]?=Z o:=by rw[aV l]at h1;exact h1
    refine(s.ob n o a A ((i n l).trans h2)).cut i ?_;exact bI.mp j.2 o (gM1 h1)
  ·cases g;exact hc v H' mu' x r s
noncomputable def B1(K:Fg1)(n:Nat)(f:FN):Sp:=λvs H Q _=>vs.length=n/\rN K f vs H Q
section
variable{k n:Nat}{f:dP}{fd:dZ}{ps:List Str}{x:Str}{p pos:Pos}{e:Expr}{es:List Expr}{m:FN}{a:FA}
noncomputable def d8 (n:Nat)(f:FN):FN:=λds S=>if ds.length=n then m7 f ds S else none
theorem Db (F:j6 X.prog X.w X.K X.mg X.base uY k f fd ps (B1 X.K n m))(hr:gi k X.A)(hg:Gl X x)(hm:X.mg x=some (.ref f))(hk:wK1 X.K (.ref f)=true)(hb:lX X.K fd ps [])
  (ha:MA X (e::es) a) (hdb:autoParam ((x == ("__debug__":Str))=J) bu0) (he:autoParam (dV (e::es) X.env=(J,eval e X.env)::dV es X.env) au0) (hpl:autoParam ((backTo pos (dV es X.env)).any (·.1)=J) au0):
  ME X (.Call (.Name x p) (e::es) [] pos) (mN (d8 n m) a):=
 fE (CL (E:=E0) F hr hg hm hk hb .nil Io ha hdb he hpl) fun σ H Q h=>by
  obtain⟨r,mu,S,ds,l,he,j,hm,hc⟩:=AT h;refine⟨r,mu,S,ds,l,he,j,hm,λvs H' mu' v g i=>?_⟩;have q:=hc vs H' mu' v g i;show B1 X.K n m (vs++[]) H' Q E0;rw[aP];obtain⟨c,s,d,o,u,h1,h2,b,w⟩:=q;unfold d8 at b;split at b
  ·rename_i t;exact⟨by rw[<- h1.length];exact t,uR ⟨c,s,d,o,u,h1,h2,b,w⟩⟩
  ·cases b
end
noncomputable def pK:FS:=λr S=>Z (.nx,r,S)
noncomputable def eA (a b:FS):FS:=λr S=>(a r S).bind λp=>match p.1 with
 | .nx=>b p.2.1 p.2.2
 |f=>some (f,p.2.1,p.2.2)
noncomputable def fA (m:FE):FS:=λr S=>(m r S).bind λp=>some (.rt p.1,r,p.2)
noncomputable def K6:FS:=λr S=>Z (.rt .non,r,S)
noncomputable def fF (m:FE):FS:=λr S=>(m r S).bind λp=>some (.nx,r,p.2)
noncomputable def hB (c:FT)(a b:FS):FS:=λr S=>(c r S).bind λp=>if p.1=true then a r p.2 else b r p.2
section
variable{pos:Pos}{e c:Expr}{st:d0}{rest as bs:List d0}{a b:FS}{m:FE}{t:FT}
theorem C0:zj X [] pK:=r6 Cy <| by
 rintro E σ H ⟨r,mu,S,f,d,e,c,a,b,hc⟩;cases b;exact hc σ H mu (.refl _ _) c a
theorem AI(h1:MS X st a)(h2:zj X rest b):zj X (st::rest) (eA a b):=r6 (Af h1 h2) <| by
 rintro E σ H ⟨r,mu,S,f,s,t,u,q,h,hc⟩;obtain⟨⟨n,l,m⟩,p,h⟩:=oB1.mp h;refine⟨r,mu,S,n,l,m,u,q,p,?_⟩;cases n with
 |nx=>
  intro o H1 mu1 i k j;refine⟨l,mu1,m,f,s,t,k,j,h,?_⟩;cases f with
  |nx=>exact λe H2 c g=>hc e H2 c (i.trans g)
  |bk=>exact λe H2 c g=>hc e H2 c (i.trans g)
  |ct=>exact λe H2 c g=>hc e H2 c (i.trans g)
  |rt d=>exact λv H2 c g=>hc v H2 c (i.trans g)
 |bk=>cases h;exact hc
 |ct=>cases h;exact hc
 |rt d=>cases h;exact hc
theorem CZ(h1:MS X st a):zj X [st] a:=Cw h1
theorem C2(h:ME X e m)(hs:autoParam (swapsWith e Y pos.line X.env=pure J) au0):MS X (.Expr e pos) (fF m):=iF (Cz h hs) <| by
 rintro E σ H ⟨r,mu,S,f,j,k,b,hs,a,hc⟩;obtain⟨⟨d,l⟩,g,a⟩:=oB1.mp a;cases a;exact⟨r,mu,S,d,_,b,hs,g,λv H' mu' x i c=>hc σ H' mu' x (b.ext x) c⟩
theorem Gh(h:ME X e m):MS X (.Return (Z e) pos) (fA m):=iF (Fw h) <| by
 rintro E σ H ⟨r,mu,S,f,i,j,g,c,a,hc⟩;obtain⟨⟨d,k⟩,b,a⟩:=oB1.mp a;cases a;exact⟨r,mu,S,d,_,g,c,b,hc⟩
theorem IA(hc:MT X c t)(ha:zj X as a)(hb:zj X bs b):MS X (.If c as bs pos) (hB t a b):=iF (Ig hc ha hb) <| by
 rintro E σ H ⟨r,mu,S,f,n,o,p,u,i,hc⟩;obtain⟨⟨k,l⟩,s,i⟩:=oB1.mp i;refine⟨r,mu,S,k,l,p,u,s,λH1 mu1 j q=>?_⟩;have m:∀c:FS,c r l=Z (f,n,o)->wx X.K c E σ H1:=λc i=>by
  refine⟨r,mu1,l,f,n,o,p.ext j,q,i,?_⟩;cases f with
  |nx=>exact λg H2 e h=>hc g H2 e (j.trans h)
  |bk=>exact λg H2 e h=>hc g H2 e (j.trans h)
  |ct=>exact λg H2 e h=>hc g H2 e (j.trans h)
  |rt d=>exact λv H2 e h=>hc v H2 e (j.trans h)
 cases k with
 |true=>exact m a i
 |false=>exact m b i
end
abbrev FG:=D->Ev->Sto->Option (Ev×Sto)
abbrev B0:=List D->Ev->Sto->Option (Ev×Sto)
inductive E6 (K:Fg1)(g:FG)(v:V)(σ:L2.St)(H:Hp)(Q:L2.St->Hp->Prop):Prop
 |mk (r:Ev) (mu:List dP) (S:Sto) (d:D) (r':Ev) (S':Sto) (he:fW K H mu r σ) (hs:Sim K H mu S) (hr:eX K H mu d v) (hm:g d r S=some (r',S')) (hc:∀ σ' H' mu',Ext mu mu' H H'->fW K H' mu' r' σ'->Sim K H' mu' S'->Q σ' H')
inductive Kc (K:Fg1)(g:B0)(vs:List V)(σ:L2.St)(H:Hp)(Q:L2.St->Hp->Prop):Prop
 |mk (r:Ev) (mu:List dP) (S:Sto) (ds:List D) (r':Ev) (S':Sto) (he:fW K H mu r σ) (hs:Sim K H mu S) (hr:eh K H mu ds vs) (hm:g ds r S=some (r',S')) (hc:∀ σ' H' mu',Ext mu mu' H H'->fW K H' mu' r' σ'->Sim K H' mu' S'->Q σ' H')
abbrev MG(X:Cx)(e:Expr)(g:FG):Prop:=PG X e (E6 X.K g)
abbrev Jz(X:Cx)(es:List Expr)(g:B0):Prop:=Hr X es (Kc X.K g)
noncomputable def gN (i:Nat):FG:=λd r S=>some (r.set i (some d),S)
noncomputable def jp:B0:=λds r S=>match ds with
 |[]=>Z (r,S)
 |_=>Y
noncomputable def fQ (g:FG)(gs:B0):B0:=λds r S=>match ds with
 |d::ds=>(g d r S).bind λp=>gs ds p.1 p.2
 |[]=>none
noncomputable def gT (n:Nat)(gs:B0):FG:=λd r S=>match d with
 | .tup ds=>if ds.length=n then gs ds r S else none
 |_=>none
theorem fW.set{K:Fg1}{H:Hp}{mu:List dP}{r:Ev}{σ:L2.St}{i:Nat}{d:D}{v:V}(h:fW K H mu r σ)(q:eX K H mu d v):fW K H mu (r.set i (Z d)) (σ.set i (Z v)):=by
 refine⟨by rw[aX,aX];exact h.len,λj g e=>?_⟩;by_cases a:i=j
 ·subst a;have b:i<r.length:=by
   have:=(gE1.mp e).1
   rwa [aX]at this
  rw[aJ b]at e;cases e;exact⟨v,aJ (by rw[<- h.len];exact b),q⟩
 ·rw[gS1 a]at e;obtain⟨k,f,c⟩:=h.val j g e;exact⟨k,by rw[gS1 a];exact f,c⟩
section
variable{pos:Pos}
theorem vr{e:Expr}{t t':TG}(h:PG X e t)(i:∀v σ H Q,t' v σ H Q->t v σ H Q):PG X e t':=λag s σ H v u Q I r q=>h ag s σ H v u Q I r (i v σ H Q q)
theorem wK{e:List Expr}{t t':EK}(h:Hr X e t)(i:∀v σ H Q,t' v σ H Q->t v σ H Q):Hr X e t':=λag s σ H v u Q I r q=>h ag s σ H v u Q I r (i v σ H Q q)
theorem C8(i:Nat){x:Str}(hN:X.N.Nodup)(hi:X.N[i]?=Z x)(hx:wc X.env.scope x)(hf:autoParam (X.fn x=M\/X.env.scope.names.lookup x=Z .local) au0):MG X (.Name x pos) (gN i):=
 vr (wL hN hi hx hf) <| by
  rintro v σ H Q ⟨r,mu,S,d,f,g,c,a,e,b,hc⟩;cases b;exact hc _ H mu (.refl _ _) (c.set e) a
theorem C7:Jz X [] jp:=wK CH <| by
 rintro vs σ H Q ⟨r,mu,S,ds,e,f,c,b,d,a,hc⟩;unfold jp at a;split at a
 ·cases a;cases d;exact⟨O,hc σ H mu (.refl _ _) c b⟩
 ·cases a
theorem AL{e:Expr}{es:List Expr}{g:FG}{h:B0}(h1:MG X e g)(h2:Jz X es h)(hs:autoParam ((assignEach (e::es) X.env).map (·.2)=assign e X.env::(assignEach es X.env).map (·.2)) au0):Jz X (e::es) (fQ g h):=
 wK (Ao h1 h2 hs) <| by
  rintro vs σ H Q ⟨r,mu,S,ds,n,o,p,hs,u,a,hc⟩;unfold fQ at a;split at a
  ·obtain⟨⟨f,i⟩,m,a⟩:=oB1.mp a;cases u with
   |cons q t=>
    exact⟨_,_,O,r,mu,S,_,f,i,p,hs,q,m,λk H1 mu1 j d l=>⟨f,mu1,i,_,n,o,d,l,t.ext j,a,λc H2 b s=>hc c H2 b (j.trans s)⟩⟩
  ·cases a
theorem Gq{es:List Expr}{k:Nat}{b:B0}{n:Nat}(hc:X.calm=M)(h:Jz X es b)(hn:autoParam ((assignEach es X.env).length=n) au0)(hst:autoParam ((assignEach es X.env).findIdx? (·.1)=Y) au0):MG X (.Tuple es k pos) (gT n b):=
 vr (FK hc h hn hst) <| by
  rintro v σ H Q ⟨r,mu,S,d,e,f,g,c,i,a,hc⟩;cases d with
  |tup ds=>
   rw[gT]at a;split at a
   ·rename_i j;cases i with
    |tup q t=>exact⟨_,_,O,q,by rw[<- t.length];exact j,r,mu,S,ds,e,f,g,c,t,a,hc⟩
   ·cases a
  |_=>cases a
inductive rU (K:Fg1)(f:FN)(o i v:V)(H:Hp)(Q:Hp->Prop):Prop
 |mk (mu:List dP) (S:Sto) (ds:List D) (d:D) (S':Sto) (hr:eh K H mu ds [o,i,v]) (hs:Sim K H mu S) (hm:f ds S=some (d,S')) (hc:∀H' mu',Ext mu mu' H H'->Sim K H' mu' S'->Q H')
noncomputable def gS(f:FN)(a b:FE):FG:=λd r S=>(a r S).bind λp=>(b r p.2).bind λq=>(f [p.1,q.1,d] q.2).bind λt=>Z (r,t.2)
theorem Gr{o i:Expr}{a b:FE}{f:FN}(ho:ME X o a)(hi:ME X i b)(hs:wb X (rU X.K f))(ha:autoParam (∀v,assign (.Subscript o i pos) X.env v=(do
   let ov<-holding [v] (eval o X.env)
   let iv<-holding [v,ov] (eval i X.env)
   standAt pos
   holding [v,ov,iv] (setItem ov iv v)
   release [v,ov,iv] [])) du0):MG X (.Subscript o i pos) (gS f a b):=
 vr (FL ho hi hs ha) <| by
  rintro v σ H Q ⟨r,mu,S,d,D,E,k,hs,u,c,hc⟩;obtain⟨⟨q,l⟩,C,c⟩:=oB1.mp c;obtain⟨⟨n,p⟩,w,c⟩:=oB1.mp c;obtain⟨⟨y,I⟩,A,c⟩:=oB1.mp c;cases c;refine⟨r,mu,S,q,l,k,hs,C,λG H1 mu1 g z B=>?_⟩;refine⟨r,mu1,l,n,p,k.ext g,B,w,λF H2 h e r2 x=>?_⟩;exact⟨h,p,[q,n,d],y,_,.cons (z.ext e) (.cons r2 (.cons ((u.ext g).ext e) .nil)),x,A,λt j m s=>hc σ t j ((g.trans e).trans m) (((k.ext g).ext e).ext m) s⟩
noncomputable def eE (m:FE)(g:FG):FS:=λr S=>(m r S).bind λp=>(g p.1 r p.2).bind λq=>some (.nx,q.1,q.2)
theorem sD{K:Fg1}{m:FE}{g:FG}{E:jP}{σ:L2.St}{H:Hp}(h:wx K (eE m g) E σ H):zT (tM K m) (E6 K g) E σ H:=by
 obtain⟨r,mu,S,f,t,u,e,o,a,hc⟩:=h;obtain⟨⟨i,d⟩,n,a⟩:=oB1.mp a;obtain⟨⟨r2,v⟩,q,a⟩:=oB1.mp a;cases a;refine⟨r,mu,S,i,d,e,o,n,λs H1 mu1 j k l=>?_⟩;exact⟨r,mu1,d,i,_,_,e.ext j,l,k,q,λc H2 b p=>hc c H2 b (j.trans p)⟩
theorem Gk{tg e:Expr}{m:FE}{g:FG}(he:ME X e m)(hg:MG X tg g)(hs:autoParam (swapsWithSole [tg] e pos.line X.env=pure J) au0)(hw:autoParam (swappedStores [tg] e X.env=pure Y) au0)(h1:autoParam ((assignEach [tg] X.env).map (·.2)=[assign tg X.env]) au0):MS X (.Assign [tg] e pos) (eE m g):=iF (FB he hg hs hw h1) λ_ _ _=>sD
theorem Gg(i:Nat){x:Str}{e:Expr}{m:FE}{pos':Pos}(hN:X.N.Nodup)(hi:X.N[i]? = some x)(hx:wc X.env.scope x)(he:ME X e m)(hs:autoParam (swapsWith e (some (.Name x pos')) pos.line X.env=pure false) au0)(hf:autoParam (X.fn x=true\/X.env.scope.names.lookup x=some .local) au0):
  MS X (.Assign [.Name x pos'] e pos) (eE m (gN i)):=iF (Fv hN hi hx he hs hf) λE σ H h=>by
 obtain⟨r,mu,S,d,k,h1,h2,g,q⟩:=sD h;refine⟨r,mu,S,d,k,h1,h2,g,λv H' mu' p f j=>?_⟩;obtain⟨r2,a,t,s,w,u,c,o,n,l,b⟩:=q v H' mu' p f j;cases l;exact b _ H' a (.refl _ _) (c.set n) o
noncomputable def Dg(i:Nat)(f:FN)(m:FE):FS:=λr S=>match r[i]? with
 |some (Z d)=>(m r S).bind λp=>(f [d,p.1] p.2).bind λq=>Z (.nx,r.set i (Z q.1),q.2)
 |_=>Y
theorem Gj(i:Nat){x:Str}{e:Expr}{m:FE}{op:Operator}{f:FN}{pos':Pos}(hN:X.N.Nodup)(hi:X.N[i]? = some x)(hx:wc X.env.scope x)(he:ME X e m)(ho:JU X op (r2 X.K f))(hf:autoParam (X.fn x=true\/X.env.scope.names.lookup x=some .local) au0):
  MS X (.AugAssign (.Name x pos') op e pos) (Dg i f m):=iF (Fz hN hi hx he ho hf) <| by
 rintro E σ H ⟨r,mu,S,z,A,B,he,l,a,hc⟩;unfold Dg at a;split at a
 ·rename_i d e;obtain⟨⟨j,g⟩,y,a⟩:=oB1.mp a;obtain⟨⟨t,F⟩,p,a⟩:=oB1.mp a;cases a;obtain⟨v,s,o⟩:=he.val i d e;refine⟨v,s,r,mu,S,j,g,he,l,y,λC H1 mu1 b q w=>?_⟩;exact⟨mu1,g,[d,j],t,_,.cons (o.ext b) (.cons q .nil),w,p,λD n c h u k=>hc _ n c (b.trans h) (((he.ext b).ext h).set u) k⟩
 ·cases a
end
noncomputable def s9 (c:FT)(b:FS):Nat->FS
 |0=>λ_ _=>none
 | n+1=>fun r S=>(c r S).bind fun p=>if p.1=true then (b r p.2).bind fun q=>match q.1 with
   | .nx=>s9 c b n q.2.1 q.2.2
   | .ct=>s9 c b n q.2.1 q.2.2
   | .bk=>some (.nx,q.2.1,q.2.2)
   | .rt d=>some (.rt d,q.2.1,q.2.2)
  else some (.nx,r,p.2)
theorem EQ{K:Fg1}{c:FT}{b:FS}{n:Nat}{E:jP}{σ:L2.St}{H:Hp}(h:wx K (s9 c b n) E σ H):zR (zS K c) (wx K b) E σ H:=by
 refine⟨λm a H'=>wx K (s9 c b m) E a H',⟨n,h⟩,λm t H1 q=>?_⟩;obtain⟨r,mu,S,f,w,z,u,F,i,hc⟩:=q;cases m with
 |zero=>cases i
 |succ m=>
  obtain⟨⟨k,A⟩,I,i⟩:=oB1.mp i;refine⟨r,mu,S,k,A,u,F,I,λH2 e o C=>?_⟩;cases k with
  |false=>
   cases i;exact hc t H2 e o (u.ext o) C
  |true=>
   obtain⟨⟨D,p,s⟩,G,i⟩:=oB1.mp i;have B:∀{a H' mu'},Ext e mu' H2 H'->fW K H' mu' p a->Sim K H' mu' s->s9 c b m p s=Z (f,w,z)->wx K (s9 c b m) E a H':=λ{a H' mu'} x g l i=>by
    refine⟨p,mu',s,f,w,z,g,l,i,?_⟩;cases f with
    |nx=>exact λj H2 e y=>hc j H2 e ((o.trans x).trans y)
    |bk=>exact λj H2 e y=>hc j H2 e ((o.trans x).trans y)
    |ct=>exact λj H2 e y=>hc j H2 e ((o.trans x).trans y)
    |rt d=>exact λv H2 e y=>hc v H2 e ((o.trans x).trans y)
   refine⟨λa H'=>wx K (s9 c b m) E a H',λa H' q=>⟨m,bJ _,q⟩,r,e,A,D,p,s,u.ext o,C,G,?_⟩;cases D with
   |nx=>exact λa H' mu' x g l=>B x g l i
   |ct=>exact λa H' mu' x g l=>B x g l i
   |bk=>cases i;exact λa H' mu' x g l=>hc a H' mu' (o.trans x) g l
   |rt d=>cases i;exact λv H' mu' x p l=>hc v H' mu' (o.trans x) p l
theorem AJ{X:Cx}{pos:Pos}(n:Nat){c:Expr}{a:List d0}{t:FT}{b:FS}(hp:PassesOwn (model X.prog X.w) X.A X.env X.xe)(hc:MT X c t)(hb:zj X a b):MS X (.While c a [] pos) (s9 t b n):=
 iF (Ag hp hc hb) λ_ _ _=>EQ
structure BY where
 items:List D
 chk:List (Nat×List D)
noncomputable def qo (S:Sto):List (Nat×List D)->Bool
 |[]=>true
 | (n,xs)::c=>(match S[n]? with
   |some (.lst ys)=>D.sames ys xs
   |_=>false)&&qo S c
def ItR(K:Fg1)(j:It)(ao:BY)(mu:List dP)(H:Hp):Prop:=∀i H1 mu1 S1,tf mu mu1 H H1->Sim K H1 mu1 S1->qo S1 ao.chk=M ->
 (∀d,ao.items[i]?=Z d->j.go i H1 /\ ∀x H2,j.yld i H1 x H2->Ext mu1 mu1 H1 H2/\Sim K H2 mu1 S1/\eX K H2 mu1 d x)/\(ao.items.length<=i->j.stop i H1)
abbrev FI:=Ev->Sto->Option (BY×Sto)
inductive Kb (K:Fg1)(m:FI)(σ:L2.St)(H:Hp)(R:It->Hp->Prop):Prop
 |mk (r:Ev) (mu:List dP) (S:Sto) (ao:BY) (S':Sto) (he:fW K H mu r σ) (hs:Sim K H mu S) (hm:m r S=some (ao,S')) (hc:∀j H' mu',Ext mu mu' H H'->ItR K j ao mu' H'->Sim K H' mu' S'->R j H')
abbrev MI(X:Cx)(tg iter:Expr)(m:FI):Prop:=PI X tg iter (Kb X.K m)
theorem ot{X:Cx}{tg e:Expr}{t t':TI}(h:PI X tg e t)(i:∀ σ H R,t' σ H R->t σ H R):PI X tg e t':=λag s σ H R I q=>h ag s σ H R I (i σ H R q)
theorem Ih{X:Cx}{tg e:Expr}{t t':TI}(h:PI X tg e t)(h':PI X tg e t'):PI X tg e (fun σ H R=>t σ H R\/t' σ H R):=λag s σ H R I q=>q.elim (h ag s σ H R I) (h' ag s σ H R I)
noncomputable def lp (c:List (Nat×List D))(g:FG)(b:FS):List D->FS
 |[]=>λr S=>if qo S c=true then some (.nx,r,S)else none
 | d::ds=>fun r S=>if qo S c=true then (g d r S).bind fun p=>(b p.1 p.2).bind fun q=>match q.1 with
   | .nx=>lp c g b ds q.2.1 q.2.2
   | .ct=>lp c g b ds q.2.1 q.2.2
   | .bk=>some (.nx,q.2.1,q.2.2)
   | .rt v=>some (.rt v,q.2.1,q.2.2)
  else none
noncomputable def hC (m:FI)(g:FG)(b:FS):FS:=λr S=>(m r S).bind λp=>lp p.1.chk g b p.1.items r p.2
theorem m5{α:Type}{l:List α}{i:Nat}{d:α}{ds:List α}(h:l.drop i=d::ds):l[i]?=Z d/\l.drop (i+1)=ds:=by
 have h1:l[i]?=Z d:=by
  have:=congrArg (·[0]?) h;simpa using this
 refine⟨h1,?_⟩;rw[<- bK,h];rfl
inductive KU (K:Fg1)(mu1:List dP)(H1:Hp)(c:List (Nat×List D))(g:FG)(b:FS)(f:Fl)(r':Ev)(S':Sto)(L:List D)(σ':L2.St)(H':Hp):Prop
 |mk (r2:Ev) (mu2:List dP) (S2:Sto):Ext mu1 mu2 H1 H'->fW K H' mu2 r2 σ'->Sim K H' mu2 S2->lp c g b L r2 S2=some (f,r',S')->KU K mu1 H1 c g b f r' S' L σ' H'
theorem Df{K:Fg1}{m:FI}{g:FG}{b:FS}{E:jP}{σ:L2.St}{H:Hp}(h:wx K (hC m g b) E σ H):HR (Kb K m) (E6 K g) (wx K b) E σ H:=by
 obtain⟨r,mu,S,f,aq,N,V,X,F,hc⟩:=h;obtain⟨⟨ao,av⟩,e1,F⟩:=oB1.mp F;refine⟨r,mu,S,ao,av,V,X,e1,λj H1 mu1 z Q s1=>?_⟩;refine⟨λi k s H'=>k=(ao.items.drop i).length/\KU K mu1 H1 ao.chk g b f aq N (ao.items.drop i) s H',⟨_,O,r,mu1,av,.refl _ _,V.ext z,s1,F⟩,?_⟩;rintro i k B H2 ⟨rfl,r2,l,S2,p,w,D,a⟩;cases hl:ao.items.drop i with
 |nil=>
  left;rw[hl]at a;rw[lp]at a;dsimp only at a;split at a
  ·rename_i ok;cases a;refine⟨(Q i H2 l _ p.w D ok).2 (List.drop_eq_nil_iff.mp hl),?_⟩;exact hc B H2 l (z.trans p) w D
  ·cases a
 |cons d ds=>
  right;rw[hl]at a;obtain⟨hi,R⟩:=m5 hl;rw[lp]at a;dsimp only at a;split at a
  ·rename_i ok;obtain⟨⟨U,T⟩,e3,a⟩:=oB1.mp a;obtain⟨⟨P,C,G⟩,wq,a⟩:=oB1.mp a;obtain⟨go,yl⟩:=(Q i H2 l _ p.w D ok).1 d hi;refine⟨go,KU K mu1 H1 ao.chk g b f aq N ds,?_,λx au y=>?_⟩
   ·intro s H' h5;exact⟨ds.length,bJ _,(congrArg List.length R).symm,R.symm ▸ h5⟩
   ·obtain⟨t,W,q3⟩:=yl x au y;refine⟨r2,l,S2,d,U,T,w.ext t,W,q3,e3,fun σ4 H4 I A L s4=>?_⟩;refine⟨U,I,T,P,C,G,L,s4,wq,?_⟩;cases P with
    |nx=>exact λo u c q e n=>⟨C,c,G,(p.trans t).trans (A.trans q),e,n,a⟩
    |ct=>exact λo u c q e n=>⟨C,c,G,(p.trans t).trans (A.trans q),e,n,a⟩
    |bk=>cases a;exact λo u c q e n=>hc o u c ((z.trans p).trans (t.trans (A.trans q))) e n
    |rt v=>cases a;exact λv5 u c q r5 n=>hc v5 u c ((z.trans p).trans (t.trans (A.trans q))) r5 n
  ·cases a
theorem Gi{X:Cx}{pos:Pos}{tg iter:Expr}{a:List d0}{m:FI}{g:FG}{b:FS}(hp:PassesOwn (model X.prog X.w) X.A X.env X.xe)(hc:X.calm=M)(hi:MI X tg iter m)(hg:MG X tg g)(hb:zj X a b)(hs:autoParam (∀x,foldedSetIterable iter X.env x=pure x) du0):MS X (.For tg iter a [] pos) (hC m g b):=iF (Fy hp hc hi hg hb hs) λ_ _ _=>Df
noncomputable def hI(n:Nat)(ds:List D):Ev:=ds.map Z++aR (n-ds.length) Y
noncomputable def iH (n:Nat)(b:FS):FN:=λds S=>(b (hI n ds) S).bind λp=>match p.1 with
 | .rt d=>some (d,p.2.2)
 | .nx=>some (.non,p.2.2)
 |_=>none
theorem yf{K:Fg1}{H:Hp}{mu:List dP}{ds:List D}{vs:List V}(N:List Str)(h:eh K H mu ds vs):fW K H mu (hI N.length ds) (L2.ju N vs):=by
 refine⟨?_,λi d e=>?_⟩
 ·unfold hI L2.ju;rw[lA1,lA1,lM1,lM1,lR1,lR1,h.length]
 ·unfold hI at e;unfold L2.ju;by_cases hi:i<ds.length
  ·rw[gL1 (by rw[lM1];exact hi),gP1]at e;obtain⟨f,c,b⟩:=oM1.mp e;cases b;obtain⟨v,a,r⟩:=h.get c;refine⟨v,?_,r⟩;rw[gL1 (by rw[lM1,<- h.length];exact hi),gP1,a];rfl
  ·rw[gR1 (by rw[lM1];lia)]at e;have:=gM1 e;rw[List.mem_replicate]at this;cases this.2
theorem Ja{P:dQ}{w:dS}{K:Fg1}{mg:Str->Option dM}{base:dY}{x c:Str}{st:d0}{f:dP}{fd:dZ}{N ps:List Str}{k:Nat}{b:FS}(F:zt K x c st f fd)(S:gK N ps (eG st))(i:∀(e:dM) (A:dR) (a:List Env) (s:dN) (H:Hp) (E:XK),gi k (A.deeper (envOfC c (eG st) s.heap.objs.size f e)) ->
   zj (nw uY P w K mg base N c (eG st) f e A a s H E).nox (fK st) b):j6 P w K mg base uY (k+1) f fd ps (B1 K ps.length (iH N.length b)):=by
 refine zt.ok F S (λvs H Q E h=>h.1) λe A a s H vs Q E r j=>⟨_,i e A a s H E r,?_⟩;obtain⟨_,mu,St,ds,d,t,h1,h2,g,m⟩:=j;unfold iH at g;obtain⟨⟨l,o,q⟩,n,g⟩:=oB1.mp g;refine⟨_,mu,St,l,o,q,yf N h1,h2,n,?_⟩;cases l with
 |nx=>cases g;exact λp H' mu' x u s=>m .non H' mu' x .non s
 |rt d=>cases g;exact m
 |bk=>cases g
 |ct=>cases g
noncomputable def jH(cells:List (Str×dP)):List (Str×NameKind)->List (Str×dP)->Option (List (Str×dP))
 |[],acc=>Z acc
 |(n,k)::r,acc=>if k == .free then(cells.lookup n).bind λc=>jH cells r ((n,c)::acc)else jH cells r acc
theorem vY{env:Env}(f:Str×NameKind->List (Str×dP)->Sem (ForInStep (List (Str×dP))))(hf:∀n k d,f (n,k) d=if k == .free then(do let c<-cellOf env n;pure (.yield ((n,c)::d)))else pure (.yield d)):
  ∀(a:List (Str×NameKind)) (acc b:List (Str×dP)),jH env.cells a acc=Z b->forIn a acc f=(pure b:Sem (List (Str×dP)))
 |[],acc,b,h=>by cases h;rfl
 |(n,k)::r,acc,b,h=>by
  rw[bL,hf];unfold jH at h;split at h
  ·rename_i g;rw[ak g];obtain⟨c,e,h⟩:=oB1.mp h;have:cellOf env n=pure c:=by unfold cellOf;rw[e]
   rw[this,pure_bind,pure_bind];exact vY f hf r _ b h
  ·rename_i g;rw[aj g,pure_bind];exact vY f hf r _ b h
theorem BD{scope:d3}{env:Env}{cl:List (Str×dP)}(h:jH env.cells scope.names []=Z cl):closureFor scope env=pure cl:=by
 simp only[closureFor];rw[vY (env:=env) _ (λn k a=>by cases hk:k == NameKind.free<;>simp[hk]) scope.names [] cl h];rfl
theorem vX{a:List (Str×dP)}:∀{b:List (Str×NameKind)} {acc d:List (Str×dP)},jH a b acc=Z d->(∀x c,acc.lookup x=Z c->a.lookup x=Z c) -> ∀x c,d.lookup x=Z c->a.lookup x=Z c
 |[],acc,d,h,ha=>by cases h;exact ha
 |(n,k)::r,acc,d,h,ha=>by
  unfold jH at h;split at h
  ·obtain⟨c,e,h⟩:=oB1.mp h;refine vX h λx g q=>?_;rw[bM]at q;split at q
   ·rename_i f;cases q;rw[beq_iff_eq.mp f];exact e
   ·exact ha x g q
  ·exact vX h ha
theorem nK{b:List (Str×dP)}{x:Str}:∀{a:List (Str×NameKind)} {acc d:List (Str×dP)},jH b a acc=Z d->(a.lookup x=Z .free\/(acc.lookup x).isSome=M)->(d.lookup x).isSome=M
 |[],acc,d,h,ha=>by
  cases h;rcases ha with q|q
  ·cases q
  ·exact q
 |(n,k)::r,acc,d,h,ha=>by
  unfold jH at h;split at h
  ·obtain⟨c,e,h⟩:=oB1.mp h;refine nK h ?_;rcases ha with q|q
   ·rw[bM]at q;split at q
    ·rename_i g;right;rw[bM,g];rfl
    ·exact .inl q
   ·right;rw[bM];split
    ·rfl
    ·exact q
  ·rename_i f;refine nK h ?_;rcases ha with q|q
   ·rw[bM]at q;split at q
    ·cases q;exact absurd O f
    ·exact .inl q
   ·exact .inr q
theorem gJ{x:Str}{c:dP}:∀{a:List (Str×NameKind)} {n:Nat} {acc:List (Str×dP)},(cellsFrom n a acc).lookup x=Z c->(n<=c/\(x,c)∈cellsFrom n a [])\/acc.lookup x=Z c
 |[],_,_,h=>.inr h
 |(y,k)::r,n,acc,h=>by
  unfold cellsFrom at h ⊢;split at h
  ·rename_i b;rw [if_pos b];have app:∀ (a:List (Str×NameKind)) (m:Nat) (acc:List (Str×dP)),cellsFrom m a acc=cellsFrom m a []++acc:=by
    intro a
    induction a with
    |nil=>intro m acc;rfl
    |cons p r ih=>
     obtain⟨z,q⟩:=p;intro m acc;unfold cellsFrom;split
     ·rw[ih _ ((z,m)::acc),ih _ [(z,m)],bc];rfl
     ·exact ih m acc
   rcases gJ h with⟨h1,h2⟩|h1
   ·refine .inl ⟨by lia,?_⟩;rw[app];exact aI _ h2
   ·rw[bM]at h1;split at h1
    ·rename_i d;cases h1;refine .inl ⟨nR1 _,?_⟩;rw[app,beq_iff_eq.mp d];exact mA1 _ mS1
    ·exact .inr h1
  ·rename_i b;rw[aj b];exact gJ h
theorem pT{x:Str}{c:dP}{n:Nat}{acc:List (Str×dP)}{a:List (Str×NameKind)}(hx:a.lookup x=Z .cell)(h:(cellsFrom n a acc).lookup x=Z c):n<=c:=by
 have app:∀(a:List (Str×NameKind)) (m:Nat) (acc:List (Str×dP)),cellsFrom m a acc=cellsFrom m a []++acc:=by
  intro a
  induction a with
  |nil=>intro m acc;rfl
  |cons p r ih=>
   obtain⟨z,q⟩:=p;intro m acc;unfold cellsFrom;split
   ·rw[ih _ ((z,m)::acc),ih _ [(z,m)],bc];rfl
   ·exact ih m acc
 rw[app,List.lookup_append]at h;have q:=PySem.W.cellsFrom_some a n [] (.inl hx);obtain⟨b,e⟩:=aS.mp q;rw[e]at h;cases h;rcases gJ e with⟨h1,_⟩|h1
 ·exact h1
 ·cases h1
theorem kf {aq:Model}{A:dR}{E:dM->dN->Prop}{s:dN}{scope:d3}{globals:dP}{c:List (Str×dP)}{qual:Str}{func:Option dP}{code:dM}{env:Env}{b:dP}{Q:Env->dN->Prop}
  (d:Q {scope,locals:=s.heap.objs.size,globals,cells:=cellsFrom (s.heap.objs.size+1) scope.names c,qual,func,code:=env.code,frame:=env.frame,builtins:=env.builtins}
   {s with heap:=pushCells (s.heap.push {cls:=.type "dict",data:=.dict #[]}) scope.names}):
  dX aq A (newFunctionEnv scope globals c [] qual func code (Z env) b) Q E s:=by
 simp only[newFunctionEnv,Option.isSome_some,if_true];refine wB1 (wpAny_alloc ?_);refine wB1 (wpAny_layCells _ (λname a cells=>by cases hkc:a == NameKind.cell<;>simp[hkc]) _ _ _ _ ?_);rw[show({s with heap:=s.heap.push {cls:=.type "dict",data:=.dict #[]}}:dN).heap.objs.size=s.heap.objs.size+1 from hZ1 ..];refine wB1 ?_;rw[List.forIn_nil];exact wP1 (wP1 d)
noncomputable def cxC(X:Cx)(scope:d3)(cl:List (Str×dP))(T:List Str)(keep:List Nat)(s:dN)(H:Hp)(fp:List dP):Cx where
 prog:=X.prog
 w:=X.w
 K:=X.K
 mg:=X.mg
 base:=X.base
 A:=X.A
 N:=T++keep.map λi=>X.N.getD i (Str.ofString "")
 s₀:=s
 H₀:=H
 env:=compEnvC scope (cellsFrom (s.heap.objs.size+1) scope.names cl) s.heap.objs.size X.env
 outer:=X.stack
 stack:=X.stack
 ex:=fp
 fn:=λx=>scope.names.lookup x == Z .cell
 calm:=X.calm
 pn:=[]
 xe:=λ_ _=>False
noncomputable def sH(k:Nat)(keep:List Nat)(σ:L2.St):L2.St:=aR k Y++keep.map λi=>(σ[i]?).join
theorem jA{env:Env}{x:Str}:∀ {a:List (Str×NameKind)},
  (a.map λ(n,k)=>if(k == NameKind.free&&env.scope.kind == .function&&env.kindOf n == Z .cell)then(n,NameKind.cell)else(n,k)).lookup x =
   (a.lookup x).map λk=>if(k == NameKind.free&&env.scope.kind == .function&&env.kindOf x == Z .cell)then NameKind.cell else k
 |[]=>rfl
 |(n,k)::r=>by
  show List.lookup x ((if(k == NameKind.free&&env.scope.kind == .function&&env.kindOf n == Z .cell)=M then(n,NameKind.cell)else(n,k))::_)=_;cases hx:x == n with
  |true=>
   have e:=beq_iff_eq.mp hx;subst e;by_cases hc:(k == NameKind.free&&env.scope.kind == .function&&env.kindOf x == Z .cell)=M
   ·rw[ak hc,bM,hx,bM,hx];simp only[oP1,ak hc]
   ·rw[aj hc,bM,hx,bM,hx];simp only[oP1,aj hc]
  |false=>
   have ih:=@jA env x r;by_cases hc:(k == NameKind.free&&env.scope.kind == .function&&env.kindOf n == Z .cell)=M
   ·rw[ak hc,bM,hx,bM,hx];exact ih
   ·rw[aj hc,bM,hx,bM,hx];exact ih
structure HB (X:Cx)(scope:d3)(T:List Str)(keep:List Nat):Prop where
 kind:scope.kind = .function
 names:∀x∈scope.names,x.2 = .local->scope.names.lookup x.1=some .local
 free:∀i∈keep,∃x,X.N[i]?=some x/\scope.names.lookup x=some .free/\(X.env.kindOf x=some .cell\/X.env.kindOf x=some .free)/\(x,NameKind.cell)∉scope.names
theorem uv{X:Cx}{ag:List (dP×Obj)}{σ:L2.St}{H:Hp}{s:dN}{scope:d3}{t:List (Str×dP)}{T:List Str}{keep:List Nat}{D:List dP}(I:Inv X ag σ H s)(C:HB X scope T keep)(A:jH X.env.cells scope.names []=some t)(hf:∀b∈D,j5 X ag H b)(L:∀b∈D,∃o,s.heap.get? b=some o):
  Inv (cxC X scope t T keep s H D) [] (sH T.length keep σ) H {s with heap:=pushCells (s.heap.push {cls:=.type "dict",data:=.dict #[]}) scope.names}:=by
 have kept:∀b o,s.heap.get? b=Z o->(pushCells (s.heap.push {cls:=.type "dict",data:=.dict #[]}) scope.names).get? b=Z o:=λb o e=>pushCells_keeps _ _ b o (hP1 _ e);have B:=cellsFrom_ok scope.names (s.heap.push {cls:=.type "dict",data:=.dict #[]}) (s.heap.objs.size+1) [] ⟨λ_ _ hm=>(nomatch hm),List.Pairwise.nil⟩ (by rw[hZ1];exact nR1 _);rw[hZ1]at B;have G:=vX A (λx c q=>by cases q)
 -- a cell of the block: its own or an elder one
 have d:∀x c,(cellsFrom (s.heap.objs.size+1) scope.names t).lookup x=Z c->(s.heap.objs.size+1<=c/\(x,c)∈cellsFrom (s.heap.objs.size+1) scope.names [])\/X.env.cells.lookup x=Z c:=λx c h=>by
  rcases gJ h with h1|h1
  ·exact .inl h1
  ·exact .inr (G x c h1)
 have g:∀x c,X.env.cells.lookup x=Z c->c<s.heap.objs.size:=λx c e=>by
  obtain⟨v,z⟩:=I.cell x c e;exact z.lt
 have w:∀b∈D,b<s.heap.objs.size:=λb l=>by
  obtain⟨o,e⟩:=L b l;exact hL1 e
 have fst:∀b∈D,b∉frs X.stack:=λb l z=>by
  rcases aG.mp (I.stkSub b z)with q|q
  ·exact(hf b l).2.1 q
  ·exact(hf b l).2.2.1 q
 have kindOf:∀x,(cxC X scope t T keep s H D).env.kindOf x=(scope.names.lookup x).map λk=>if(k == NameKind.free&&X.env.scope.kind == .function&&X.env.kindOf x == Z .cell)then NameKind.cell else k:=λx=>jA
 refine⟨⟨I.ok.mod,C.kind,I.ok.glob,I.ok.blt,nR1 _,λx y c h1 h2=>?_,λx E=>?_,λx c h1 h2=>?_,I.ok.hd,I.ok.frames,.inl O,λb l=>⟨nN1 (w b l),λx c h z=>?_⟩,λb o e=>I.bs b o e,aD I.ok.bsz I.sz,λb o e l=>?_,fst,I.stack,I.stkFree⟩,
  rfl,I.bare,Un.kept kept,⟨λ_=>Y,(Heap.Ns.new s.heap (.type "dict")).keeps (pushCells_keeps _ _),λi x v h1 h2 h3=>?_⟩,λx c h=>?_,I.hok.fresh (nR1 _),λx c h=>?_,λp R=>absurd (show p∈([]:List (dP×Obj))from R) (by simp),I.hok.kept kept,?_⟩
 ·rcases d x c h1 with⟨a1,a2⟩|a1<;>rcases d y c h2 with⟨b1,b2⟩|b1
  ·exact name_of_addr B.apart a2 b2
  ·exact absurd (bN (bO a1) (g y c b1)) (aA _)
  ·exact absurd (bN (bO b1) (g x c a1)) (aA _)
  ·exact I.ok.inj x y c a1 b1
 ·have F:scope.names.lookup x=some .cell\/scope.names.lookup x=some .free:=by
   rw[kindOf x]at E;cases e:scope.names.lookup x with
   |none=>rw[e]at E;rcases E with z|z<;>cases z
   |some k=>
    rw[e]at E;simp only[oP1]at E;cases k<;>simp_all
  have:((cellsFrom (s.heap.objs.size+1) scope.names t).lookup x).isSome=M:=by
   rcases F with z|z
   ·exact PySem.W.cellsFrom_some _ _ _ (.inl z)
   ·exact PySem.W.cellsFrom_some _ _ _ (.inr (nK A (.inl z)))
  exact aS.mp this
 ·have f:scope.names.lookup x=Z .cell:=by simpa[cxC]using h1
  have:=pT f h2;exact aD (a0 _) this
 ·subst z;rcases d x c h with⟨a1,_⟩|a1
  ·exact absurd (bN (bO a1) (w c l)) (aA _)
  ·exact(hf c l).2.2.2.2.1 x c a1 O
 ·rcases(hf b l).2.2.2.1 with z|z
  ·exact I.ok.noex b o e z
  ·exact absurd (nL1 (hL1 e) (aD I.ok.bsz z)) (aA _)
 ·-- a name of the block that has a value:one of the outer text's
  have hi:T.length<=i:=by
   refine bi λhi=>?_;unfold sH at h2;rw[gL1 (by rw[lR1];exact hi),aU]at h2;split at h2<;>cases h2
  unfold sH at h2;rw[gR1 (by rw[lR1];exact hi),lR1,gP1]at h2;obtain⟨j,Q,h2⟩:=oM1.mp h2;have f:X.N.getD j (Str.ofString "")=x:=by
   have f:(T++keep.map λi=>X.N.getD i (Str.ofString ""))[i]?=Z x:=h1;rw[gR1 hi,gP1,Q]at f;exact Option.some.inj f
  obtain⟨y,P,N,ky,V⟩:=C.free j (gM1 Q);have ao:y=x:=by rw[<- f,bP,P];rfl
  subst ao;have aq:σ[j]?=Z (Z v):=by
   cases e:σ[j]? with
   |none=>rw[e]at h2;cases h2
   |some o=>rw[e]at h2;cases h2;rfl
  obtain⟨m,hn,U⟩:=I.loc;obtain⟨u,W,wq⟩:=U j y v P aq (by
   rcases ky with z|z
   ·exact .inr (.inl z)
   ·exact .inr (.inr z))
  refine⟨u,W,?_⟩;rcases wq with⟨z,_⟩|⟨_,c,ec,au⟩
  ·rcases ky with q|q<;>(rw[z]at q;cases q)
  ·right;refine⟨?_,c,?_,au.keeps kept⟩
   ·rw[kindOf,N];simp only[oP1];split
    ·exact .inl O
    ·exact .inr O
   ·obtain⟨c',S⟩:=aS.mp (PySem.W.cellsFrom_some scope.names (s.heap.objs.size+1) t (.inr (nK A (.inl N))):((cellsFrom (s.heap.objs.size+1) scope.names t).lookup y).isSome=M);have av:(cellsFrom (s.heap.objs.size+1) scope.names t).lookup y=Z c':=S;rcases d y c' av with⟨a1,a2⟩|a1
    ·-- an own cell of that name:its kind would be cell
     exfalso;have:∀(names:List (Str×NameKind)) (n:Nat),(y,c')∈cellsFrom n names []->(y,NameKind.cell)∈names:=by
      have app:∀(names:List (Str×NameKind)) (m:Nat) (acc:List (Str×dP)),cellsFrom m names acc=cellsFrom m names []++acc:=by
       intro names
       induction names with
       |nil=>intro m acc;rfl
       |cons p r ih=>
        obtain⟨z,q⟩:=p;intro m acc;unfold cellsFrom;split
        ·rw[ih _ ((z,m)::acc),ih _ [(z,m)],bc];rfl
        ·exact ih m acc
      intro names
      induction names with
      |nil=>intro n h;cases h
      |cons p r ih=>
       obtain⟨z,q⟩:=p;intro n h;unfold cellsFrom at h;split at h
       ·rename_i hq;rw[app]at h;rcases aH.mp h with h|h
        ·exact mC1 _ (ih _ h)
        ·have:(y,c')=(z,n):=by simpa using h
         cases this;have K:q=NameKind.cell:=by simpa using hq
         subst K;exact mS1
       ·exact mC1 _ (ih _ h)
     exact V (this _ _ a2)
    ·rw[ec]at a1;cases a1;exact av
 ·rcases d x c h with⟨a1,a2⟩|a1
  ·exact⟨_,(B.empty x c a2).1⟩
  ·obtain⟨v,z⟩:=I.cell x c a1;exact⟨v,z.keeps kept⟩
 ·rcases d x c h with⟨a1,a2⟩|a1
  ·exact I.hok.fresh (bO a1)
  ·exact I.freeC x c a1
 ·show(sH T.length keep σ).length=(T++keep.map λi=>X.N.getD i (Str.ofString "")).length;unfold sH;rw[lA1,lA1,lR1,lM1,lM1]
noncomputable def tw(p:Pos)(tg:Expr)(ifs:List Expr)(it:dM)(env:Env)(emit:Sem Unit)(c:Code):Sem PySem.Fin:=do
 standAt p
 match<-pyNext it with
 |none=>pure (.done .next)
 |some v=>
  letOwnedTupleGo tg it v
  assign tg env v
  let mut ok:=M
  for c in ifs do
   if ok then ok<-isTrue c env (eval c env)
  if ok then emit
  again c
noncomputable def rg(elt:Expr)(acc:dM)(env:Env):Sem Unit:=do let _<-call (.builtin "list.append") [acc,<- eval elt env]
theorem vj(elt tg iter:Expr)(ifs:List Expr)(scope:d3)(pos:Pos)(it acc:dM)(env:Env):
  compTurn (.ListComp elt [⟨tg,iter,ifs,0⟩] scope pos) 0 it acc env=tw iter.pos tg ifs it env (rg elt acc env) (.compLoop (.ListComp elt [⟨tg,iter,ifs,0⟩] scope pos) 0 it acc env):=by rfl
def pW(X:Cx)(ifs:List Expr)(t:TT):Prop:=
 ∀(ag:List (dP×Obj)) (s:dN) (σ:L2.St) (H:Hp) (Q:Bool->Hp->Prop),Inv X ag σ H s->t σ H Q ->
  dX (model X.prog X.w) X.A (forIn ifs M λc r=>if r=M then do let ok<-isTrue c X.env (eval c X.env);pure (ForInStep.yield ok)else pure (ForInStep.yield r)) (TP X ag σ Q) X.xe s
theorem Al{X:Cx}:pW X [] (fun σ H Q=>Q M H):=λag s σ H Q I h=>wpAny_tests_nil ⟨H,I,h⟩
theorem Ak{X:Cx}{c:Expr}{t:TT}(h:PT X c t):pW X [c] t:=λag s σ H Q I q=>wpAny_tests_one (h ag s σ H Q I q)
def PU(X:Cx)(m:Sem Unit)(t:TS):Prop:=
 ∀(ag:List (dP×Obj)) (s:dN) (σ:L2.St) (H:Hp) (E:jP),Inv X ag σ H s->t E σ H->dX (model X.prog X.w) X.A m (λ_ s'=>∃ σ' H',Inv X ag σ' H' s'/\E.nx σ' H') X.xe s
theorem ri{X:Cx}(hx:X.xe=fun _ _=>False)(hc:X.calm=true){elt:Expr}{c:List Comprehension}{scope:d3}{pos p:Pos}{d:Nat}{tg:Expr}{ifs:List Expr}{acc:dM}{emit:Sem Unit}{ao:It}{v:List dP}{it:dP}{P:Nat->dY->Prop}{g:TG}{ti:TT}{tb:TS}(eq:compTurn (.ListComp elt c scope pos) d (.ref it) acc X.env=tw p tg ifs (.ref it) X.env emit (.compLoop (.ListComp elt c scope pos) d (.ref it) acc X.env))(T:uW X.prog X.w X.K tg ao v it P)(hg:PG X tg g)(hi:pW X ifs ti)(he:PU X emit tb){ag:List (dP×Obj)}{s:dN}{σ:L2.St}{H:Hp}{D:jP}(I:Inv X ag σ H s)(st:P 0 s.heap)(f2:∀b∈v,j5 X ag H b)(h:∃W:Nat->Nat->L2.St->Hp->Prop,(∃m,W 0 m σ H) /\ ∀i m σ H,W i m σ H ->
   (ao.stop i H/\D.nx σ H)\/(ao.go i H /\ ∃N:L2.St->Hp->Prop,(∀a H',N a H' -> ∃av,av<m/\W (i+1) av a H') /\ ∀x H',ao.yld i H x H'->g x σ H' λy H2=>ti y H2 λb t=>if b=M then tb {D with nx:=N} y t else N y t)):
  codeAny (model X.prog X.w) X.A (.compLoop (.ListComp elt c scope pos) d (.ref it) acc X.env) (λr s'=>match r with | .ok _=>∃a H',Inv X ag a H' s'/\D.nx a H' | .error _=>False) s:=by
 obtain⟨W,⟨m0,w0⟩,K⟩:=h;have j:∀{H':Hp},(∀b∈v,H' b=Y) -> ∀b∈v,j5 X ag H' b:=λhn b l=>⟨hn b l,(f2 b l).2⟩;refine codeAny_loop O (λn s'=>∃i a H',Inv X ag a H' s'/\P i s'.heap/\(∀b∈v,H' b=Y)/\W i n a H') ?_ m0 ⟨0,σ,H,I,st,λb l=>(f2 b l).1,w0⟩;rintro n R ⟨i,k,t,I3,G,F,w3⟩;show dX _ _ ((compTurn (.ListComp elt c scope pos) d (.ref it) acc X.env).onRaise (λx=>do noteFrame x X.env;theTreesLotGoes x)) _ _ R;refine wpAny_noted ?_;rw[eq];have A:∀{α:Type} {m:Sem α} {Q:α->dN->Prop} {s:dN} {E:dM->dN->Prop},dX (model X.prog X.w) X.A m Q X.xe s->dX (model X.prog X.w) X.A m Q E s:=λh=>by
  rw[hx]at h;exact wpAny_mono h (λ_ _ q=>q) λ_ _ q=>q.elim
 unfold tw;refine wB1 (wpAny_standAt (wB1 ?_));rcases K i n k t w3 with⟨aq,qn⟩|⟨go,N,hN,step⟩
 ·refine A (fO (T.done X O O O hc i ag R k t X.xe I3 (j F) G aq) λr s4 ⟨U,I4⟩=>?_);subst U;exact wP1 ⟨k,t,I4,qn⟩
 ·refine A (fO (T.item X rfl rfl rfl hc i ag R k t X.xe I3 (j F) G go) fun r s4 ⟨u,U,h4⟩=>?_);subst U;refine wB1 (A (fO h4 fun _ au ⟨x,wq,I5,r5,y5,z,S⟩=>?_));have V:=I5.pinned (j S) (T.obj _ _ z);refine wB1 (A (fO (hg _ au k wq x u _ V r5 (step x wq y5)) fun _ s6 ⟨L,H6,I6,q6⟩=>?_));refine wB1 (A (fO (hi _ s6 L H6 _ I6 q6) fun ok B ⟨w,C,q7⟩=>?_));have again':∀ {f:L2.St} {w:Hp} {B:dN},Inv X (ag++oo v au.heap) f w B->N f w -> ∃ m,m<n /\ ∃ i a H',Inv X ag a H' B/\P i B.heap/\(∀ b∈v,H' b=none)/\W i m a H':=fun {f w B} C n7=>by
   obtain⟨av,hm,w7⟩:=hN f w n7;refine⟨av,hm,i+1,f,w,C.unpinned,T.keep _ _ _ z λb l o e=>(C.pin (b,o) (mA1 _ (mA1 _ (jd l e)))).1,λb l=>?_,w7⟩;obtain⟨o,e,d⟩:=T.obj _ _ z b l;exact(C.pin (b,o) (mA1 _ (mA1 _ (jd l e)))).2.1
  cases ok with
  |false=>exact wP1 ⟨O,again' C q7⟩
  |true=>exact wB1 (A (fO (he _ B L w _ C q7) λ_ s8 ⟨σ8,H8,I8,q8⟩=>wP1 ⟨O,again' I8 q8⟩))
def tE(p:dP)(te:TE):TS:=λD σ H=>te σ H λx H1=>∃xs,H1 p=Z (.lst xs)/\xs.length<dW/\D.nx σ (upd H1 p (.lst (xs++[x])))
theorem rY{X:Cx}{elt:Expr}{te:TE}(h:PE X elt te)(p:dP):PU X (rg elt (.ref p) X.env) (tE p te):=by
 intro ag s σ H E I q;unfold rg;refine wB1 (fO (h ag s σ H _ I q) λu e ⟨x,H1,b,a,xs,f,g,d⟩=>?_);refine wB1 (fO (qq ag e σ H1 (.ref p) [x] (.ref p) [u] (λ_ H'=>E.nx σ H') b O (.cons a .nil) ⟨p,xs,x,O,O,f,g,d⟩) λ_ j ⟨_,H2,c,_,i⟩=>?_);exact wP1 ⟨σ,H2,c,i⟩
noncomputable def En(ao:It)(g:TG)(ti:TT)(tb:TS):TS:=λD σ H=>∃W:Nat->Nat->L2.St->Hp->Prop,(∃m,W 0 m σ H) /\ ∀i m σ H,W i m σ H ->
 (ao.stop i H/\D.nx σ H)\/(ao.go i H /\ ∃N:L2.St->Hp->Prop,(∀ σ' H',N σ' H' -> ∃m',m'<m/\W (i+1) m' σ' H') /\ ∀x H',ao.yld i H x H'->g x σ H' fun σ2 H2=>ti σ2 H2 λb H3=>if b=M then tb {D with nx:=N} σ2 H3 else N σ2 H3)
theorem Un.sameBut{fs ex:List dP}{H H':Hp}{h h1 h2:dY}{c:dP}(u:Un fs ex H H' h h1)(hs:Heap.SameBut c h1 h2)(hc:h.get? c=Y):Un fs ex H H' h h2:=by
 have ne:∀{b o},h.get? b=Z o->b≠c:=λe z=>by rw[z,hc]at e;cases e
 refine⟨λb o e n d a=>(hs.2 b (ne e)).trans (u.keep b o e n d a),λb o e n d a=>?_,u.free,λb o e a=>?_,u.tups,u.frzs,u.tbls⟩
 ·obtain⟨f,q⟩:=u.slot b o e n d a;exact⟨f,(hs.2 b (ne e)).trans q⟩
 ·obtain⟨o',q⟩:=u.there b o e a;exact⟨o',(hs.2 b (ne e)).trans q⟩
def wy(k:Nat)(keep:List Nat)(wi:TI)(g:TG)(ti:TT)(tb:dP->TS):TE:=fun σ H Q=>wi σ H λao H1=>∀p,H1 p=Y ->
 En ao g ti (tb p) {nx:=λ_ H'=>Q (.ref p) H',rt:=λ_ _=>False} (sH k keep σ) (upd H1 p (.lst []))
theorem wN{X:Cx}(hc:X.calm=true){elt tg iter:Expr}{ifs:List Expr}{rest:List Comprehension}{scope:d3}{pos:Pos}{T:List Str}{keep:List Nat}{k:List (Str×dP)}{aq:TI}{g:TG}{ti:TT}{tb:dP->TS}{emit:dM->Env->Sem Unit}(eq:∀it l i,compTurn (.ListComp elt (⟨tg,iter,ifs,0⟩::rest) scope pos) 0 it l i=tw iter.pos tg ifs it i (emit l i) (.compLoop (.ListComp elt (⟨tg,iter,ifs,0⟩::rest) scope pos) 0 it l i))(C:HB X scope T keep)(t:jH X.env.cells scope.names []=some k)(hi:PI X tg iter aq)(hb:∀s H d p,PG (cxC X scope k T keep s H d) tg g/\pW (cxC X scope k T keep s H d) ifs ti/\PU (cxC X scope k T keep s H d) (emit (.ref p) (cxC X scope k T keep s H d).env) (tb p))(hs:autoParam (∀x,foldedSetIterable iter X.env x=pure x) du0):
  PE X (.ListComp elt (⟨tg,iter,ifs,0⟩::rest) scope pos) (wy T.length keep aq g ti tb):=by
 intro ag s σ H Q I h;rw[eval_ListComp];refine wpAny_comprehension_free (use:=Y) O hs (BD t) C.kind C.names ?_;refine fO (hi ag s σ H _ I h) λv s1 h1=>fO h1 λwq a h2=>?_;obtain⟨it,d,au,ao,H2,rfl,E,TT,y,G,q2⟩:=h2;refine wO1 ?_;have L:Inv X ag σ (upd H2 a.heap.objs.size (.lst [])) {a with heap:=a.heap.push {cls:=.type "list",data:=.seq ([]:List dM).toArray}}:=E.lnew (t':=a.toks) .nil (br _);have old:∀b∈d,∃o,a.heap.get? b=Z o:=λb hb=>by
  obtain⟨o,e,_⟩:=TT.obj 0 a.heap y b hb;exact⟨o,e⟩
 have D:∀b∈d,b≠a.heap.objs.size:=λb hb z=>by
  obtain⟨o,e⟩:=old b hb;have:=hL1 e;rw[z]at this;exact aA _ this
 have B:∀b∈d,j5 X ag (upd H2 a.heap.objs.size (.lst [])) b:=λb hb=>⟨by rw[d9 (D b hb)];exact(G b hb).1,(G b hb).2⟩;have V:∀b∈d,∃o,({a with heap:=a.heap.push {cls:=.type "list",data:=.seq ([]:List dM).toArray}}:dN).heap.get? b=Z o:=λb hb=>by
  obtain⟨o,e⟩:=old b hb;exact⟨o,hP1 _ e⟩
 have A:=uv L C t B V;obtain⟨W,U,he⟩:=hb {a with heap:=a.heap.push {cls:=.type "list",data:=.seq ([]:List dM).toArray}} (upd H2 a.heap.objs.size (.lst [])) d a.heap.objs.size;refine kf ?_;have S:∀b∈d,j5 (cxC X scope k T keep {a with heap:=a.heap.push {cls:=.type "list",data:=.seq ([]:List dM).toArray}} (upd H2 a.heap.objs.size (.lst [])) d) [] (upd H2 a.heap.objs.size (.lst [])) b:=λb hb=>
  ⟨(B b hb).1,(A.ok.exf b hb).1,A.ok.exfs b hb,.inl hb,(A.ok.exf b hb).2,λp N=>absurd (show p∈([]:List (dP×Obj))from N) (by simp)⟩
 have u:au 0 (pushCells ((a.heap.push {cls:=.type "list",data:=.seq ([]:List dM).toArray}).push {cls:=.type "dict",data:=.dict #[]}) scope.names):=
  TT.keep 0 a.heap _ y λb hb o e=>pushCells_keeps scope.names _ b o (hP1 _ (hP1 _ e))
 have j:=ri (X:=cxC X scope k T keep {a with heap:=a.heap.push {cls:=.type "list",data:=.seq ([]:List dM).toArray}} (upd H2 a.heap.objs.size (.lst [])) d) O hc (eq (.ref it) (.ref a.heap.objs.size) _) TT W U he A u S
  (q2 a.heap.objs.size (E.hok.fresh (nR1 _)))
 refine codeAny_mono (codeAny_compStart_list j (TT.self X.A 0 _ _ _ u j)) λr s' F=>?_;cases r with
 |error e=>exact F.elim
 |ok f=>
  obtain⟨P,H',n,av⟩:=F;obtain⟨m,R,_⟩:=id n.loc;refine⟨m,R,λh' w=>⟨.ref a.heap.objs.size,H',?_,O,av⟩⟩;refine L.call' (s':={s' with heap:=h'}) (ch:=d) n.os (Un.sameBut n.base w (Heap.get?_none_of_le (nR1 _))) (λb ob e=>?_) n.bare λb hb=>(B b hb).2.2.2 |> λz=>⟨z.1,(B b hb).2.1,z.2.1,z.2.2⟩
  refine(n.hok b ob e).stay (λc w' hc q=>(w.2 c ?_).trans q) (λ_ q=>q) λ_ _ q=>q;rintro rfl;have K:=n.free;rcases hc with rfl|hc
  ·exact nomatch K.symm.trans e
  ·exact nomatch K.symm.trans hc
section
variable{K:Fg1}{H:Hp}{mu:List dP}{S:Sto}{p:dP}{u:HO}{o:Ob}{n:Nat}
theorem Rd.ne{a:dP}{x:HO}(h:H p=Y)(q:Rd H a x):a≠p:=by
 rintro rfl;rcases q with q|⟨_,q⟩<;>(rw[h]at q;cases q)
theorem Ext.fresh(hp:H p=Y):Ext mu mu H (upd H p u) where
 pre:=bv
 old:=λa o h _=>by rw[d9 (eP h hp)];exact h
 tup:=λa xs h=>by
  have ne:=Rd.ne hp h;rcases h with h|⟨b,h⟩
  ·exact .inl (by rw[d9 ne];exact h)
  ·exact .inr ⟨b,by rw[d9 ne];exact h⟩
 frz:=λa o x h=>by rw[d9 (eP h hp)];exact h
 new:=λ_ h=>.inl h
theorem Ext.new_(hp:H p=Y):Ext mu (mu++[p]) H (upd H p u) where
 pre:=bE _ _
 old:=(Ext.fresh (mu:=mu) hp).old
 tup:=(Ext.fresh (mu:=mu) hp).tup
 frz:=(Ext.fresh (mu:=mu) hp).frz
 new:=λa h=>by
  rcases aH.mp h with h|h
  ·exact .inl h
  ·have:a=p:=by simpa using h
   subst this;exact .inr hp
theorem Sim.fresh(s:Sim K H mu S)(hp:H p=Y):Sim K (upd H p u) mu S:=
 ⟨s.len,s.nd,λk o a h1 h2=>(s.ob k o a h1 h2).keep (Ext.fresh hp) λb e=>by rw[d9 (eP e hp)];exact e⟩
theorem Sim.notin(s:Sim K H mu S)(hp:H p=Y):p∉mu:=λh=>by
 obtain⟨o,e⟩:=s.here h;rw[hp]at e;cases e
theorem kC.more{a:dP}{mu':List dP}{H':Hp}(e:Ext mu mu' H H')(h:∀o,H a=Z o->H' a=Z o):∀{o:Ob},kC K H mu a o->kC K H' mu' a o
 | .lst _,⟨vs,q,r⟩=>⟨vs,h _ q,r.ext e⟩
 | .dct _,⟨ws,q,r⟩=>⟨ws,h _ q,KR.ext e r⟩
 | .dcT _,⟨ws,q,r,l⟩=>⟨ws,h _ q,KT.ext e r,l⟩
 | .iset _,q=>⟨h _ q.1,q.2⟩
 | .dcF _,⟨ws,⟨o,u,c,b⟩,r,l⟩=>⟨ws,⟨o,u,h _ c,b⟩,KT.ext e r,l⟩
 | .tst _,⟨ws,q,r⟩=>⟨ws,h _ q,KT.ext e r⟩
theorem Sim.new(s:Sim K H mu S)(hp:H p=Y)(ho:kC K (upd H p u) (mu++[p]) p o):Sim K (upd H p u) (mu++[p]) (S++[o]):=by
 refine⟨by rw[lA1,lA1,s.len];rfl,?_,λk o' a h1 h2=>?_⟩
 ·rw[bG];refine⟨s.nd,by simp,λa g b f e=>?_⟩;have:b=p:=by simpa using f
  subst this;subst e;exact s.notin hp g
 ·by_cases d:k<S.length
  ·rw[gL1 d]at h1;rw[gL1 (by rw[s.len];exact d)]at h2;exact(s.ob k o' a h1 h2).more (Ext.new_ hp) λh e=>by rw[d9 (eP e hp)];exact e
  ·have c:k=S.length:=by
    have:=(gE1.mp h1).1;rw[lA1]at this;simp at this;lia
   subst c;rw[gR1 (nR1 _)]at h1;rw[<- s.len,gR1 (nR1 _)]at h2;simp at h1 h2;subst h1;subst h2;exact ho
theorem Ext.put{x:HO}(hp:H p=Z x)(hm:Mut (Z x))(b:p∈mu):Ext mu mu H (upd H p u) where
 pre:=bv
 old:=λa o h n=>by rw[d9 (λe=>n (by rw[e];exact b))];exact h
 tup:=λa xs h=>by
  have ne:a≠p:=by
   rintro rfl;rcases h with h|⟨_,h⟩<;>(rw[hp]at h;cases h;exact hm)
  rcases h with h|⟨c,h⟩
  ·exact .inl (by rw[d9 ne];exact h)
  ·exact .inr ⟨c,by rw[d9 ne];exact h⟩
 frz:=λa o y h=>by
  rw[d9 (λe=>?_)]
  ·exact h
  ·subst e;rw[hp]at h;cases h;exact hm
 new:=λ_ h=>.inl h
theorem Sim.put(s:Sim K H mu S){x:HO}(hn:mu[n]?=Z p)(hp:H p=Z x)(hm:Mut (Z x))(ho:kC K (upd H p u) mu p o):Sim K (upd H p u) mu (S.set n o):=by
 refine⟨by rw[aX];exact s.len,s.nd,λk o' a h1 h2=>?_⟩;by_cases b:n=k
 ·subst b;have d:n<S.length:=by
   have:=(gE1.mp h1).1
   rwa [aX]at this
  rw[aJ d]at h1;cases h1;rw[hn]at h2;cases h2;exact ho
 ·rw [gS1 b] at h1;have ne:a≠p:=fun e=>by
   subst e;obtain⟨i,c⟩:=gE1.mp hn;obtain⟨h,f⟩:=gE1.mp h2;exact b ((List.getElem_inj s.nd).mp (c.trans f.symm))
  exact(s.ob k o' a h1 h2).keep (Ext.put hp hm (gM1 hn)) λg e=>by rw[d9 ne];exact e
theorem Sim.lst(s:Sim K H mu S){ds:List D}{a:dP}(h:S[n]?=Z (.lst ds))(hn:mu[n]?=Z a):∃vs,H a=Z (.lst vs)/\eh K H mu ds vs:=s.ob n _ a h hn
theorem Sim.dcT(s:Sim K H mu S){ks:List (TK×D)}{a:dP}(h:S[n]?=Z (.dcT ks))(hn:mu[n]?=Z a):∃ws,H a=Z (.ext (gG a ws))/\KT K H mu ks ws/\ws.length<=dW:=s.ob n _ a h hn
theorem Sim.dct(s:Sim K H mu S){ks:List (Key×D)}{a:dP}(h:S[n]?=Z (.dct ks))(hn:mu[n]?=Z a):∃ws,H a=Z (.dK ws)/\KR K H mu ks ws:=s.ob n _ a h hn
theorem Sim.newL(s:Sim K H mu S){ds:List D}{vs:List V}(r:eh K H mu ds vs)(hp:H p=Y):Sim K (upd H p (.lst vs)) (mu++[p]) (S++[.lst ds]):=s.new hp ⟨vs,eF,r.ext (Ext.new_ hp)⟩
theorem Sim.putL(s:Sim K H mu S){ds:List D}{vs ws:List V}(r:eh K H mu ds vs)(hn:mu[n]?=Z p)(hp:H p=Z (.lst ws)):Sim K (upd H p (.lst vs)) mu (S.set n (.lst ds)):=
 s.put hn hp trivial ⟨vs,eF,r.ext (Ext.put hp trivial (gM1 hn))⟩
end
theorem gZ{mu:List dP}{S:Sto}(h:mu.length=S.length)(p:dP):(mu++[p])[S.length]?=Z p:=by
 rw[<- h,gR1 (nR1 _)];simp
noncomputable def fg (a:FA):FE:=λr S=>(a r S).bind λp=>if p.1.length<=dW then some (.tup p.1,p.2)else none
noncomputable def ip (a:FA):FE:=λr S=>(a r S).bind λp=>if p.1.length<=dW then some (.ref p.2.length,p.2++[.lst p.1])else none
section
variable{es:List Expr}{pos:Pos}{a:FA}
theorem Gv{x1}(h:MA X es a):ME X (.Tuple es x1 pos) (fg a):=fE (FM h) <| by
 rintro σ H Q ⟨r,mu,S,d,l,j,i,b,hc⟩;obtain⟨⟨ds,m⟩,g,b⟩:=oB1.mp b;dsimp only at b;split at b
 ·rename_i k;cases b;refine⟨r,mu,S,ds,_,j,i,g,λvs H1 mu1 x1 e f=>⟨by rw[<- e.length];exact k,λp c=>?_⟩⟩;exact hc _ _ mu1 (x1.trans (Ext.fresh c)) (.tup (lY.of eF) (e.ext (Ext.fresh c))) (f.fresh c)
 ·cases b
theorem Gz(h:MA X es a):ME X (.List es pos) (ip a):=fE (FR h) <| by
 rintro σ H Q ⟨r,mu,S,d,m,j,i,b,hc⟩;obtain⟨⟨ds,n⟩,g,b⟩:=oB1.mp b;dsimp only at b;split at b
 ·rename_i k;cases b;refine⟨r,mu,S,ds,_,j,i,g,λvs H1 mu1 l e f=>⟨by rw[<- e.length];exact k,λp c=>?_⟩⟩;exact hc _ _ (mu1++[p]) (l.trans (Ext.new_ c)) (.ref (gZ f.len p)) (f.newL e c)
 ·cases b
end
noncomputable def oK(k:Nat)(keep:List Nat)(r:Ev):Ev:=aR k Y++keep.map λi=>(r[i]?).join
noncomputable def gU:FT:=λ_ S=>Z (M,S)
theorem Ey{K:Fg1}{H:Hp}{mu:List dP}{r:Ev}{σ:L2.St}(k:Nat)(keep:List Nat)(h:fW K H mu r σ):fW K H mu (oK k keep r) (sH k keep σ):=by
 refine⟨by unfold oK sH;rw[lA1,lA1,lM1,lM1,lR1,lR1],λi d e=>?_⟩;unfold oK at e;unfold sH;by_cases hi:i<k
 ·rw[gL1 (by rw[lR1];exact hi),aU]at e;split at e<;>cases e
 ·rw [gR1 (by rw [lR1];lia),lR1,gP1] at e;rw [gR1 (by rw [lR1];lia),lR1,gP1];obtain ⟨j,f,e⟩:=oM1.mp e;rw [f];have c:r[j]? = some (some d):=by
   cases q:r[j]? with
   |none=>rw[q]at e;cases e
   |some o=>rw[q]at e;cases e;rfl
  obtain⟨v,a,b⟩:=h.val j d c;exact⟨v,by rw[oP1,a];rfl,b⟩
theorem Am{ifs:List Expr}{t t':L2.TT}(h:pW X ifs t)(i:∀ σ H Q,t' σ H Q->t σ H Q):pW X ifs t':=λag s σ H Q I q=>h ag s σ H Q I (i σ H Q q)
theorem C5:pW X [] (zS X.K gU):=Am Al fun σ H Q ⟨r,mu,S,b,e,d,c,a,hc⟩=>by cases a;exact hc H mu (.refl _ _) c
theorem C4{c:Expr}{t:FT}(h:MT X c t):pW X [c] (zS X.K t):=Ak h
open PySem.AutoSeq1 (wpAny_loadPart')
def SIt(b:Bool)(h:dY)(it a:dP)(i:Nat):Prop:=match b with
 |true=>h.IsListIter it a i
 |false=>h.IsTupleIter it a i
def SCo(b:Bool)(h:dY)(a:dP)(xs:Array dM):Prop:=match b with
 |true=>h.IsList a xs
 |false=>h.IsTuple a xs
theorem SIt.to{b:Bool}{h h':dY}{it a:dP}{i:Nat}(x:SIt b h it a i)(k:∀o,h.get? it=Z o->h'.get? it=Z o):SIt b h' it a i:=by
 cases b<;>(obtain⟨o,e,r⟩:=x;exact⟨o,k o e,r⟩)
theorem SIt.rec_{b:Bool}{h:dY}{it a:dP}{i:Nat}(x:SIt b h it a i):∃o,h.get? it=Z o /\ ∀v,o.data ≠ .cell v:=by
 cases b<;>(obtain⟨o,e,c,d⟩:=x;exact⟨o,e,λv z=>by rw[d]at z;cases z⟩)
theorem SCo.to{b:Bool}{h h':dY}{a:dP}{xs:Array dM}(x:SCo b h a xs)(k:∀o,h.get? a=Z o->h'.get? a=Z o):SCo b h' a xs:=by
 cases b<;>(obtain⟨o,e,r⟩:=x;exact⟨o,k o e,r⟩)
noncomputable def gX(b:Bool)(a:dP):Obj:=match b with
 |true=>{cls:=.type "list_iterator",data:=.fields #[.ref a,.int 0 0]}
 |false=>{cls:=.type "tuple_iterator",data:=.fields #[.ref a,.int 0 0]}
variable{prog:dQ}{w:dS}{A:dR}{E:dM->dN->Prop}{s:dN}
theorem rQ{b:Bool}{h:dY}{it a:dP}(e:h.get? it=Z (gX b a)):SIt b h it a 0:=by
 cases b<;>exact⟨_,e,O,O⟩
theorem kQ{b:Bool}{a:dP}{xs:Array dM}{Q:dM->dN->Prop}(x:SCo b s.heap a xs)(h:Q (.ref s.heap.objs.size) {s with heap:=s.heap.push (gX b a)}):dX (model prog w) A (pyIter (.ref a)) Q E s:=by
 cases b
 ·exact wpAny_pyIter_tuple x h
 ·exact wpAny_pyIter_list x h
theorem AE{it l:dP}{i:Nat}{xs:Array dM}{x:dM}{Q:dM->dN->Prop}(ti:s.heap.IsTupleIter it l i)(tl:s.heap.IsTuple l xs)(hx:xs[i]? = Z x)(e:∀h',h'.IsTupleIter it l (i+1)->Heap.SameBut it s.heap h'->Q x {s with heap:=h'}):dX (model prog w) A (Builtin.SmallTypes.nextOf (.ref it)) Q E s:=by
 obtain⟨o,b,hc,a⟩:=id ti;obtain⟨f,d,_,g,c⟩:=tl;unfold Builtin.SmallTypes.nextOf;refine wB1 (wpAny_callSpecial?_slot (name:=Str.ofString "__next__") ti.typeIs F.slot_tuple_iterator_next (wE1 F.slot_tuple_iterator_next ti.typeIs F.entry_tuple_iterator_next ?_ (F.args_tuple_iterator_next_1 _)));show dX _ _ (field (.ref it) 0 >>= _) _ _ s;refine wB1 (wpAny_field b a (x:=.ref l) O ?_);show dX _ _ (if(Value.ref l == Value.none)=M then _ else _) _ _ s;rw[aj (show¬ ((Value.ref l == Value.none)=M)from aL)];show dX _ _ (field (.ref it) 1 >>= _) _ _ s;refine wB1 (wpAny_field b a (x:=.int i 0) O ?_);show dX _ _ (seqItems? (.ref l) >>= _) _ _ s;refine wB1 (wpAny_seqItems d c ?_);simp only[Int.toNat_natCast,hx];refine wB1 (wpAny_setField b a (by simp) (wP1 ⟨x,O,wP1 (e _ ⟨_,hW1 _ b (Obj.isFreed_of_fields (Obj.data_mapFields a _)),(Obj.cls_mapFields ..).trans hc,by rw[Obj.data_mapFields a];simp[rawInt]⟩ (Heap.SameBut.update ..))⟩))
theorem sA {it l:dP}{i:Nat}{xs:Array dM}{Q:dM->dN->Prop}(g:A.handled=none)(ti:s.heap.IsTupleIter it l i)(tl:s.heap.IsTuple l xs)(hx:xs[i]? = none)
  (h:∀h' e,Heap.ExtBut it s.heap h'->(∃o,h'.get? e=Z o/\o.cls = .type "StopIteration")->E (.ref e) {s with heap:=h'}):dX (model prog w) A (Builtin.SmallTypes.nextOf (.ref it)) Q E s:=by
 obtain⟨o,d,hc,c⟩:=id ti;obtain⟨j,f,_,k,b⟩:=tl;unfold Builtin.SmallTypes.nextOf;refine wB1 (wpAny_callSpecial?_slot (name:=Str.ofString "__next__") ti.typeIs F.slot_tuple_iterator_next (wE1 F.slot_tuple_iterator_next ti.typeIs F.entry_tuple_iterator_next ?_ (F.args_tuple_iterator_next_1 _)));show dX _ _ (field (.ref it) 0 >>= _) _ _ s;refine wB1 (wpAny_field d c (x:=.ref l) O ?_);show dX _ _ (if(Value.ref l == Value.none)=M then _ else _) _ _ s;rw[aj (show¬ ((Value.ref l == Value.none)=M)from aL)];show dX _ _ (field (.ref it) 1 >>= _) _ _ s;refine wB1 (wpAny_field d c (x:=.int i 0) O ?_);show dX _ _ (seqItems? (.ref l) >>= _) _ _ s;refine wB1 (wpAny_seqItems f b ?_);simp only[Int.toNat_natCast,hx];refine wB1 (wpAny_rule (wB1 (wpAny_setField d c (by simp) ?_)));show dX _ _ (newExc (.type "StopIteration") [] >>= _) _ _ _;refine wB1 ?_;simp only[newExc,newTuple];refine wB1 (wO1 ?_ (by size_fits));refine wB1 (m:=firstArgMember _ _) (wpAny_of_eq (a:=Value.none) (by first|rfl|(simp only[firstArgMember];rfl)) ?_);refine wO1 ?_ (by size_fits);simp only[raiseNew];refine wB1 (wpAny_handled ?_)
 first|rw[show A.in1.handled=Y from g] | rw[g]
 refine wB1 (wP1 (wpAny_throw ?_));exact h _ _ (((Heap.SameBut.update ..).extBut.push _).push _) ⟨_,hS1 _ O,O⟩
theorem lg{b:Bool}{it l:dP}{i:Nat}{xs:Array dM}{x:dM}{Q:dM->dN->Prop}(ti:SIt b s.heap it l i)(tl:SCo b s.heap l xs)(hx:xs[i]? = Z x)(a:∀h',SIt b h' it l (i+1)->Heap.SameBut it s.heap h'->Q x {s with heap:=h'}):dX (model prog w) A (Builtin.SmallTypes.nextOf (.ref it)) Q E s:=by
 cases b
 ·exact AE ti tl hx a
 ·exact wpAny_nextOf_list_item ti tl hx a
theorem ja {b:Bool}{it l:dP}{i:Nat}{xs:Array dM}{Q:dM->dN->Prop}(c:A.handled=none)(ti:SIt b s.heap it l i)(tl:SCo b s.heap l xs)(hx:xs[i]? = none)
  (a:∀h' e,Heap.ExtBut it s.heap h'->(∃o,h'.get? e=Z o/\o.cls = .type "StopIteration")->E (.ref e) {s with heap:=h'}):dX (model prog w) A (Builtin.SmallTypes.nextOf (.ref it)) Q E s:=by
 cases b
 ·exact sA c ti tl hx a
 ·exact wpAny_nextOf_list_end c ti tl hx a
theorem zp9{γ:Type}{Q:γ->dN->Prop}{x:γ}(h:∀y,Q y s):dX (model prog w) A (pure x:Sem γ) Q E s:=wP1 (h x)
theorem Bt{b:Bool}(l:dP)(xs:Array dM):
  Meets (Builtin.«enumerate.__new__» ⟨[.type "enumerate",.ref l],[]⟩) (λ_ R s=>SCo b s.heap l xs /\
   R (.ok (.ret (.ref (s.heap.push (gX b l)).objs.size))) {s with heap:=(s.heap.push (gX b l)).push {cls:=.type "enumerate",data:=.fields #[.none,.bool J,.ref s.heap.objs.size,rawInt 0,.none,.none]}}):=
 .of_wp λprog w A R s h=>by
  obtain⟨f,g,d,tk,m⟩:=s;obtain⟨k,h⟩:=h;have i:=sub_enumerate
  have j:SCo b (Shared.heap ⟨f,g,d,tk,m⟩) l xs:=k;obtain⟨n,a⟩:∃o,f.get? l=some o:=by cases b<;>(obtain⟨o,e,_⟩:=k;exact⟨o,e⟩)
  wp_walk using wpAny_loadPart' a
  refine wpAny_stack_any λst=>zp9 λbb=>?_;cases bb<;>(wp_walk using wpAny_loadPart' a,kQ j;exact⟨_,O,h⟩)
theorem yV{b:Bool}{l:dP}{xs:Array dM}{Q:dM->dN->Prop}(f:SCo b s.heap l xs)(h:∀h',IsEnum h' (s.heap.objs.size+1) s.heap.objs.size 0 .none->SIt b h' s.heap.objs.size l 0->h'.objs.size=s.heap.objs.size+2->(∀b o,s.heap.get? b=some o->h'.get? b=some o)->Q (.ref (s.heap.objs.size+1)) {s with heap:=h'}):
  dX (model prog w) A (call (.type "enumerate") [.ref l]) Q E s:=by
 refine callType_new F.called_enumerate (by decide) (F.typeCall_enumerate_1 _) (F.newCall_enumerate_1 _) (λa=>F.args_object_init_2 a _) F.entry_enumerate_new (Bt (b:=b) l xs) ⟨f,?_⟩;have d:(s.heap.push (gX b l)).objs.size=s.heap.objs.size+1:=hZ1 ..
 show _/\_;rw[d];have e:IsEnum ((s.heap.push (gX b l)).push {cls:=.type "enumerate",data:=.fields #[.none,.bool J,.ref s.heap.objs.size,rawInt 0,.none,.none]}) (s.heap.objs.size+1) s.heap.objs.size 0 .none:=by
  have q:=hS1 (s.heap.push (gX b l)) (o:={cls:=.type "enumerate",data:=.fields #[.none,.bool J,.ref s.heap.objs.size,rawInt 0,.none,.none]}) O;rw[d]at q;exact q
 have hi:(s.heap.push (gX b l)).get? s.heap.objs.size=Z (gX b l):=hS1 _ (by cases b<;>rfl);refine⟨⟨_,e,O⟩,h _ e (rQ (hP1 _ hi)) (by rw[hZ1,d]) λc o x=>hP1 _ (hP1 _ x)⟩
theorem yU {b:Bool}{e it l:dP}{i:Nat}{xs:Array dM}{x old:dM}{Q:Option dM->dN->Prop}(he:IsEnum s.heap e it i old)(ti:SIt b s.heap it l i)(tl:SCo b s.heap l xs)(hx:xs[i]? = some x)(j:e≠it)
  (U:∀h',IsEnumOut h' e it ((i:Int)+1) x s.heap.objs.size->SIt b h' it l (i+1)->h'.get? s.heap.objs.size=Z {cls:=.type "tuple",data:=.seq #[.int i s.toks,x]}->h'.objs.size=s.heap.objs.size+1 ->
   (∀b o,b≠e->b≠it->s.heap.get? b=Z o->h'.get? b=Z o)->Q (Z (.ref s.heap.objs.size)) {s with heap:=h',toks:=s.toks+1}):dX (model prog w) A (pyNext (.ref e)) Q E s:=by
 have T:s.TypeIs (.ref e) "enumerate":=⟨_,he,O⟩;unfold pyNext;refine wB1 (wpAny_attempt (wpAny_callSpecial?_slot (name:=Str.ofString "__next__") T F.slot_enumerate_next (wE1 F.slot_enumerate_next T F.entry_enumerate_next ?_ (F.args_enumerate_next_1 _))));obtain⟨h,g,d,tk,t⟩:=s;show dX _ _ (field (.ref e) 2 >>= _) _ _ _;refine wB1 (wpAny_field he O (x:=.ref it) O ?_);refine wB1 (lg ti tl hx λh1 H G=>?_);replace G:Heap.SameBut it h h1:=G;have m:IsEnum h1 e it i old:=(G.2 e j).trans he;show dX _ _ (field (.ref e) 3 >>= _) _ _ ⟨h1,g,d,tk,t⟩;refine wB1 (wpAny_field m O (x:=rawInt i) O ?_);show dX _ _ (field (.ref e) 4 >>= _) _ _ ⟨h1,g,d,tk,t⟩;refine wB1 (wpAny_field m O (x:=.none) O ?_);show dX _ _ (mkInt i >>= _) _ _ ⟨h1,g,d,tk,t⟩;refine wB1 (wpAny_mkInt ?_);show dX _ _ (setField (.ref e) 3 (rawInt ((i:Int)+1)) >>= _) _ _ ⟨h1,g,d,tk+1,t⟩;refine wB1 (wS1 m (by simp) λh2 n D=>?_);replace D:Heap.SameBut e h1 h2:=D;replace n:IsEnum h2 e it ((i:Int)+1) old:=n;show dX _ _ (setField (.ref e) 4 .none >>= _) _ _ ⟨h2,g,d,tk+1,t⟩;refine wB1 (wS1 n (by simp) λh3 p C=>?_);replace C:Heap.SameBut e h2 h3:=C;replace p:IsEnum h3 e it ((i:Int)+1) old:=p;show dX _ _ (newTuple [.int i tk,x] >>= _) _ _ ⟨h3,g,d,tk+1,t⟩;refine wB1 (wpAny_newTuple ?_);have r:IsEnum (h3.push {cls:=.type "tuple",data:=.seq #[.int i tk,x]}) e it ((i:Int)+1) old:=hP1 _ p;generalize a:h3.push {cls:=.type "tuple",data:=.seq #[.int i tk,x]}=h4 at r;have k:h3.objs.size=h.objs.size:=by rw[C.1,D.1,G.1]
 have aq:e<h.objs.size:=hL1 he;have S:h4.get? h.objs.size=Z {cls:=.type "tuple",data:=.seq #[.int i tk,x]}:=by rw[<- a,<- k];exact hS1 _ O
 have av:h4.objs.size=h.objs.size+1:=by rw[<- a,hZ1,k]
 have R:∀b o,b≠e->b≠it->h.get? b=Z o->h4.get? b=Z o:=λb o f B L=>by
  rw[<- a];exact hP1 _ (C.extBut b o f (D.extBut b o f (G.extBut b o B L)))
 have P:SIt b h4 it l (i+1):=H.to λo q=>by rw[<- a];exact hP1 _ (C.extBut _ _ (Ne.symm j) (D.extBut _ _ (Ne.symm j) q))
 show dX _ _ (Builtin.SmallTypes.ownedTupleIsFree (.ref e) >>= _) _ _ ⟨h4,g,d,tk+1,t⟩;rw[k];clear a p C n D m G H k h3 h2 h1;refine wB1 ?_;unfold Builtin.SmallTypes.ownedTupleIsFree;refine wB1 (wpAny_field r O (x:=.none) O (wP1 ?_));simp only[if_true];refine wB1 (wpAny_rule ?_);refine wB1 (wpAny_field r O (x:=old) O ?_);refine wB1 (wS1 r (by simp) λh5 u I=>?_);replace I:Heap.SameBut e h4 h5:=I;replace u:IsEnum h5 e it ((i:Int)+1) x:=u;show dX _ _ (Builtin.SmallTypes.ownedTupleHandOut (.ref e) (.ref h.objs.size) >>= _) _ _ ⟨h5,g,d,tk+1,t⟩;refine wB1 ?_;unfold Builtin.SmallTypes.ownedTupleHandOut;refine wB1 (wS1 u (by simp) λh6 y ao=>?_);replace ao:Heap.SameBut e h5 h6:=ao;replace y:IsEnumOut h6 e it ((i:Int)+1) x h.objs.size:=y;refine wS1 y (by simp) λh7 v K=>?_;replace K:Heap.SameBut e h6 h7:=K;replace v:IsEnumOut h7 e it ((i:Int)+1) x h.objs.size:=v;have N:∀c o,c≠e->h4.get? c=Z o->h7.get? c=Z o:=λc o z q=>K.extBut _ _ z (ao.extBut _ _ z (I.extBut _ _ z q));refine wB1 (wpAny_letGo (wP1 ⟨_,O,wP1 (U h7 v (P.to λo q=>N _ o (Ne.symm j) q) (N _ _ (nG1 aq) S) (by rw[K.1,ao.1,I.1,av]) λc o f B L=>N c o f (R c o f B L))⟩))
theorem Bu{b:Bool}{e it l:dP}{i:Nat}{xs:Array dM}{old:dM}{Q:Option dM->dN->Prop}(f:A.handled=Y)(he:IsEnum s.heap e it i old)(ti:SIt b s.heap it l i)(tl:SCo b s.heap l xs)(hx:xs[i]? = Y)(g:∀h',Heap.ExtBut it s.heap h'->Q Y {s with heap:=h'}):dX (model prog w) A (pyNext (.ref e)) Q E s:=by
 have d:s.TypeIs (.ref e) "enumerate":=⟨_,he,O⟩;unfold pyNext;refine wB1 (wpAny_attempt (wpAny_callSpecial?_slot (name:=Str.ofString "__next__") d F.slot_enumerate_next (wE1 F.slot_enumerate_next d F.entry_enumerate_next ?_ (F.args_enumerate_next_1 _))));show dX _ _ (field (.ref e) 2 >>= _) _ _ _;refine wB1 (wpAny_field he O (x:=.ref it) O ?_);refine wB1 (ja f ti tl hx λh' x a c=>?_);obtain⟨o,h,hc⟩:=c;refine wB1 (wpAny_isInstance (T:="StopIteration") (b:=M) ⟨o,h,hc⟩ isSubtype_stop ?_);exact wP1 (g _ a)
theorem ra{e it:dP}{i:Int}{old:dM}{Q:dM->dN->Prop}(he:IsEnum s.heap e it i old)(h:Q (.ref e) s):dX (model prog w) A (pyIter (.ref e)) Q E s:=by
 have a:s.TypeIs (.ref e) "enumerate":=⟨_,he,O⟩;refine wpAny_pyIter_slot a F.slot_enumerate_iter (wE1 F.slot_enumerate_iter a F.entry_enumerate_iter ?_ (F.args_enumerate_iter_1 _));show dX _ _ (ret (.ref e)) _ _ s;exact wP1 ⟨_,O,"enumerate",_,a,F.slot_enumerate_next.lookup,h⟩
open PySem.AutoSeq1 (wpAny_loadPart')
structure KN (z ti to i1 i2:dP):Prop where
 a1:ti≠z
 a2:to≠z
 a3:i1≠z
 a4:i2≠z
 a5:ti≠to
 a6:ti≠i1
 a7:ti≠i2
 a8:to≠i1
 a9:to≠i2
 a10:i1≠i2
section
variable{b1 b2:Bool}
theorem SCo.ne{b:Bool}{h:dY}{a c:dP}{xs:Array dM}{o:Obj}(x:SCo b h a xs)(e:h.get? c=Z o)(n:∀ys k,o.data ≠ .seq ys k):a≠c:=by
 rintro rfl;cases b<;>(obtain⟨o',f,g,k,d⟩:=x;rw[e]at f;cases f;exact n _ _ d)
theorem SCo.ne_it{b f:Bool}{h:dY}{a it l:dP}{xs:Array dM}{i:Nat}(x:SCo b h a xs)(y:SIt f h it l i):a≠it:=by
 cases f<;>(obtain⟨o,e,c,d⟩:=y;exact x.ne e λys k z=>by rw[d]at z;cases z)
theorem zv{z ti to i1 l B n:dP}{R N:Nat}{xs ys:Array dM}{x y a b:dM}{Q:Option dM->dN->Prop}(D:KN z ti to i1 l)(j:IsZip s.heap z ti to .none)(hti:IsPair s.heap ti (.ref i1) (.ref l))(W:IsPair s.heap to a b)(n1:B≠to)(n2:n≠to)(h1:SIt b1 s.heap i1 B R)(h2:SIt b2 s.heap l n N)(c1:SCo b1 s.heap B xs)(X:SCo b2 s.heap n ys)(hx:xs[R]?=some x)(hy:ys[N]?=some y)(hQ:∀h',IsZip h' z ti to (rawInt s.heap.objs.size)->IsPair h' to x y->SIt b1 h' i1 B (R+1)->SIt b2 h' l n (N+1)->IsPair h' s.heap.objs.size x y->h'.objs.size=s.heap.objs.size+1 ->
   (∀c o,c≠z->c≠to->c≠i1->c≠l->s.heap.get? c=Z o->h'.get? c=Z o)->Q (Z (.ref s.heap.objs.size)) {s with heap:=h'}):dX (model prog w) A (pyNext (.ref z)) Q E s:=by
 have hT:s.TypeIs (.ref z) "zip":=⟨_,j,O⟩;have wq:B≠z:=c1.ne j λ_ _ q=>by cases q
 have l2z:n≠z:=X.ne j λ_ _ q=>by cases q
 have K:n≠i1:=X.ne_it h1;unfold pyNext;refine wB1 (wpAny_attempt (wpAny_callSpecial?_slot (name:=Str.ofString "__next__") hT F.slot_zip_next (wE1 F.slot_zip_next hT F.entry_zip_next ?_ (F.args_zip_next_1 _))));show dX _ _ (field (.ref z) 2 >>= _) _ _ _;refine wB1 (wpAny_field j O (x:=.bool J) O ?_);show dX _ _ (field (.ref z) 3 >>= _) _ _ _;refine wB1 (wpAny_field j O (x:=.ref ti) O ?_);refine wB1 (wpAny_seqItems hti O ?_);show dX _ _ (Builtin.SmallTypes.ownedTupleIsFree (.ref z) >>= _) _ _ _;refine wB1 ?_;unfold Builtin.SmallTypes.ownedTupleIsFree;refine wB1 (wpAny_field j O (x:=.none) O (wP1 ?_));simp only[if_true];refine wB1 (wpAny_rule ?_);refine wB1 (wpAny_field j O (x:=.ref to) O ?_);refine wB1 (wS1 j (by simp) λg1 m t=>?_);replace m:IsZip g1 z ti to .ellipsis:=m;refine wB1 ?_;simp only[bQ,List.zipIdx_nil,bL,List.forIn_nil];refine wB1 (wB1 (wpAny_onRaise ?_));show dX _ _ (Builtin.SmallTypes.nextOf (.ref i1) >>= _) _ _ _
 refine wB1 (lg (h1.to λo q=>t.extBut _ _ D.a3 q) (c1.to λo q=>t.extBut _ _ wq q) hx λg2 U v=>wP1 ?_);have k:IsPair g2 to a b:=v.extBut _ _ D.a8 (t.extBut _ _ D.a2 W);refine wB1 (wpAny_seqItems k O ?_);refine wB1 (wpAny_updateSeq_pair k λg3 f u=>?_);replace f:IsPair g3 to x b:=f;refine wB1 (wpAny_letGo (wP1 ?_));refine wB1 (wB1 (wpAny_onRaise ?_));show dX _ _ (Builtin.SmallTypes.nextOf (.ref l) >>= _) _ _ _
 refine wB1 (lg (h2.to λo q=>u.extBut _ _ D.a9.symm (v.extBut _ _ D.a10.symm (t.extBut _ _ D.a4 q))) (X.to λo q=>u.extBut _ _ n2 (v.extBut _ _ K (t.extBut _ _ l2z q))) hy λg4 V H=>wP1 ?_);have i:IsPair g4 to x b:=H.extBut _ _ D.a9 f;refine wB1 (wpAny_seqItems i O ?_);refine wB1 (wpAny_updateSeq_pair i λd e C=>?_);replace e:IsPair d to x y:=e;refine wB1 (wpAny_letGo (wP1 (wP1 ?_)));refine wB1 (wpAny_seqItems e O ?_);refine wB1 (wpAny_newTuple ?_);have G:d.objs.size=s.heap.objs.size:=by rw[C.1,H.1,u.1,v.1,t.1]
 have I:IsZip d z ti to .ellipsis:=C.extBut _ _ D.a2.symm (H.extBut _ _ D.a4.symm (u.extBut _ _ D.a2.symm (v.extBut _ _ D.a3.symm m)));have hk5:∀c o,c≠z->c≠to->c≠i1->c≠l->s.heap.get? c=Z o->d.get? c=Z o:=λc o p P q3 q4 q=>C.extBut _ _ P (H.extBut _ _ q4 (u.extBut _ _ P (v.extBut _ _ q3 (t.extBut _ _ p q))));have h15:SIt b1 d i1 B (R+1):=U.to λo q=>C.extBut _ _ D.a8.symm (H.extBut _ _ D.a10 (u.extBut _ _ D.a8.symm q));have T:SIt b2 d l n (N+1):=V.to λo q=>C.extBut _ _ D.a9.symm q;have h:z<d.objs.size:=hL1 I;show dX _ _ (Builtin.SmallTypes.ownedTupleHandOut (.ref z) (.ref d.objs.size) >>= _) _ _ _;refine wB1 ?_;unfold Builtin.SmallTypes.ownedTupleHandOut;have S:IsZip (d.push {cls:=.type "tuple",data:=.seq #[x,y]}) z ti to .ellipsis:=hP1 _ I;refine wB1 (wS1 S (by simp) λg7 r au=>?_);replace r:IsZip g7 z ti to (rawInt d.objs.size):=r;refine wS1 r (by simp) λao g s8=>?_;replace g:IsZip ao z ti to (rawInt d.objs.size):=g;have av:∀c o,c≠z->d.get? c=Z o->ao.get? c=Z o:=λc o p q=>s8.extBut _ _ p (au.extBut _ _ p (hP1 _ q));have aq:IsPair ao d.objs.size x y:=s8.extBut _ _ (nG1 h) (au.extBut _ _ (nG1 h) (hS1 _ O));have L:ao.objs.size=d.objs.size+1:=by rw[s8.1,au.1,hZ1]
 rw[G]at g aq L;refine wP1 ⟨_,O,wP1 ?_⟩;show Q (Z (.ref d.objs.size)) _;rw[G]
 exact hQ ao g (av _ _ D.a2 e) (h15.to λo q=>av _ o D.a3 q) (T.to λo q=>av _ o D.a4 q) aq L λc o p P q3 q4 q=>av c o p (hk5 c o p P q3 q4 q)
theorem B5{z ti to i1 v G r:dP}{N H:Nat}{xs ys:Array dM}{a b:dM}{Q:Option dM->dN->Prop}(X:A.handled=Y)(D:KN z ti to i1 v)(j:IsZip s.heap z ti to .none)(aq:IsPair s.heap ti (.ref i1) (.ref v))(I:IsPair s.heap to a b)(n1:G≠to)(n2:r≠to)(h1:SIt b1 s.heap i1 G N)(h2:SIt b2 s.heap v r H)(L:SCo b1 s.heap G xs)(ao:SCo b2 s.heap r ys)(u:xs[N]?=Y\/ys[H]?=Y)(au:∀h',(∀c o,c≠z->c≠to->c≠i1->c≠v->s.heap.get? c=Z o->h'.get? c=Z o)->Q Y {s with heap:=h'}):dX (model prog w) A (pyNext (.ref z)) Q E s:=by
 have wq:s.TypeIs (.ref z) "zip":=⟨_,j,O⟩;have y:G≠z:=L.ne j λ_ _ q=>by cases q
 have P:r≠z:=ao.ne j λ_ _ q=>by cases q
 have C:r≠i1:=ao.ne_it h1;unfold pyNext;refine wB1 (wpAny_attempt (wpAny_callSpecial?_slot (name:=Str.ofString "__next__") wq F.slot_zip_next (wE1 F.slot_zip_next wq F.entry_zip_next ?_ (F.args_zip_next_1 _))));show dX _ _ (field (.ref z) 2 >>= _) _ _ _;refine wB1 (wpAny_field j O (x:=.bool J) O ?_);show dX _ _ (field (.ref z) 3 >>= _) _ _ _;refine wB1 (wpAny_field j O (x:=.ref ti) O ?_);refine wB1 (wpAny_seqItems aq O ?_);show dX _ _ (Builtin.SmallTypes.ownedTupleIsFree (.ref z) >>= _) _ _ _;refine wB1 ?_;unfold Builtin.SmallTypes.ownedTupleIsFree;refine wB1 (wpAny_field j O (x:=.none) O (wP1 ?_));simp only[if_true];refine wB1 (wpAny_rule ?_);refine wB1 (wpAny_field j O (x:=.ref to) O ?_);refine wB1 (wS1 j (by simp) λg1 g i=>?_);replace g:IsZip g1 z ti to .ellipsis:=g;refine wB1 ?_;simp only[bQ,List.zipIdx_nil,bL,List.forIn_nil];refine wB1 (wB1 (wpAny_onRaise ?_));show dX _ _ (Builtin.SmallTypes.nextOf (.ref i1) >>= _) _ _ _
 cases hx:xs[N]? with
 |none=>
  refine wB1 (ja X (h1.to λo q=>i.extBut _ _ D.a3 q) (L.to λo q=>i.extBut _ _ y q) hx λav e l R=>?_);obtain⟨K,d,f⟩:=R;have B:IsZip av z ti to .ellipsis:=l _ _ D.a3.symm g;have n:e≠z:=λq=>by subst q;rw[B]at d;cases d;simp at f
  refine wS1 B (by simp) λg3 _ m=>?_;refine wB1 (wpAny_isInstance (T:="StopIteration") (b:=M) ⟨K,m.extBut _ _ n d,f⟩ isSubtype_stop ?_);exact wP1 (au g3 λc o t _ S _ q=>m.extBut _ _ t (l _ _ S (i.extBut _ _ t q)))
 |some x=>
  have hy:ys[H]?=Y:=by rcases u with h|h;rw[hx]at h;cases h;exact h
  refine wB1 (lg (h1.to λo q=>i.extBut _ _ D.a3 q) (L.to λo q=>i.extBut _ _ y q) hx λav h12 l=>wP1 ?_);have k:IsPair av to a b:=l.extBut _ _ D.a8 (i.extBut _ _ D.a2 I);refine wB1 (wpAny_seqItems k O ?_);refine wB1 (wpAny_updateSeq_pair k λg3 W m=>?_);refine wB1 (wpAny_letGo (wP1 ?_));refine wB1 (wB1 (wpAny_onRaise ?_));show dX _ _ (Builtin.SmallTypes.nextOf (.ref v) >>= _) _ _ _
  refine wB1 (ja X (h2.to λo q=>m.extBut _ _ D.a9.symm (l.extBut _ _ D.a10.symm (i.extBut _ _ D.a4 q))) (ao.to λo q=>m.extBut _ _ n2 (l.extBut _ _ C (i.extBut _ _ P q))) hy λg4 e V R=>?_);obtain⟨K,d,f⟩:=R;have p:IsZip g4 z ti to .ellipsis:=V _ _ D.a4.symm (m.extBut _ _ D.a2.symm (l.extBut _ _ D.a3.symm g));have n:e≠z:=λq=>by subst q;rw[p]at d;cases d;simp at f
  refine wS1 p (by simp) λg5 _ U=>?_;refine wB1 (wpAny_isInstance (T:="StopIteration") (b:=M) ⟨K,U.extBut _ _ n d,f⟩ isSubtype_stop ?_);exact wP1 (au g5 λc o t q2 S q4 q=>U.extBut _ _ t (V _ _ q4 (m.extBut _ _ q2 (l.extBut _ _ S (i.extBut _ _ t q)))))
def zH(b1 b2:Bool)(h:dY)(l1 l2:dP):dY:=((((h.push (gX b1 l1)).push (gX b2 l2)).push {cls:=.type "tuple",data:=.seq #[.ref h.objs.size,.ref (h.objs.size+1)]}).push {cls:=.type "tuple",data:=.seq #[.none,.none]}).push
 {cls:=.type "zip",data:=.fields #[.none,.bool J,.bool J,.ref (h.objs.size+2),.ref (h.objs.size+3)]}
theorem B4(a c:dP)(xs ys:Array dM):Meets (Builtin.«zip.__new__» ⟨[.type "zip",.ref a,.ref c],[]⟩) (λ_ R s=>SCo b1 s.heap a xs/\SCo b2 s.heap c ys/\R (.ok (.ret (.ref (s.heap.objs.size+4)))) {s with heap:=zH b1 b2 s.heap a c}):=
 .of_wp λprog w A R s h=>by
  obtain⟨b,g,d,tk,e⟩:=s;obtain⟨k,i,h⟩:=h;have f:=sub_zip
  have l:SCo b1 (Shared.heap ⟨b,g,d,tk,e⟩) a xs:=k;have j:SCo b2 (Shared.heap ⟨b.push (gX b1 a),g,d,tk,e⟩) c ys:=i.to λo q=>hP1 _ q
  wp_walk using kQ l,kQ j
  refine⟨_,O,?_⟩;have m:(b.push (gX b1 a)).objs.size=b.objs.size+1:=hZ1 ..
  simp only[hZ1,zH]at h ⊢;exact h
theorem zw{d b:dP}{xs ys:Array dM}{Q:dM->dN->Prop}(p:SCo b1 s.heap d xs)(k:SCo b2 s.heap b ys)(h:∀h',IsZip h' (s.heap.objs.size+4) (s.heap.objs.size+2) (s.heap.objs.size+3) .none->IsPair h' (s.heap.objs.size+2) (.ref s.heap.objs.size) (.ref (s.heap.objs.size+1))->IsPair h' (s.heap.objs.size+3) .none .none ->
   SIt b1 h' s.heap.objs.size d 0->SIt b2 h' (s.heap.objs.size+1) b 0->h'.objs.size=s.heap.objs.size+5->(∀c o,s.heap.get? c=Z o->h'.get? c=Z o)->Q (.ref (s.heap.objs.size+4)) {s with heap:=h'}):
  dX (model prog w) A (call (.type "zip") [.ref d,.ref b]) Q E s:=by
 refine callType_new F.called_zip (by decide) (F.typeCall_zip_2 _ _) (F.newCall_zip_2 _ _) (λg=>F.args_object_init_3 g _ _) F.entry_zip_new (B4 (b1:=b1) (b2:=b2) d b xs ys) ⟨p,k,?_⟩;have a:∀{h:dY} {o:Obj} {c:dP} {u:Obj},h.get? c=Z u->(h.push o).get? c=Z u:=λq=>hP1 _ q;have at_:∀{h:dY} {o:Obj} {n:Nat},h.objs.size=n->o.isFreed=J->(h.push o).get? n=Z o:=λe f=>by rw[<- e];exact hS1 _ f
 have r:(gX b1 d).isFreed=J:=by cases b1<;>rfl
 have v:(gX b2 b).isFreed=J:=by cases b2<;>rfl
 have j:(zH b1 b2 s.heap d b).get? s.heap.objs.size=Z (gX b1 d):=a (a (a (a (at_ O r))));have l:(zH b1 b2 s.heap d b).get? (s.heap.objs.size+1)=Z (gX b2 b):=a (a (a (at_ (by simp only[hZ1]) v)));have m:IsPair (zH b1 b2 s.heap d b) (s.heap.objs.size+2) (.ref s.heap.objs.size) (.ref (s.heap.objs.size+1)):=a (a (at_ (by simp only[hZ1]) O));have t:IsPair (zH b1 b2 s.heap d b) (s.heap.objs.size+3) .none .none:=a (at_ (by simp only[hZ1]) O);have i:IsZip (zH b1 b2 s.heap d b) (s.heap.objs.size+4) (s.heap.objs.size+2) (s.heap.objs.size+3) .none:=at_ (by simp only[hZ1]) O;exact⟨⟨_,i,O⟩,h _ i m t (rQ j) (rQ l) (by simp only[zH,hZ1]) λc o q=>a (a (a (a (a q))))⟩
end
def s3(K:Fg1)(b:Bool)(H:Hp)(a:dP)(xs:List V):Prop:=match b with
 |true=>nL K H a xs
 |false=>lY K H a xs
section
variable{ag:List (dP×Obj)}{σ:L2.St}{H:Hp}{s:dN}
theorem fq{b:Bool}{a:dP}{xs:List V}(I:Inv X ag σ H s)(h:s3 X.K b H a xs):∃c:List dM,eI xs c/\SCo b s.heap a c.toArray/\xs.length<=dW:=by
 cases b
 ·obtain⟨c,r,p,z⟩:=I.tuple h;exact⟨c,r,p,z⟩
 ·obtain⟨c,r,p,z⟩:=I.list h;exact⟨c,r,p.isList,z⟩
theorem nE{b:Bool}{a:dP}{xs ys:List V}(I:Inv X ag σ H s)(h:s3 X.K b H a xs)(h':s3 X.K b H a ys):xs=ys:=by
 cases b
 ·exact I.tuple_inj h h'
 ·exact I.list_inj h h'
theorem rO{b:Bool}{a c:dP}{xs:List V}(I:Inv X ag σ H s)(h:s3 X.K b H a xs)(f:j5 X ag H c):a≠c:=by
 rintro rfl;have d:∀{o},X.K.lookup a=Z o->False:=λ{o} e=>by
  have g:=I.ok.mod.kin _ _ e;rcases f.2.2.2.1 with z|z
  ·exact I.ok.noex _ _ g z
  ·exact absurd (nL1 (hL1 g) (aD I.ok.bsz z)) (aA _)
 cases b
 ·rcases h with(h|⟨_,h⟩)|⟨_,_,_,h,_⟩
  ·rw[f.1]at h;cases h
  ·rw[f.1]at h;cases h
  ·exact d h
 ·rcases h with(h|⟨_,h⟩)|⟨_,_,_,h,_⟩
  ·rw[f.1]at h;cases h
  ·rw[f.1]at h;cases h
  ·exact d h
theorem uu(I:Inv X ag σ H s){fp:List dP}(hf:∀ b∈fp,j5 X ag H b){h':dY}{p:dP}{xs:List V}{its:List dM}{t':Nat}(hp:s.heap.objs.size<=p)(f:∀ b o,b∉fp->s.heap.get? b=Z o->h'.get? b=Z o)(j:IsTup h' p its.toArray)(t:eI xs its)(l:xs.length<=dW):Inv X ag σ (upd H p (.tup xs)) {s with heap:=h',toks:=t'}:=by
 have d:H p=Y:=I.hok.fresh hp;have g:∀{b o},s.heap.get? b=Z o->b≠p:=λe=>nN1 (nL1 (hL1 e) hp);have h:∀{b u},H b=Z u->b∉fp:=λe z=>by rw[(hf _ z).1]at e;cases e
 refine I.step (g':=s.gens) (d':=s.drawn) (ch:=fp) (λb a=>⟨(hf b a).2.2.2.1,(hf b a).2.1,(hf b a).2.2.2.2.1,(hf b a).2.2.2.2.2⟩) (λb o _ _ hc e _=>f b o hc e) (λb o _ _ hc e _=>⟨o.slots,f b o hc e⟩) (λb o _ e n=>?_)
  (λb o hc e=>⟨o,f b o hc e⟩) (λb ys e=>?_) (λb o u e=>?_) (λb ps e=>⟨#[],?_⟩) (λm i=>?_) (λb u e=>?_) I.bare
 ·rw[d9 (g e)];exact n
 ·rw[d9 (eP e d)];exact e
 ·rw[d9 (eP e d)];exact e
 ·rw[d9 (eP e d),e];simp
 ·obtain⟨o,es,ep,k,r⟩:=i;exact⟨o,es,ep,f _ o (λz=>(hf _ z).2.1 O) k,r⟩
 ·by_cases a:b=p
  ·subst a;rw[eF]at e;cases e;exact⟨l,its,t,j⟩
  ·rw[d9 a]at e;refine(I.hok b u e).stay (λc v hc q=>f c v ?_ q) (λc q=>by rw[d9 (eP q d)];exact q) λc ys q=>by rw[d9 (eP q d)];exact q
   rcases hc with z|z
   ·rw[z];exact h e
   ·exact h z
theorem oJ(I:Inv X ag σ H s){fp:List dP}(hf:∀b∈fp,j5 X ag H b){h':dY}{t':Nat}(a:∀b o,b∉fp->s.heap.get? b=Z o->h'.get? b=Z o):Inv X ag σ H {s with heap:=h',toks:=t'}:=by
 have f:∀{b u},H b=Z u->b∉fp:=λe z=>by rw[(hf _ z).1]at e;cases e
 refine I.step (g':=s.gens) (d':=s.drawn) (ch:=fp) (λb d=>⟨(hf b d).2.2.2.1,(hf b d).2.1,(hf b d).2.2.2.2.1,(hf b d).2.2.2.2.2⟩) (λb o _ _ hc e _=>a b o hc e) (λb o _ _ hc e _=>⟨o.slots,a b o hc e⟩) (λb o _ e n=>n)
  (λb o hc e=>⟨o,a b o hc e⟩) (λb ys e=>e) (λb o u e=>e) (λb ps e=>⟨#[],by rw[e];simp⟩) (λm g=>?_) (λb u e=>?_) I.bare
 ·obtain⟨o,es,ep,h,r⟩:=g;exact⟨o,es,ep,a _ o (λz=>(hf _ z).2.1 O) h,r⟩
 ·refine(I.hok b u e).stay (λc v hc q=>a c v ?_ q) (λc q=>q) λc ys q=>q;rcases hc with z|z
  ·rw[z];exact f e
  ·exact f z
end
theorem tu:(2:Nat)<=dW:=by decide
def Ls(K:Fg1)(b:Bool)(a:dP):It:=
 ⟨λi H=>∃xs x,s3 K b H a xs/\xs[i]?=Z x,λi H x H'=>∃p v,H p=Y/\x = .ref p/\H'=upd H p (.tup [.int i,v]) /\ ∀xs,s3 K b H a xs->xs[i]?=Z v,λi H=>∃xs,s3 K b H a xs/\xs.length<=i⟩
theorem ya{P:dQ}{w:dS}{K:Fg1}{elts:List Expr}{k:Nat}{pos:Pos}(b:Bool)(a e it:dP)(ne:e≠it):uW P w K (.Tuple elts k pos) (Ls K b a) [e,it] e (λi h=>(∃old,IsEnum h e it (i:Nat) old)/\SIt b h it a i) where
 mem:=by simp
 obj:=by
  rintro i h ⟨⟨old,st⟩,G⟩ c hc;rcases aG.mp hc with z|z
  ·subst z;exact⟨_,st,λv q=>by cases q⟩
  ·have z':c=it:=by simpa using z
   subst z';exact G.rec_
 keep:=λi h h' ⟨⟨old,st⟩,G⟩ R=>⟨⟨old,R e (by simp) _ st⟩,G.to λo q=>R it (by simp) o q⟩
 item:=by
  intro X ao L r hc i ag s σ H E I g st t;subst ao L r;obtain⟨⟨old,m⟩,f⟩:=st;obtain⟨xs,x,l,y⟩:=t;obtain⟨aq,p,N,V⟩:=fq I l;obtain⟨u,S,ru⟩:=p.get y;refine yU m f N (x:=u) (by simpa using S) ne λh1 n C B hz1 A=>?_;refine⟨.ref s.heap.objs.size,O,?_⟩;refine wpAny_letOwnedTupleGo_enum n λh2 F d=>?_;have Q:s.heap.objs.size≠e:=nG1 (hL1 m);have D:∀c o,c∉[e,it]->s.heap.get? c=Z o->h2.get? c=Z o:=λc o hc q=>by
   have j:c≠e:=λz=>hc (by simp[z]);have wq:c≠it:=λz=>hc (by simp[z]);exact d.extBut _ _ j (A c o j wq q)
  have tp:IsTup h2 s.heap.objs.size [.int (i:Nat) s.toks,u].toArray:=⟨_,d.extBut _ _ Q B,O,_,O⟩;have T:=uu I g (t':=s.toks+1) (nR1 _) D tp (xs:=[.int i,x]) (.cons ⟨_,O⟩ (.cons ru .nil)) tu;have au:H s.heap.objs.size=Y:=I.hok.fresh (nR1 _);refine⟨.ref s.heap.objs.size,_,T,O,⟨_,x,au,O,O,λys hy=>by rw[nE I hy l];exact y⟩,⟨⟨u,?_⟩,C.to λo q=>d.extBut _ _ (Ne.symm ne) q⟩,λc hc=>?_⟩
  ·have:((i+1:Nat):Int)=(i:Int)+1:=by push_cast;rfl
   rw[this];exact F
  ·have j:c≠s.heap.objs.size:=fun z=>by
    rcases aG.mp hc with q|q
    ·exact Q (z.symm.trans q)
    ·have U:c=it:=by simpa using q
     obtain⟨o,av,_⟩:=f.rec_;rw[<- U,z]at av;exact aA _ (hL1 av)
   rw[d9 j];exact(g c hc).1
 done:=by
  intro X ao L r hc i ag s σ H E I g st t;subst ao L r;obtain⟨⟨old,m⟩,f⟩:=st;obtain⟨xs,l,y⟩:=t;obtain⟨aq,p,N,V⟩:=fq I l;have hl:=p.length;refine Bu (I.ok.hd hc) m f N (by simp;lia) λh' W=>⟨O,oJ I (t':=s.toks) g λc o hc q=>W c o (λz=>hc (by simp[z])) q⟩
 self:=λ_ _ _ _ _ ⟨⟨_,st⟩,_⟩ h=>ra st h
def Lp(K:Fg1)(b1 b2:Bool)(a1 a2:dP):It:=
 ⟨λi H=>∃xs ys x y,s3 K b1 H a1 xs/\s3 K b2 H a2 ys/\xs[i]?=Z x/\ys[i]?=Z y,λi H x H'=>∃p v u,H p=Y/\x = .ref p/\H'=upd H p (.tup [v,u])/\(∀xs,s3 K b1 H a1 xs->xs[i]?=Z v) /\ ∀ys,s3 K b2 H a2 ys->ys[i]?=Z u,
  λi H=>∃xs ys,s3 K b1 H a1 xs/\s3 K b2 H a2 ys/\(xs.length<=i\/ys.length<=i)⟩
theorem zI{P:dQ}{w:dS}{K:Fg1}{elts:List Expr}{k:Nat}{pos:Pos}(b1 b2:Bool)(a1 a2 z ti to r m:dP)(D:KN z ti to r m):uW P w K (.Tuple elts k pos) (Lp K b1 b2 a1 a2) [z,ti,to,r,m] z
  (λi h=>IsZip h z ti to .none/\IsPair h ti (.ref r) (.ref m)/\(∃u v,IsPair h to u v)/\SIt b1 h r a1 i/\SIt b2 h m a2 i) where
 mem:=by simp
 obj:=by
  rintro i h ⟨f,b,⟨u,v,l⟩,j,d⟩ c hc;simp only[aG,bR,or_false]at hc;rcases hc with rfl|rfl|rfl|rfl|rfl
  ·exact⟨_,f,λv q=>by cases q⟩
  ·exact⟨_,b,λv q=>by cases q⟩
  ·exact⟨_,l,λv q=>by cases q⟩
  ·exact j.rec_
  ·exact d.rec_
 keep:=λi h h' ⟨f,b,⟨u,v,l⟩,j,d⟩ F=>⟨F z (by simp) _ f,F ti (by simp) _ b,⟨u,v,F to (by simp) _ l⟩,j.to λo q=>F r (by simp) o q,d.to λo q=>F m (by simp) o q⟩
 item:=by
  intro X U V L hc i ag s σ H E I g st Q;subst U V L;obtain⟨f,b,⟨u0,v0,l⟩,j,d⟩:=st;obtain⟨xs,ys,x,y,B,A,ex,ey⟩:=Q;obtain⟨W,ao,au,hz⟩:=fq I B;obtain⟨C,p,n,S⟩:=fq I A;obtain⟨u,hu,ru⟩:=ao.get ex;obtain⟨T,N,aq⟩:=p.get ey;refine zv D f b l (rO I B (g to (by simp))) (rO I A (g to (by simp))) j d au n (x:=u) (y:=T) (by simpa using hu) (by simpa using N) λh1 p1 p2 p3 p4 p5 p6 G=>?_;refine⟨.ref s.heap.objs.size,O,?_⟩;refine wpAny_letOwnedTupleGo_zip p1 λh2 z2 a=>?_;have lt:∀c∈[z,ti,to,r,m],c≠s.heap.objs.size:=λc hc e=>by
   obtain⟨o,wq⟩:∃o,s.heap.get? c=some o:=by
    simp only[aG,bR,or_false]at hc;rcases hc with rfl|rfl|rfl|rfl|rfl
    ·exact⟨_,f⟩
    ·exact⟨_,b⟩
    ·exact⟨_,l⟩
    ·obtain⟨o,e,_⟩:=j.rec_;exact⟨o,e⟩
    ·obtain⟨o,e,_⟩:=d.rec_;exact⟨o,e⟩
   rw[e]at wq;exact aA _ (hL1 wq)
  have R:∀c o,c∉[z,ti,to,r,m]->s.heap.get? c=Z o->h2.get? c=Z o:=λc o hc q=>by
   simp only[aG,bR,or_false,not_or]at hc;exact a.extBut _ _ hc.1 (G c o hc.1 hc.2.2.1 hc.2.2.2.1 hc.2.2.2.2 q)
  have tp:IsTup h2 s.heap.objs.size [u,T].toArray:=⟨_,a.extBut _ _ (Ne.symm (lt z (by simp))) p5,O,_,O⟩;have I2:=uu I g (t':=s.toks) (nR1 _) R tp (xs:=[x,y]) (.cons ru (.cons aq .nil)) tu;have hn:H s.heap.objs.size=Y:=I.hok.fresh (nR1 _);refine⟨.ref s.heap.objs.size,_,I2,O,⟨_,x,y,hn,O,O,λav t=>by rw[nE I t B];exact ex,λav t=>by rw[nE I t A];exact ey⟩,
   ⟨z2,a.extBut _ _ D.a1 (G _ _ D.a1 D.a5 D.a6 D.a7 b),⟨u,T,a.extBut _ _ D.a2 p2⟩,p3.to λo q=>a.extBut _ _ D.a3 q,p4.to λo q=>a.extBut _ _ D.a4 q⟩,λc hc=>?_⟩
  rw[d9 (lt c hc)];exact(g c hc).1
 done:=by
  intro X U V L hc i ag s σ H E I g st Q;subst U V L;obtain⟨f,b,⟨u0,v0,l⟩,j,d⟩:=st;obtain⟨xs,ys,B,A,hl⟩:=Q;obtain⟨W,ao,au,hz⟩:=fq I B;obtain⟨C,p,n,S⟩:=fq I A;have l1:=ao.length;have l2:=p.length;refine B5 (I.ok.hd hc) D f b l (rO I B (g to (by simp))) (rO I A (g to (by simp))) j d au n (by simp;lia) λh' eb=>⟨O,oJ I (t':=s.toks) g λc o hc q=>?_⟩;simp only[aG,bR,or_false,not_or]at hc;exact eb c o hc.1 hc.2.2.1 hc.2.2.2.1 hc.2.2.2.2 q
 self:=λ_ _ _ _ _ ⟨st,_⟩ h=>wpAny_pyIter_zip st h
section
variable{elts:List Expr}{k:Nat}{tpos:Pos}
def IU(K:Fg1)(ta:TA):TI:=fun σ H R=>ta σ H λvs H1=>∃a b,vs=[.ref a]/\(∃xs,s3 K b H1 a xs)/\R (Ls K b a) H1
theorem CG {a:Expr}{ta:TA}{p pos:Pos}(hg:Gl X "enumerate")(hm:X.mg "enumerate"=Y)(ha:PA X [a] ta)(hs:autoParam (dV [a] X.env=[(J,eval a X.env)]) au0):PI X (.Tuple elts k tpos) (.Call (.Name "enumerate" p) [a] [] pos) (IU X.K ta):=by
 intro ag s σ H R I h;refine Call_ (jC I hg hm boot_enumerate (PyProof.Rows.callWith_type1 (fO (ha pos ag s σ H _ I h) λB g ⟨vs,H1,f,l,n⟩=>?_) hs O));obtain⟨c,b,e,⟨xs,u⟩,q⟩:=n;subst e;cases l with
 |cons r j=>
  cases j;cases r;obtain⟨x,D,y,C⟩:=fq f u;refine yV y λh' i A o t=>ra i ?_;have m:Inv X ag σ H1 {g with heap:=h'}:=f.kept (t':=g.toks) t;refine⟨g.heap.objs.size+1,[g.heap.objs.size+1,g.heap.objs.size],_,_,H1,O,m,ya b c _ _ (Nat.succ_ne_self _),⟨⟨.none,i⟩,A⟩,λd v=>?_,q⟩;rcases aG.mp v with z|z
  ·subst z;exact f.fpOk (a0 _) (f.hok.fresh (a0 _))
  ·have w:d=g.heap.objs.size:=by simpa using z
   subst w;exact f.fpOk (nR1 _) (f.hok.fresh (nR1 _))
def KC(K:Fg1)(ta:TA):TI:=fun σ H R=>ta σ H λvs H1=>∃a1 b1 a2 b2,vs=[.ref a1,.ref a2]/\(∃xs,s3 K b1 H1 a1 xs)/\(∃xs,s3 K b2 H1 a2 xs)/\R (Lp K b1 b2 a1 a2) H1
theorem FF {a b:Expr}{ta:TA}{p pos:Pos}(hg:Gl X "zip")(hm:X.mg "zip"=none)(ha:PA X [a,b] ta)(hs:autoParam (dV [a,b] X.env=[(false,eval a X.env),(false,eval b X.env)]) au0)(hs2:autoParam (dV [b] X.env=[(false,eval b X.env)]) au0):
  PI X (.Tuple elts k tpos) (.Call (.Name "zip" p) [a,b] [] pos) (KC X.K ta):=by
 intro ag s σ H R I h;refine Call_ (jC I hg hm boot_zip (PyProof.Rows.callWith_type1 (fO (ha pos ag s σ H _ I h) λaq c ⟨vs,H1,f,C,w⟩=>?_) (by rw[hs,hs2]) (by rw[hs2];rfl)));obtain⟨y,b1,x,b2,e,⟨xs,B⟩,⟨ys,L⟩,q⟩:=w;subst e;cases C with
 |cons r i=>
  cases i with
  |cons u i=>
   cases i;cases r;cases u;obtain⟨G,av,ao,N⟩:=fq f B;obtain⟨l,E,j,D⟩:=fq f L;refine zw ao j λh' n K A t F Q v=>wpAny_pyIter_zip n ?_;have o:Inv X ag σ H1 {c with heap:=h'}:=f.kept (t':=c.toks) v;refine⟨c.heap.objs.size+4,[c.heap.objs.size+4,c.heap.objs.size+2,c.heap.objs.size+3,c.heap.objs.size,c.heap.objs.size+1],_,_,H1,O,o,zI b1 b2 y x _ _ _ _ _ ?_,⟨n,K,⟨_,_,A⟩,t,F⟩,λd m=>?_,q⟩
   ·constructor<;>(intro z;have P:((_:Nat)=_):=z;lia)
   ·have g:c.heap.objs.size<=d:=by
     simp only[aG,bR,or_false]at m;rcases m with rfl|rfl|rfl|rfl|rfl
     ·exact bB _ _
     ·exact bB _ _
     ·exact bB _ _
     ·exact nR1 _
     ·exact bB _ _
    exact f.fpOk g (f.hok.fresh g)
end
noncomputable def et (S:Sto):D->Option (Bool×List D)
 | .tup xs=>some (false,xs)
 | .rol xs=>some (true,xs)
 | .ref n=>match S[n]? with
  |some (.lst xs)=>some (true,xs)
  |_=>none
 |_=>none
noncomputable def jI(S:Sto):D->List (Nat×List D)
 | .ref n=>match S[n]? with
  |some (.lst xs)=>[(n,xs)]
  |_=>[]
 |_=>[]
section
variable{K:Fg1}{H:Hp}{mu:List dP}{S:Sto}
theorem eB{d:D}{v:V}{b:Bool}{xs:List D}(r:eX K H mu d v)(s:Sim K H mu S)(h:et S d=Z (b,xs)):∃a vs,v = .ref a/\s3 K b H a vs/\eh K H mu xs vs:=by
 cases d with
 |tup ys=>cases h;cases r with|tup q t=>exact⟨_,_,rfl,q,t⟩
 |rol ys=>cases h;cases r with|rol q t=>exact⟨_,_,rfl,q.sq,t⟩
 |ref n=>
  rw[et]at h;split at h
  ·rename_i ys e;cases h;cases r with
   |ref q=>
    obtain⟨vs,f,c⟩:=s.lst e q;exact⟨_,vs,O,nL.of f,c⟩
  ·cases h
 |_=>cases h
theorem iL{d:D}{a:dP}{b:Bool}{xs:List D}(r:eX K H mu d (.ref a))(s:Sim K H mu S)(h:et S d=some (b,xs)){H1:Hp}{mu1:List dP}{S1:Sto}(x:tf mu mu1 H H1)(f:Sim K H1 mu1 S1)(ok:qo S1 (jI S d)=true):
  ∃vs,s3 K b H1 a vs/\eh K H1 mu1 xs vs:=by
 have c:=r.exw x;have h1:et S1 d=Z (b,xs):=by
  cases d with
  |ref n=>
   rw[et]at h;split at h
   ·rename_i ys e;cases h;rw[jI,e]at ok;dsimp only[qo]at ok;rw[bS]at ok;rw[et];split at ok
    ·rename_i zs g
     first|rw[g,D.sames_eq ok] | rw[D.sames_eq ok]
    ·cases ok
   ·cases h
  |_=>exact h
 obtain⟨i,vs,e,q,t⟩:=eB c f h1;cases e;exact⟨vs,q,t⟩
end
noncomputable def iU (m:FE):FI:=λr S=>(m r S).bind λp=>(et p.2 p.1).bind λq=>some (⟨q.2,jI p.2 p.1⟩,p.2)
noncomputable def zp:Nat->List D->List D
 |_,[]=>[]
 |n,d::ds=>.tup [.int n,d]::zp (n+1) ds
noncomputable def GV (m:FA):FI:=λr S=>(m r S).bind λp=>match p.1 with
 |[d]=>(et p.2 d).bind λq=>some (⟨zp 0 q.2,jI p.2 d⟩,p.2)
 |_=>none
noncomputable def u8:List D->List D->List D
 |x::xs,y::ys=>.tup [x,y]::u8 xs ys
 |_,_=>[]
def B3(m:FA):FI:=λr S=>(m r S).bind λp=>match p.1 with
 |[d,e]=>(et p.2 d).bind λq=>(et p.2 e).bind λt=>Z (⟨u8 q.2 t.2,jI p.2 d++jI p.2 e⟩,p.2)
 |_=>Y
noncomputable def hU(lo:Int):Nat->List D
 |0=>[]
 |n+1=>.int lo::hU (lo+1) n
noncomputable def pN (m:FA):FI:=λr S=>(m r S).bind λp=>match p.1 with
 |[.int j]=>if-(2^62)<=j/\j<2^62 then some (⟨hU 0 j.toNat,[]⟩,p.2)else none
 |_=>none
def IS(m:FA):FI:=λr S=>(m r S).bind λp=>match p.1 with
 |[.int i,.int j]=>if-(2^62)<=i/\i<2^62 /\ -(2^62)<=j/\j<2^62 then Z (⟨hU i (j-i).toNat,[]⟩,p.2)else Y
 |_=>Y
theorem xB:∀(ds:List D) (n i:Nat),(zp n ds)[i]?=(ds[i]?).map λd=>.tup [.int ((n+i:Nat):Int),d]
 |[],n,i=>by simp[zp]
 |d::ds,n,0=>by simp[zp]
 |d::ds,n,i+1=>by
  rw[zp,gC1,xB ds (n+1) i,gC1];rw[show n+1+i=n+(i+1) by lia]
theorem xA:∀(ds:List D) (n:Nat),(zp n ds).length=ds.length
 |[],_=>rfl
 |d::ds,n=>by rw[zp,lC1,xA ds,lC1]
theorem we:∀(xs ys:List D) (i:Nat) (d:D),(u8 xs ys)[i]?=Z d -> ∃x y,xs[i]?=Z x/\ys[i]?=Z y/\d = .tup [x,y]
 |[],_,i,d,h=>by simp[u8]at h
 |_::_,[],i,d,h=>by simp[u8]at h
 |x::xs,y::ys,0,d,h=>by simp[u8]at h;exact⟨x,y,O,O,h.symm⟩
 |x::xs,y::ys,i+1,d,h=>by
  rw[u8,gC1]at h;obtain⟨c,e,a,f,b⟩:=we xs ys i d h;exact⟨c,e,by simpa using a,by simpa using f,b⟩
theorem wd:∀(xs ys:List D) (i:Nat),(u8 xs ys).length<=i->xs.length<=i\/ys.length<=i
 |[],_,i,_=>.inl (br _)
 |_::_,[],i,_=>.inr (br _)
 |x::xs,y::ys,0,h=>by simp[u8]at h
 |x::xs,y::ys,i+1,h=>by
  rcases wd xs ys i (by simpa[u8]using h)with q|q
  ·exact .inl (by simpa using q)
  ·exact .inr (by simpa using q)
theorem ub:∀(n:Nat) (lo:Int) (i:Nat) (d:D),(hU lo n)[i]?=Z d->i<n/\d = .int (lo+i)
 |0,lo,i,d,h=>by simp[hU]at h
 |n+1,lo,0,d,h=>by simp[hU]at h;exact⟨Nat.succ_pos _,by rw[<- h];simp⟩
 |n+1,lo,i+1,d,h=>by
  rw[hU,gC1]at h;obtain⟨h1,h2⟩:=ub n (lo+1) i d h;refine⟨Nat.succ_lt_succ h1,?_⟩;rw[h2,show lo+1+(i:Int)=lo+((i+1:Nat):Int) by push_cast;lia]
theorem gx:∀(n:Nat) (lo:Int),(hU lo n).length=n
 |0,_=>rfl
 |n+1,lo=>by rw[hU,lC1,gx n]
theorem wS{S:Sto}:∀{c a:List (Nat×List D)},qo S (c++a)=M->qo S c=M/\qo S a=M
 |[],_,h=>⟨O,h⟩
 |(n,xs)::c,a,h=>by
  rw[bt,qo,bA1]at h;obtain⟨h1,h2⟩:=wS h.2;exact⟨by rw[qo,bA1];exact⟨h.1,h1⟩,h2⟩
section
variable{tg:Expr}
theorem uq(K:Fg1)(lo:Int)(n:Nat)(mu:List dP)(H:Hp):ItR K (JA lo n) ⟨hU lo n,[]⟩ mu H:=by
 intro i H1 mu1 e x s ok;refine⟨λd b=>?_,λh=>by rw[gx]at h;exact h⟩;obtain⟨h1,h2⟩:=ub n lo i d b;refine⟨h1,λy H2 ⟨c,a⟩=>?_⟩;subst c;subst a;subst h2;exact⟨.refl _ _,s,.int _⟩
theorem Gp{e:Expr}{m:FE}(h:ME X e m):MI X tg e (iU m):=ot (Ih (CF h) (FH h)) <| by
 rintro σ H R ⟨r,mu,S,ao,I,E,C,n,hc⟩;obtain⟨⟨d,K⟩,D,n⟩:=oB1.mp n;obtain⟨⟨b,xs⟩,o,n⟩:=oB1.mp n;cases n;cases b with
 |true=>
  left;refine⟨r,mu,S,d,_,E,C,D,λv H1 mu1 A k f=>?_⟩;obtain⟨a,vs,rfl,q,t⟩:=eB k f o;refine⟨a,O,⟨vs,q⟩,hc _ H1 mu1 A (λi H2 u G x j ok=>?_) f⟩;obtain⟨ws,c,g⟩:=iL k f o x j ok;refine⟨λd B=>?_,λp=>⟨ws,c,by rw[<- g.length];exact p⟩⟩;obtain⟨v,l,s⟩:=g.get B;refine⟨⟨ws,v,c,l⟩,λy F ⟨w,z⟩=>?_⟩;subst w;have:=z ws c;rw[l]at this;cases this;exact⟨.refl _ _,j,s⟩
 |false=>
  right;refine⟨r,mu,S,d,_,E,C,D,λv H1 mu1 A k f=>?_⟩;obtain⟨a,vs,rfl,q,t⟩:=eB k f o;refine⟨a,O,⟨vs,q⟩,hc _ H1 mu1 A (λi H2 u G x j ok=>?_) f⟩;obtain⟨ws,c,g⟩:=iL k f o x j ok;refine⟨λd B=>?_,λp=>⟨ws,c,by rw[<- g.length];exact p⟩⟩;obtain⟨v,l,s⟩:=g.get B;refine⟨⟨ws,v,c,l⟩,λy F ⟨w,z⟩=>?_⟩;subst w;have:=z ws c;rw[l]at this;cases this;exact⟨.refl _ _,j,s⟩
theorem oj{K:Fg1}{H:Hp}{mu:List dP}{d:D}{vs:List V}(r:eh K H mu [d] vs):∃v,vs=[v]/\eX K H mu d v:=by
 cases r with|cons r t=>cases t;exact⟨_,O,r⟩
theorem tR{K:Fg1}{H:Hp}{mu:List dP}{d e:D}{vs:List V}(r:eh K H mu [d,e] vs):∃v u,vs=[v,u]/\eX K H mu d v/\eX K H mu e u:=by
 cases r with|cons r t=>cases t with|cons q t=>cases t;exact⟨_,_,O,r,q⟩
theorem yw {a:Expr}{m:FA}{p pos:Pos}(hg:Gl X "range")(hm:X.mg "range"=Y)(ha:MA X [a] m)(hs:autoParam (dV [a] X.env=[(J,eval a X.env)]) au0):MI X tg (.Call (.Name "range" p) [a] [] pos) (pN m):=
 ot (yn hg hm ha hs) <| by
  rintro σ H R ⟨r,mu,S,ao,i,f,hs,hm,hc⟩;obtain⟨⟨ds,k⟩,e,hm⟩:=oB1.mp hm;dsimp only at hm;split at hm
  ·rename_i j;split at hm
   ·rename_i b;cases hm;refine⟨r,mu,S,_,_,f,hs,e,λvs H1 mu1 h c d=>?_⟩;obtain⟨v,rfl,g⟩:=oj c;cases g;exact⟨j,O,b.1,b.2,hc _ H1 mu1 h (uq _ _ _ _ _) d⟩
   ·cases hm
  ·cases hm
theorem yv {a b:Expr}{m:FA}{p pos:Pos}(hg:Gl X "range")(hm:X.mg "range"=Y)(ha:MA X [a,b] m)(hs:autoParam (dV [a,b] X.env=[(J,eval a X.env),(J,eval b X.env)]) au0)(hs2:autoParam (dV [b] X.env=[(J,eval b X.env)]) au0):MI X tg (.Call (.Name "range" p) [a,b] [] pos) (IS m):=
 ot (ym hg hm ha hs hs2) <| by
  rintro σ H R ⟨r,mu,S,ao,n,h,hs,hm,hc⟩;obtain⟨⟨ds,o⟩,f,hm⟩:=oB1.mp hm;dsimp only at hm;split at hm
  ·rename_i i j;split at hm
   ·rename_i e;cases hm;refine⟨r,mu,S,_,_,h,hs,f,λvs H1 mu1 l c d=>?_⟩;obtain⟨v,u,rfl,k,g⟩:=tR c;cases k;cases g;exact⟨i,j,O,e,hc _ H1 mu1 l (uq _ _ _ _ _) d⟩
   ·cases hm
  ·cases hm
variable{elts:List Expr}{k:Nat}{tpos:Pos}
theorem C6 {a:Expr}{m:FA}{p pos:Pos}(hg:Gl X "enumerate")(hm:X.mg "enumerate"=Y)(ha:MA X [a] m)(hs:autoParam (dV [a] X.env=[(J,eval a X.env)]) au0):MI X (.Tuple elts k tpos) (.Call (.Name "enumerate" p) [a] [] pos) (GV m):=
 ot (CG hg hm ha hs) <| by
  rintro σ H R ⟨r,mu,S,ao,K,G,hs,hm,hc⟩;obtain⟨⟨ds,L⟩,F,hm⟩:=oB1.mp hm;dsimp only at hm;split at hm
  ·rename_i d;obtain⟨⟨b,xs⟩,o,hm⟩:=oB1.mp hm;cases hm;refine⟨r,mu,S,_,_,G,hs,F,λvs H1 mu1 C D h=>?_⟩;obtain⟨v,rfl,l⟩:=oj D;obtain⟨a,vs,rfl,q,t⟩:=eB l h o;refine⟨a,b,O,⟨vs,q⟩,hc _ H1 mu1 C (λi H2 x av A s ok=>?_) h⟩;obtain⟨ws,g,n⟩:=iL l h o A s ok;refine⟨λd c=>?_,λj=>⟨ws,g,by rw[xA]at j;rw[<- n.length];exact j⟩⟩;rw[xB]at c;obtain⟨aq,E,c⟩:=oM1.mp c;obtain⟨v,u,f⟩:=n.get E;refine⟨⟨ws,v,g,u⟩,λy I ⟨p,N,e,z,B,w⟩=>?_⟩;have:=w ws g;rw[u]at this;cases this;subst z;subst B;subst c;rw[bT];exact⟨Ext.fresh e,s.fresh e,.tup (lY.of eF) (.cons (.int _) (.cons (f.ext (Ext.fresh e)) .nil))⟩
  ·cases hm
theorem Go {a b:Expr}{m:FA}{p pos:Pos}(hg:Gl X "zip")(hm:X.mg "zip"=Y)(ha:MA X [a,b] m)(hs:autoParam (dV [a,b] X.env=[(J,eval a X.env),(J,eval b X.env)]) au0)(hs2:autoParam (dV [b] X.env=[(J,eval b X.env)]) au0):MI X (.Tuple elts k tpos) (.Call (.Name "zip" p) [a,b] [] pos) (B3 m):=
 ot (FF hg hm ha hs hs2) <| by
  rintro σ H R ⟨r,mu,S,ao,S',he,hs,hm,hc⟩;obtain⟨⟨ds,S1⟩,e1,hm⟩:=oB1.mp hm;dsimp only at hm;split at hm
  ·rename_i d e;obtain⟨⟨b1,xs⟩,A,hm⟩:=oB1.mp hm;obtain⟨⟨b2,ys⟩,F,hm⟩:=oB1.mp hm;cases hm;refine⟨r,mu,S,_,_,he,hs,e1,λvs H1 mu1 U W f=>?_⟩;obtain⟨v,u,rfl,x,C⟩:=tR W;obtain⟨a1,o,rfl,P,t1⟩:=eB x f A;obtain⟨a2,n,rfl,wq,t2⟩:=eB C f F;refine⟨a1,b1,a2,b2,O,⟨o,P⟩,⟨n,wq⟩,hc _ H1 mu1 U (λi H2 av S2 D j ok=>?_) f⟩;obtain⟨t,s⟩:=wS ok;obtain⟨ws,w,G⟩:=iL x f A D j t;obtain⟨c,q,K⟩:=iL C f F D j s;refine⟨λd au=>?_,λN=>⟨ws,c,w,q,?_⟩⟩
   ·obtain⟨x',y',ex,V,rfl⟩:=we xs ys i d au;obtain⟨v,E,h⟩:=G.get ex;obtain⟨u,L,l⟩:=K.get V;refine⟨⟨ws,c,v,u,w,q,E,L⟩,λy H3 ⟨p,v',u',g,Q,T,aq,z4⟩=>?_⟩;have B:=aq ws w;have I:=z4 c q;rw[E]at B;cases B;rw[L]at I;cases I;subst Q;subst T;exact⟨Ext.fresh g,j.fresh g,.tup (lY.of eF) (.cons (h.ext (Ext.fresh g)) (.cons (l.ext (Ext.fresh g)) .nil))⟩
   ·rcases wd xs ys i N with z|z
    ·exact .inl (by rw[<- G.length];exact z)
    ·exact .inr (by rw[<- K.length];exact z)
  ·cases hm
end
abbrev G1:=D->Sto->Option (D×Sto)
abbrev G2:=D->D->Sto->Option (D×Sto)
abbrev G3:=D->D->D->Sto->Option (D×Sto)
noncomputable def b1 (f:G1):FN:=λds S=>match ds with
 |[a]=>f a S
 |_=>none
noncomputable def b2 (f:G2):FN:=λds S=>match ds with
 |[a,b]=>f a b S
 |_=>none
noncomputable def b3 (f:G3):FN:=λds S=>match ds with
 |[a,b,c]=>f a b c S
 |_=>none
section
variable{K:Fg1}{H:Hp}{Q:VK}
theorem pA{f:G2}{x y:V}(h:rN K (b2 f) [x,y] H Q):∃mu S d e r a,eX K H mu d x/\eX K H mu e y/\Sim K H mu S/\f d e S=Z (r,a)/\pY K mu H r a Q:=by
 obtain⟨mu,S,ds,r,a,g,b,c,hc⟩:=h;cases g with
 |cons q t=>cases t with
  |cons i t=>cases t;exact⟨mu,S,_,_,r,a,q,i,b,c,hc⟩
theorem Ep{f:G1}{xs:List V}(h:rN K (b1 f) xs H Q):∃x mu S d r a,xs=[x]/\eX K H mu d x/\Sim K H mu S/\f d S=Z (r,a)/\pY K mu H r a Q:=by
 obtain⟨mu,S,ds,r,a,e,c,b,hc⟩:=h;cases e with
 |nil=>cases b
 |cons q t=>cases t with
  |nil=>exact⟨_,mu,S,_,r,a,O,q,c,b,hc⟩
  |cons g t=>cases b
theorem yh{f:G2}{xs:List V}(h:rN K (b2 f) xs H Q):∃x y mu S d e r b,xs=[x,y]/\eX K H mu d x/\eX K H mu e y/\Sim K H mu S/\f d e S=Z (r,b)/\pY K mu H r b Q:=by
 obtain⟨mu,S,ds,r,b,g,c,a,hc⟩:=h;cases g with
 |nil=>cases a
 |cons q t=>cases t with
  |nil=>cases a
  |cons i t=>cases t with
   |nil=>exact⟨_,_,mu,S,_,_,r,b,O,q,i,c,a,hc⟩
   |cons j t=>cases a
theorem pY.now{mu:List dP}{S:Sto}{d:D}{v:V}(c:pY K mu H d S Q)(r:eX K H mu d v)(s:Sim K H mu S):Q v H:=c v H mu (.refl _ _) r s
end
noncomputable def fi(i j:Int):Bool:=(decide (-(2^64)<i)&&decide (i<2^64))||(decide (-(2^64)<j)&&decide (j<2^64))||(decide (i.natAbs<2^1000)&&decide (j.natAbs<2^1000))
noncomputable def gB:G2:=λd e S=>match d,e with
 | .int i,.int j=>Z (.int (i+j),S)
 | .tup xs,.tup ys=>if xs.length+ys.length<=dW then Z (.tup (xs++ys),S)else Y
 | .str x,.str y=>if x.length+y.length<=dW then Z (.str (x++y),S)else Y
 | .ref a,.ref b=>match S[a]?,S[b]? with
  |some (.lst xs),Z (.lst ys)=>if xs.length+ys.length<=dW then Z (.ref S.length,S++[.lst (xs++ys)])else Y
  |_,_=>Y
 |_,_=>Y
noncomputable def gSub:G2:=λd e S=>match d,e with
 | .int i,.int j=>Z (.int (i-j),S)
 |_,_=>Y
def jY:G2:=λd e S=>match d,e with
 | .int i,.int j=>if fi i j=M then Z (.int (i*j),S)else Y
 |_,_=>Y
noncomputable def lE:G2:=λd e S=>match d,e with
 | .int i,.int j=>if 0<j then Z (.int (i%j),S)else Y
 |_,_=>Y
noncomputable def pQ:G2:=λd e S=>match d,e with
 | .int i,.int j=>if 0<j/\j<1073741824 then Z (.int (i/j),S)else Y
 |_,_=>Y
noncomputable def vR:G2:=λd e S=>match d,e with
 | .int i,.int j=>if 0<=j/\j<=1000000/\i.natAbs<2^64 then Z (.int (i^j.toNat),S)else Y
 |_,_=>Y
noncomputable def Bg:G1:=λd S=>match d with
 | .int i=>Z (.int (-i),S)
 |_=>Y
theorem vE{i j:Int}(h:fi i j=M):IntMulOk i j:=by
 unfold fi at h;simp only[bU,bA1,am]at h;rcases h with(⟨h1,h2⟩|⟨h1,h2⟩)|⟨h1,h2⟩
 ·exact .of_left (intBits_le_64 h1 h2)
 ·exact .of_right (intBits_le_64 h1 h2)
 ·exact .of_bits (aD (intBits_le h1) (by decide)) (aD (intBits_le h2) (by decide))
theorem nG{f:dM->dM->Sem dM}{g:G2}{c:Int->Int->Prop}{v:Int->Int->D}(hg:∀ d e S r a,g d e S=Z (r,a) -> ∃ i j,d = .int i/\e = .int j/\c i j/\r=v i j/\a=S){b:Int->Int->V}(hv:∀i j K H mu,eX K H mu (v i j) (b i j))(ho:gF X f (rI c b)):gF X f (r2 X.K (b2 g)):=by
 intro ag s σ H x y u w Q I p l h;obtain⟨mu,S,d,e,r,a,k,r2,m,n,hc⟩:=pA h;obtain⟨i,j,rfl,rfl,o,rfl,rfl⟩:=hg d e S r a n;cases k;cases r2;exact ho ag s σ H _ _ u w Q I p l ⟨i,j,O,O,o,hc.now (hv i j _ _ _) m⟩
theorem oz{f:dM->dM->Sem dM}{g:G2}{v:Int->Int->D}(hg:∀ d e S r a,g d e S=Z (r,a) -> ∃ i j,d = .int i/\e = .int j/\r=v i j/\a=S){b:Int->Int->V}(hv:∀i j K H mu,eX K H mu (v i j) (b i j))(ho:gF X f (Es b)):gF X f (r2 X.K (b2 g)):=by
 intro ag s σ H x y u w Q I n k h;obtain⟨mu,S,d,e,r,a,c,r2,l,m,hc⟩:=pA h;obtain⟨i,j,rfl,rfl,rfl,rfl⟩:=hg d e S r a m;cases c;cases r2;exact ho ag s σ H _ _ u w Q I n k ⟨i,j,O,O,hc.now (hv i j _ _ _) l⟩
theorem wU:gF X (binaryOp .Sub) (r2 X.K (b2 gSub)):=oz (v:=λi j=>.int (i-j)) (λd e S r a h=>by
 unfold gSub at h;split at h
 ·cases h;exact⟨_,_,O,O,O,O⟩
 ·cases h) (λ_ _ _ _ _=>.int _) FY
theorem k9:gF X (binaryOp .Mult) (r2 X.K (b2 jY)):=nG (c:=λi j=>IntMulOk i j) (v:=λi j=>.int (i*j)) (λd e S r a h=>by
 unfold jY at h;split at h
 ·split at h
  ·rename_i q;cases h;exact⟨_,_,O,O,vE q,O,O⟩
  ·cases h
 ·cases h) (λ_ _ _ _ _=>.int _) (JI λ_ _ _ _ _ _ _ hc q=>mul_int q hc)
theorem mU:gF X (binaryOp .Mod) (r2 X.K (b2 lE)):=nG (c:=λ_ j=>0<j) (v:=λi j=>.int (i%j)) (λd e S r a h=>by
 unfold lE at h;split at h
 ·split at h
  ·rename_i q;cases h;exact⟨_,_,O,O,q,O,O⟩
  ·cases h
 ·cases h) (λ_ _ _ _ _=>.int _) F1
theorem wV:gF X (binaryOp .FloorDiv) (r2 X.K (b2 pQ)):=nG (c:=JD) (v:=λi j=>.int (i/j)) (λd e S r a h=>by
 unfold pQ at h;split at h
 ·split at h
  ·rename_i q;cases h;exact⟨_,_,O,O,q,O,O⟩
  ·cases h
 ·cases h) (λ_ _ _ _ _=>.int _) CO
theorem Az:gF X (binaryOp .Pow) (r2 X.K (b2 vR)):=nG (c:=JC) (v:=λi j=>.int (i^j.toNat)) (λd e S r a h=>by
 unfold vR at h;split at h
 ·split at h
  ·rename_i q;cases h;exact⟨_,_,O,O,q,O,O⟩
  ·cases h
 ·cases h) (λ_ _ _ _ _=>.int _) F0
theorem Eu:HA X (unaryOp .USub) (λx H Q=>rN X.K (b1 Bg) [x] H Q):=by
 intro ag s σ H x v Q I f h;obtain⟨g,mu,S,d,r,j,e,b,c,a,hc⟩:=Ep h;cases e;cases d with
 |int i=>cases a;cases b;exact ET ag s σ H _ v Q I f ⟨i,O,hc.now (.int _) c⟩
 |_=>cases a
theorem za{s:dN}{prog:dQ}{w:dS}{A:dR}{E:dM->dN->Prop}{t b:dP}{ws:List dM}{Q:dM->dN->Prop}(ht:IsTup s.heap t ([]:List dM).toArray)(hb:IsTup s.heap b ws.toArray)(h:Q (.ref b) s):
  dX (model prog w) A (binaryOp .Add (.ref t) (.ref b)) Q E s:=by
 obtain⟨⟨m,o,i,q⟩,k,hc,n,j⟩:=id ht;obtain⟨⟨l,f,e,g⟩,d,a,p,c⟩:=id hb;simp only at hc j a c;subst hc j a c;exact concat_meets ⟨_,k,O⟩ ⟨_,d,O⟩ noFill_tuple_add seq_tuple_add PySem.F.slot_tuple_add PySem.F.entry_tuple_add (PySem.F.args_tuple_add_2 _ _) (tuple_addW0 t b ([]:List dM).toArray ws.toArray n p o f q g (by simp)) ⟨k,d,h⟩
theorem gu:gF X (binaryOp .Add) (r2 X.K (b2 gB)):=by
 intro ag s σ H x y u w Q I q t h;obtain⟨mu,S,d,e,r,R,v,r2,f,c,hc⟩:=pA h;unfold gB at c;split at c
 ·cases c;cases v;cases r2;exact F4 ag s σ H _ _ u w Q I q t ⟨_,_,O,O,hc.now (.int _) f⟩
 ·rename_i xs ys;split at c
  ·rename_i o;cases c;cases v with
   |tup A k=>
    cases r2 with
    |tup B l=>
     rename_i g a1 m a2;by_cases E:g=[]
     ·subst E;have:xs=[]:=by cases k;rfl
      subst this;cases q;cases t;obtain⟨C,F,P,_⟩:=I.tuple A;obtain⟨D,aq,p2,_⟩:=I.tuple B;have:C=[]:=F.nil_iff.mpr O;subst this;exact za P p2 ⟨.ref a2,H,I,O,hc.now (.tup B l) f⟩
     ·refine CP ag s σ H _ _ u w Q I q t ⟨a1,a2,g,m,O,O,A,B,E,by rw[<- k.length,<- l.length];exact o,λz=>?_,λz p n=>?_⟩
      ·subst z;have:ys=[]:=by cases l;rfl
       subst this;rw[aP]at hc;exact hc.now (.tup A k) f
      ·exact hc _ _ mu (Ext.fresh n) (.tup (lY.of eF) ((k.append l).ext (Ext.fresh n))) (f.fresh n)
  ·cases c
 ·rename_i i j;split at c
  ·rename_i o;cases c;cases v;cases r2;exact vy ag s σ H _ _ u w Q I q t ⟨i,j,O,O,o,hc.now (.str _) f⟩
  ·cases c
 ·rename_i a b;split at c
  ·rename_i xs ys av ao;split at c
   ·rename_i o;cases c;cases v with
    |ref L=>
     cases r2 with
     |ref K=>
      obtain⟨g,N,k⟩:=f.lst av L;obtain⟨m,G,l⟩:=f.lst ao K;refine F3 ag s σ H _ _ u w Q I q t ⟨_,_,g,m,O,O,N,G,by rw[<- k.length,<- l.length];exact o,λp n=>?_⟩;exact hc _ _ (mu++[p]) (Ext.new_ n) (.ref (gZ f.len p)) (f.newL (k.append l) n)
   ·cases c
  ·cases c
 ·cases c
noncomputable def jh(p:Int->Int->Bool):G2:=λd e S=>match d,e with
 | .int i,.int j=>Z (.bl (p i j),S)
 |_,_=>Y
theorem xr{p:Int->Int->Bool}(d e:D)(S:Sto)(r:D)(a:Sto)(h:jh p d e S=Z (r,a)):∃i j,d = .int i/\e = .int j/\r = .bl (p i j)/\a=S:=by
 unfold jh at h;split at h
 ·cases h;exact⟨_,_,O,O,O,O⟩
 ·cases h
theorem yq:gF X (compareOp .Gt) (r2 X.K (b2 (jh λi j=>decide (j<i)))):=oz xr (λ_ _ _ _ _=>.bl _) Ip
theorem Ix:gF X (compareOp .GtE) (r2 X.K (b2 (jh λi j=>decide (j<=i)))):=oz xr (λ_ _ _ _ _=>.bl _) Iq
noncomputable def lG:D->Bool
 | .non=>M
 | .bl _=>M
 | .int _=>M
 | .str _=>M
 |_=>J
noncomputable def JN:D->D->Option Bool
 | .non,.non=>some true
 | .bl a,.bl b=>some (a == b)
 | .bl a,.int b=>some ((if a then 1 else 0) == b)
 | .int a,.bl b=>some (a == (if b then 1 else 0))
 | .int a,.int b=>some (a == b)
 | .str a,.str b=>some (a == b)
 |d,e=>if lG d&&lG e then some false else none
noncomputable def oT(f:D->D->Option Bool):List D->List D->Option Bool
 |x::xs,y::ys=>(f x y).bind λb=>(oT f xs ys).map λc=>b&&c
 |[],[]=>Z M
 |_,_=>Z J
def gI(S:Sto):Nat->D->D->Option Bool
 |0,_,_=>Y
 |n+1,d,e=>match et S d,et S e with
  |some p,Z q=>if p.1=q.1 then(if p.1=M/\p.2.length≠q.2.length then Z J else oT (gI S n) p.2 q.2)else Z J
  |some _,Y=>if lG e=M then Z J else Y
  |none,Z _=>if lG d=M then Z J else Y
  |none,Y=>JN d e
section
variable{ag:List (dP×Obj)}{σ:L2.St}{H:Hp}{s:dN}{mu:List dP}{S:Sto}
theorem fV{K:Fg1}{d:D}{v:V}(r:eX K H mu d v)(h:lG d=M):kh v=M /\ ∀e w,eX K H mu e w->lG e=M->JN d e=Z (u4 v w):=by
 cases d with
 |non=>cases r;refine⟨O,λe w q f=>?_⟩;cases e with
  |non=>cases q;rfl
  |bl _=>cases q;rfl
  |int _=>cases q;rfl
  |str _=>cases q;rfl
  |_=>cases f
 |bl b=>cases r;refine⟨O,λe w q f=>?_⟩;cases e with
  |non=>cases q;rfl
  |bl _=>cases q;rfl
  |int _=>cases q;rfl
  |str _=>cases q;rfl
  |_=>cases f
 |int i=>cases r;refine⟨O,λe w q f=>?_⟩;cases e with
  |non=>cases q;rfl
  |bl _=>cases q;rfl
  |int _=>cases q;rfl
  |str _=>cases q;rfl
  |_=>cases f
 |str x=>cases r;refine⟨O,λe w q f=>?_⟩;cases e with
  |non=>cases q;rfl
  |bl _=>cases q;rfl
  |int _=>cases q;rfl
  |str _=>cases q;rfl
  |_=>cases f
 |_=>cases h
theorem oU{d e:D}{b:Bool}(h:JN d e=Z b):lG d=M/\lG e=M:=by
 cases d<;>cases e<;>first|exact⟨rfl,rfl⟩|(cases h;done)|exact nomatch h|(simp[JN,lG]at h)
theorem Br{v:V}(h:kh v=M):u4 v v=M:=by
 cases v<;>first|rfl|(cases h;done)|exact beq_self_eq_true _|(simp[u4];done)
theorem uG(I:Inv X ag σ H s)(hs:Sim X.K H mu S):∀(n:Nat) {d e:D} {v:V} {b:Bool},eX X.K H mu d v->eX X.K H mu e v->gI S n d e=Z b->b=M
 |0,_,_,_,_,_,_,h=>by cases h
 |n + 1,d,e,v,b,u,l,h=>by
  rw[gI]at h;have g:∀{xs ys:List D} {vs:List V} {b:Bool},eh X.K H mu xs vs->eh X.K H mu ys vs->oT (gI S n) xs ys=Z b->b=M:=by
   intro xs
   induction xs with
   |nil=>intro ys vs b B A h;cases B;cases A;cases h;rfl
   |cons x xs ih=>
    intro ys vs b B A h;cases B with
    |cons r t=>
     cases A with
     |cons K av=>
      rw[oT]at h;obtain⟨b1,k,h⟩:=oB1.mp h;obtain⟨b2,c,h⟩:=oM1.mp h;subst h;rw[uG I hs n r K k,ih t av c];rfl
  cases hd:et S d with
  |some p=>
   obtain⟨E,xs⟩:=p;obtain⟨a,vs,rfl,q,t⟩:=eB u hs hd;cases he:et S e with
   |some p2=>
    obtain⟨qb,ys⟩:=p2;obtain⟨a2,y,c,z,m⟩:=eB l hs he;cases c;rw[hd,he]at h;dsimp only at h;obtain⟨T,U,F,_⟩:=fq I q;obtain⟨C,P,j,_⟩:=fq I z;have ao:E=qb:=by
     cases E<;>cases qb
     ·rfl
     ·obtain⟨o,k,w,_⟩:=F;obtain⟨L,c,i,_⟩:=j;rw[k]at c;cases c;rw[w]at i;exact absurd i (by decide)
     ·obtain⟨o,k,w,_⟩:=F;obtain⟨L,c,i,_⟩:=j;rw[k]at c;cases c;rw[w]at i;exact absurd i (by decide)
     ·rfl
    subst ao;have Q:=nE I q z;subst Q;rw[ak O,aj (by rw[t.length,m.length];simp)]at h;exact g t m h
   |none=>
    rw[hd,he]at h;dsimp only at h;split at h
    ·rename_i f;have:=(fV l f).1;cases this
    ·cases h
  |none=>
   cases he:et S e with
   |some p2=>
    obtain⟨qb,ys⟩:=p2;obtain⟨a2,y,c,z,m⟩:=eB l hs he;subst c;rw[hd,he]at h;dsimp only at h;split at h
    ·rename_i f;have:=(fV u f).1;cases this
    ·cases h
   |none=>
    rw[hd,he]at h;dsimp only at h;obtain⟨N,aq⟩:=oU h;obtain⟨G,R⟩:=fV u N;rw[R e v l aq]at h;cases h;exact Br G
theorem fI{A:dR}{b:Bool}{a:dP}{its:Array dM}{v:V}{u:dM}(c:SCo b s.heap a its)(r:ew v u)(f:kh v=true)(d:A.units<cLine):
   SeqAt.EqAt A s (.ref a) u J/\SeqAt.EqAt A s u (.ref a) J/\SeqAt.RcAt A s (.ref a) u J/\SeqAt.RcAt A s u (.ref a) J:=by
 cases v with
 | non => cases r;cases b
          · exact⟨.tuple_none c d,.none_tuple c d,.tuple_none c d,.none_tuple c d⟩
          · exact⟨.list_none c d,.none_list c d,.list_none c d,.none_list c d⟩
 | bl k => cases r;cases b
           · exact⟨.tuple_bool k c d,.bool_tuple k c d,.tuple_bool k c d,.bool_tuple k c d⟩
           · exact⟨.list_bool k c d,.bool_list k c d,.list_bool k c d,.bool_list k c d⟩
 | int i => obtain ⟨t,rfl⟩:=r;cases b
            · exact⟨.tuple_int i t c d,.int_tuple i t c d,.tuple_int i t c d,.int_tuple i t c d⟩
            · exact⟨.list_int i t c d,.int_list i t c d,.list_int i t c d,.int_list i t c d⟩
 | str x => obtain ⟨t,rfl⟩:=r;cases b
            · exact⟨.tuple_str x t c d,.str_tuple x t c d,.tuple_str x t c d,.str_tuple x t c d⟩
            · exact⟨.list_str x t c d,.str_list x t c d,.list_str x t c d,.str_list x t c d⟩
 |_=>cases f
theorem Cp{A:dR}{x y:V}{u w:dM}(f:ew x u)(a:ew y w)(h:kh x=M)(d:kh y=M):SeqAt.RcAt A s u w (u4 x y):=by
 cases x with
 |non=>cases f;cases y with
  |non=>cases a;exact .none_none
  |bl k=>cases a;exact .none_bool k
  |int i=>obtain⟨t,rfl⟩:=a;exact .none_int i t
  |str z=>obtain⟨t,rfl⟩:=a;exact .none_str z t
  |_=>cases d
 |bl g=>cases f;cases y with
  |non=>cases a;exact .bool_none g
  |bl k=>cases a;exact .bool_bool g k
  |int i=>obtain⟨t,rfl⟩:=a;exact .bool_int g i t
  |str z=>obtain⟨t,rfl⟩:=a;exact .bool_str g z t
  |_=>cases d
 |int c=>obtain⟨b,rfl⟩:=f;cases y with
  |non=>cases a;exact .int_none c b
  |bl k=>cases a;exact .int_bool c b k
  |int i=>obtain⟨t,rfl⟩:=a;exact .int_int c b i t
  |str z=>obtain⟨t,rfl⟩:=a;exact .int_str c b z t
  |_=>cases d
 |str e=>obtain⟨b,rfl⟩:=f;cases y with
  |non=>cases a;exact .str_none e b
  |bl k=>cases a;exact .str_bool e b k
  |int i=>obtain⟨t,rfl⟩:=a;exact .str_int e b i t
  |str z=>obtain⟨t,rfl⟩:=a;exact .str_str e b z t
  |_=>cases d
 |_=>cases h
theorem vV(f:D->D->Option Bool):∀{xs ys:List D} {b:Bool},oT f xs ys=Z b -> ∃e:Nat->Bool,(∀j x y,xs[j]?=Z x->ys[j]?=Z y->f x y=Z (e j))/\b=((af (min xs.length ys.length)).all e&&xs.length == ys.length)
 |[],[],b,h=>by cases h;exact⟨λ_=>M,λj x y h=>by simp at h,O⟩
 |[],y::ys,b,h=>by cases h;exact⟨λ_=>M,λj x y h=>by simp at h,by simp⟩
 |x::xs,[],b,h=>by cases h;exact⟨λ_=>M,λj x y h h'=>by simp at h',by simp⟩
 |x::xs,y::ys,b,h=>by
  rw[oT]at h;obtain⟨b1,d,h⟩:=oB1.mp h;obtain⟨b2,k,h⟩:=oM1.mp h;obtain⟨e,m,g⟩:=vV f k;refine⟨λj=>match j with|0=>b1|j+1=>e j,λj i l c a=>?_,?_⟩
  ·cases j with
   |zero=>simp at c a;subst c;subst a;exact d
   |succ j=>exact m j i l (by simpa using c) (by simpa using a)
  ·rw[<- h,g,lC1,lC1,Nat.succ_min_succ,List.range_succ_eq_map,bV,List.all_map];have:((xs.length+1 == ys.length+1):Bool)=(xs.length == ys.length):=by simp
   rw[this,Bool.and_assoc];rfl
theorem mz(I:Inv X ag σ H s)(hs:Sim X.K H mu S):∀(n:Nat) {A:dR} {d e:D} {v w:V} {u z:dM} {b:Bool},A.units+n<cLine->eX X.K H mu d v->eX X.K H mu e w->ew v u->ew w z->gI S n d e=Z b->SeqAt.EqAt A s u z b/\SeqAt.RcAt A s u z b
 |0,_,_,_,_,_,_,_,_,_,_,_,_,_,h=>by cases h
 |n + 1,A,d,e,v,w,u,z,b,hu,Q,r,R,L,h=>by
  have g:A.units<cLine:=by lia
  have h0:=h;rw[gI]at h;cases hd:et S d with
  |some p=>
   obtain⟨wq,xs⟩:=p;obtain⟨a,vs,rfl,q,t⟩:=eB Q hs hd;obtain⟨k,av,o,_⟩:=fq I q;cases R;cases he:et S e with
   |some p2=>
    obtain⟨qb,ys⟩:=p2;obtain⟨a2,C,rfl,q2,P⟩:=eB r hs he;obtain⟨c,m,i,_⟩:=fq I q2;cases L;rw[hd,he]at h;dsimp only at h;have l:SeqAt.RcAt A s (.ref a) (.ref a2) b->SeqAt.EqAt A s (.ref a) (.ref a2) b/\SeqAt.RcAt A s (.ref a) (.ref a2) b:=λrc=>by
     refine⟨?_,rc⟩;by_cases ha:a=a2
     ·subst ha;rw[uG I hs (n+1) Q r h0];exact .same _
     ·exact .of_refs ha rc
    split at h
    ·rename_i N;have hb':wq=qb:=N;subst hb';split at h
     ·rename_i U;cases h;obtain⟨h1,h2⟩:=U;subst h1;refine l (.lists_lengths o i ?_ g);have l1:=t.length;have l2:=P.length;have l3:=av.length;have l4:=m.length
      simp only[sT1,bne_iff_ne,ne_eq];lia
     ·rename_i U;obtain ⟨f,hf,E⟩:=vV _ h;have elts:∀ j (h1:j<k.toArray.size) (h2:j<c.toArray.size),SeqAt.EqAt A.in1 s k.toArray[j] c.toArray[j] (f j):=fun j h1 h2=>by
       have K:j<k.length:=by simpa using h1
       have F:j<c.length:=by simpa using h2
       have k1:j<vs.length:=by rw[av.length];exact K
       have k2:j<C.length:=by rw[m.length];exact F
       obtain⟨x,ex,rx⟩:=t.getV (gG1 k1);obtain⟨y,ey,ry⟩:=P.getV (gG1 k2);obtain⟨u1,B,T⟩:=av.get (gG1 k1);obtain⟨u2,aq,au⟩:=m.get (gG1 k2);have G:k.toArray[j]=u1:=by
        rw[gG1 K]at B;simpa using B
       have W:c.toArray[j]=u2:=by
        rw[gG1 F]at aq;simpa using aq
       rw[G,W];exact(mz I hs n (A:=A.in1) (by show A.units+1+n<cLine;lia) rx ry T au (hf j x y ex ey)).1
      have l1:=t.length;have l2:=P.length;have l3:=av.length;have l4:=m.length
      cases wq with
      |false=>
       refine l ?_;have:=SeqAt.RcAt.tuples o i g elts;rw[E];have G:k.toArray.size=xs.length:=by simp;lia
       have W:c.toArray.size=ys.length:=by simp;lia
       rw[G,W]at this;exact this
      |true=>
       refine l ?_;have ao:xs.length=ys.length:=by
        by_cases z:xs.length=ys.length
        ·exact z
        ·exact absurd ⟨O,z⟩ U
       have:=SeqAt.RcAt.lists o i (by simp;lia) g elts;rw[E];have G:k.toArray.size=xs.length:=by simp;lia
       rw[G]at this;rw[ao,Nat.min_self,beq_self_eq_true,bS,<- ao];exact this
    ·rename_i N;cases h;cases wq with
     |true=>
      cases qb with
      |true=>exact absurd O N
      |false=>exact⟨.list_tuple o i g,.list_tuple o i g⟩
     |false=>
      cases qb with
      |false=>exact absurd O N
      |true=>exact⟨.tuple_list o i g,.tuple_list o i g⟩
   |none=>
    rw[hd,he]at h;dsimp only at h;split at h
    ·rename_i f;cases h;obtain⟨r1,r2,r3,r4⟩:=fI o L (fV r f).1 g;exact⟨r1,r3⟩
    ·cases h
  |none=>
   cases he:et S e with
   |some p2=>
    obtain⟨qb,ys⟩:=p2;obtain⟨a2,C,rfl,q2,P⟩:=eB r hs he;obtain⟨c,m,i,_⟩:=fq I q2;cases L;rw[hd,he]at h;dsimp only at h;split at h
    ·rename_i f;cases h;obtain⟨r1,r2,r3,r4⟩:=fI i R (fV Q f).1 g;exact⟨r2,r4⟩
    ·cases h
   |none=>
    rw[hd,he]at h;dsimp only at h;obtain⟨f1,f2⟩:=oU h;obtain⟨g1,g2⟩:=fV Q f1;have g3:=(fV r f2).1;rw[g2 e w r f2]at h;cases h;exact⟨kA R L g1 g3,Cp R L g1 g3⟩
end
noncomputable def eZ:Nat:=60
def pP:G2:=λd e S=>(gI S eZ d e).map λb=>(.bl b,S)
theorem nr(k:X.A.units+64<cLine):gF X (compareOp .Eq) (r2 X.K (b2 pP)):=by
 intro ag s σ H x y u w Q I j g h;obtain⟨mu,S,d,e,r,l,f,r2,c,a,hc⟩:=pA h;obtain⟨b,i,a⟩:=oM1.mp a;cases a;exact(mz I c eZ (by show _+60<cLine;lia) f r2 j g i).2 X.prog X.w X.xe _ ⟨.bl b,H,I,O,hc.now (.bl b) c⟩
section
variable{ag:List (dP×Obj)}{σ:L2.St}{H:Hp}{s:dN}{mu:List dP}{S:Sto}
theorem CW{A:dR}{x y:V}{u w:dM}(f:ew x u)(a:ew y w)(h:kh x=M)(d:kh y=M):SeqAt.RcNeAt A s u w (!u4 x y):=by
 cases x with
 |non=>cases f;cases y with
  |non=>cases a;exact .none_none
  |bl k=>cases a;exact .none_bool k
  |int i=>obtain⟨t,rfl⟩:=a;exact .none_int i t
  |str z=>obtain⟨t,rfl⟩:=a;exact .none_str z t
  |_=>cases d
 |bl g=>cases f;cases y with
  |non=>cases a;exact .bool_none g
  |bl k=>cases a;exact .bool_bool g k
  |int i=>obtain⟨t,rfl⟩:=a;exact .bool_int g i t
  |str z=>obtain⟨t,rfl⟩:=a;exact .bool_str g z t
  |_=>cases d
 |int c=>obtain⟨b,rfl⟩:=f;cases y with
  |non=>cases a;exact .int_none c b
  |bl k=>cases a;exact .int_bool c b k
  |int i=>obtain⟨t,rfl⟩:=a;exact .int_int c b i t
  |str z=>obtain⟨t,rfl⟩:=a;exact .int_str c b z t
  |_=>cases d
 |str e=>obtain⟨b,rfl⟩:=f;cases y with
  |non=>cases a;exact .str_none e b
  |bl k=>cases a;exact .str_bool e b k
  |int i=>obtain⟨t,rfl⟩:=a;exact .str_int e b i t
  |str z=>obtain⟨t,rfl⟩:=a;exact .str_str e b z t
  |_=>cases d
 |_=>cases h
theorem mW{A:dR}{b:Bool}{a:dP}{its:Array dM}{v:V}{u:dM}(c:SCo b s.heap a its)(r:ew v u)(f:kh v=M)(d:A.units<cLine):SeqAt.RcNeAt A s (.ref a) u M/\SeqAt.RcNeAt A s u (.ref a) M:=by
 cases v with
 | non => cases r;cases b
          · exact⟨.tuple_none c d,.none_tuple c d⟩
          · exact⟨.list_none c d,.none_list c d⟩
 | bl k => cases r;cases b
           · exact⟨.tuple_bool k c d,.bool_tuple k c d⟩
           · exact⟨.list_bool k c d,.bool_list k c d⟩
 | int i => obtain ⟨t,rfl⟩:=r;cases b
            · exact⟨.tuple_int i t c d,.int_tuple i t c d⟩
            · exact⟨.list_int i t c d,.int_list i t c d⟩
 | str x => obtain ⟨t,rfl⟩:=r;cases b
            · exact⟨.tuple_str x t c d,.str_tuple x t c d⟩
            · exact⟨.list_str x t c d,.str_list x t c d⟩
 |_=>cases f
theorem Gb(I:Inv X ag σ H s)(hs:Sim X.K H mu S)(n:Nat){A:dR}{d e:D}{v w:V}{u z:dM}{b:Bool}(hu:A.units+n<cLine)(U:eX X.K H mu d v)(o:eX X.K H mu e w)(W:ew v u)(aq:ew w z)(h:gI S n d e=Z b):SeqAt.RcNeAt A s u z (!b):=by
 cases n with
 |zero=>cases h
 |succ n=>
  have g:A.units<cLine:=by lia
  rw[gI]at h;cases hd:et S d with
  |some p=>
   obtain⟨au,xs⟩:=p;obtain⟨a,vs,rfl,q,t⟩:=eB U hs hd;obtain⟨k,P,m,_⟩:=fq I q;cases W;cases he:et S e with
   |some p2=>
    obtain⟨qb,ys⟩:=p2;obtain⟨a2,B,rfl,wq,Q⟩:=eB o hs he;obtain⟨c,l,i,_⟩:=fq I wq;cases aq;rw[hd,he]at h;dsimp only at h;have l1:=t.length;have l2:=Q.length;have l3:=P.length;have l4:=l.length
    split at h
    ·rename_i L;have hb':au=qb:=L;subst hb';split at h
     ·rename_i av;cases h;obtain⟨h1,h2⟩:=av;subst h1;refine .lists_lengths m i ?_ g;simp only[sT1,bne_iff_ne,ne_eq];lia
     ·rename_i av;obtain ⟨f,hf,C⟩:=vV _ h;have elts:∀ j (h1:j<k.toArray.size) (h2:j<c.toArray.size),SeqAt.EqAt A.in1 s k.toArray[j] c.toArray[j] (f j):=fun j h1 h2=>by
       have ao:j<k.length:=by simpa using h1
       have E:j<c.length:=by simpa using h2
       have k1:j<vs.length:=by rw[P.length];exact ao
       have k2:j<B.length:=by rw[l.length];exact E
       obtain⟨x,ex,rx⟩:=t.getV (gG1 k1);obtain⟨y,ey,ry⟩:=Q.getV (gG1 k2);obtain⟨u1,r,N⟩:=P.get (gG1 k1);obtain⟨u2,K,T⟩:=l.get (gG1 k2);have F:k.toArray[j]=u1:=by
        rw[gG1 ao]at r;simpa using r
       have R:c.toArray[j]=u2:=by
        rw[gG1 E]at K;simpa using K
       rw[F,R];exact(mz I hs n (A:=A.in1) (by show A.units+1+n<cLine;lia) rx ry N T (hf j x y ex ey)).1
      cases au with
      |false=>
       have:=SeqAt.RcNeAt.tuples m i g elts;rw[C];have F:k.toArray.size=xs.length:=by simp;lia
       have R:c.toArray.size=ys.length:=by simp;lia
       rw[F,R]at this;exact this
      |true=>
       have G:xs.length=ys.length:=by
        by_cases z:xs.length=ys.length
        ·exact z
        ·exact absurd ⟨O,z⟩ av
       have:=SeqAt.RcNeAt.lists m i (by simp;lia) g elts;rw[C];have F:k.toArray.size=xs.length:=by simp;lia
       rw[F]at this;rw[G,Nat.min_self,beq_self_eq_true,bS,<- G];exact this
    ·rename_i L;cases h;cases au with
     |true=>
      cases qb with
      |true=>exact absurd O L
      |false=>exact .list_tuple m i g
     |false=>
      cases qb with
      |false=>exact absurd O L
      |true=>exact .tuple_list m i g
   |none=>
    rw[hd,he]at h;dsimp only at h;split at h
    ·rename_i f;cases h;exact(mW m aq (fV o f).1 g).1
    ·cases h
  |none=>
   cases he:et S e with
   |some p2=>
    obtain⟨qb,ys⟩:=p2;obtain⟨a2,B,rfl,wq,Q⟩:=eB o hs he;obtain⟨c,l,i,_⟩:=fq I wq;cases aq;rw[hd,he]at h;dsimp only at h;split at h
    ·rename_i f;cases h;exact(mW i W (fV U f).1 g).2
    ·cases h
   |none=>
    rw[hd,he]at h;dsimp only at h;obtain⟨f1,f2⟩:=oU h;obtain⟨g1,g2⟩:=fV U f1;have g3:=(fV o f2).1;rw[g2 e w o f2]at h;cases h;exact CW W aq g1 g3
end
def GW:G2:=λd e S=>(gI S eZ d e).map λb=>(.bl (!b),S)
noncomputable def B2(f:D->D->Option Bool)(x:D):List D->Option Bool
 |[]=>Z J
 |y::ys=>(f y x).bind λb=>(B2 f x ys).map λc=>b||c
def Hz:G2:=λd e S=>(et S e).bind λp=>(B2 (gI S eZ) d p.2).map λb=>(.bl b,S)
def ms:G2:=λd e S=>(et S e).bind λp=>(B2 (gI S eZ) d p.2).map λb=>(.bl (!b),S)
noncomputable def qB:D->Bool
 | .non=>M
 |_=>J
def KG:G2:=λd e S=>match e with
 | .non=>Z (.bl (qB d),S)
 |_=>Y
def DM:G2:=λd e S=>match e with
 | .non=>Z (.bl (!qB d),S)
 |_=>Y
section
theorem F8(k:X.A.units+64<cLine):gF X (compareOp .NotEq) (r2 X.K (b2 GW)):=by
 intro ag s σ H x y u w Q I j g h;obtain⟨mu,S,d,e,r,l,f,r2,c,a,hc⟩:=pA h;obtain⟨b,i,a⟩:=oM1.mp a;cases a;exact Gb I c eZ (by show _+60<cLine;lia) f r2 j g i X.prog X.w X.xe _ ⟨.bl (!b),H,I,O,hc.now (.bl _) c⟩
theorem A9(f:D->D->Option Bool)(x:D):∀{ys:List D} {b:Bool},B2 f x ys=Z b -> ∃bs:List Bool,bs.length=ys.length/\(∀(j:Nat) (y:D) (k:Bool),ys[j]?=Z y->bs[j]?=Z k->f y x=Z k)/\b=bs.any id
 |[],b,h=>by cases h;exact⟨[],O,λj y k h=>by simp at h,O⟩
 |y::ys,b,h=>by
  rw[B2]at h;obtain⟨b1,g,h⟩:=oB1.mp h;obtain⟨b2,i,h⟩:=oM1.mp h;obtain⟨bs,m,e,a⟩:=A9 f x i;refine⟨b1::bs,by simp[m],λj l k d c=>?_,?_⟩
  ·cases j with
   |zero=>simp at d c;subst d;subst c;exact g
   |succ j=>exact e j l k (by simpa using d) (by simpa using c)
  ·rw[<- h,a];simp
open Classical in
theorem Ex{ag:List (dP×Obj)}{σ:L2.St}{H:Hp}{s:dN}{mu:List dP}{S:Sto}(I:Inv X ag σ H s)(hs:Sim X.K H mu S){A:dR}(G:A.units+61<cLine){x:D}{v:V}{u:dM}(B:eX X.K H mu x v)(t:ew v u){ys:List D}{vs:List V}{a:List dM}{b:Bool}(p:eh X.K H mu ys vs)(n:eI vs a)(h:B2 (gI S eZ) x ys=Z b):∃e:dM->Bool,(∀w∈a,SeqAt.EqAt A.in1 s w u (e w))/\a.any e=b:=by
 obtain⟨bs,ao,r,rfl⟩:=A9 _ x h;have L:=p.length;have K:=n.length;have at_:∀(j:Nat) w k,a[j]?=Z w->bs[j]?=Z k->SeqAt.EqAt A.in1 s w u k:=λj w k g f=>by
  have m:j<a.length:=(gE1.mp g).1;obtain⟨y,C,E⟩:=p.getV (i:=j) (v:=vs[j]'(by lia)) (gG1 (by lia));obtain⟨aq,o,r2⟩:=n.get (i:=j) (x:=vs[j]'(by lia)) (gG1 (by lia));rw[g]at o;cases o;exact(mz I hs eZ (A:=A.in1) (by show A.units+1+60<cLine;lia) E B r2 t (r j y k C f)).1
 refine⟨λw=>decide (∃j:Nat,a[j]?=Z w/\bs[j]?=Z M),λw g=>?_,?_⟩
 ·by_cases z:∃j:Nat,a[j]?=Z w/\bs[j]?=Z M
  ·dsimp only;rw[ah z];obtain⟨j,q,c⟩:=z;exact at_ j w M q c
  ·dsimp only;rw[ai z];obtain⟨j,d⟩:=bA g;have m:j<a.length:=(gE1.mp d).1;have l:j<bs.length:=by lia
   have c:=gG1 l;cases f:bs[j]with
   |true=>rw[f]at c;exact absurd ⟨j,d,c⟩ z
   |false=>rw[f]at c;exact at_ j w J d c
 ·rw[bW,bX,bX];constructor
  ·rintro⟨w,g,z⟩;obtain⟨j,q,c⟩:=of_decide_eq_true z;exact⟨M,gM1 c,O⟩
  ·rintro⟨k,f,z⟩;obtain⟨j,d⟩:=bA f;have m:j<bs.length:=(gE1.mp d).1;have l:j<a.length:=by lia
   have F:k=M:=z;subst F;exact⟨a[j],bY l,ah ⟨j,gG1 l,d⟩⟩
theorem Ks(E:X.A.units+64<cLine):gF X (compareOp .In) (r2 X.K (b2 Hz)):=by
 intro ag s σ H x y u w Q I C o h;obtain⟨mu,S,d,e,r,F,n,r2,j,g,hc⟩:=pA h;obtain⟨⟨z,ys⟩,v,g⟩:=oB1.mp g;obtain⟨b,D,g⟩:=oM1.mp g;cases g;obtain⟨a,vs,rfl,q,t⟩:=eB r2 j v;cases o;obtain⟨c,B,m,_⟩:=fq I q;obtain⟨f,l,p⟩:=Ex I j (A:=X.A) (by lia) n C t B D;have i:EP X ag σ Q (.bool (c.toArray.any f)) s:=⟨.bl b,H,I,by rw[show c.toArray.any f=c.any f by simp,p];rfl,hc.now (.bl b) j⟩;cases z
 ·exact SeqAt.in_tupleAt f m (λy k=>l y (by simpa using k)) i
 ·exact SeqAt.in_listAt f m (λy k=>l y (by simpa using k)) i
theorem CS(E:X.A.units+64<cLine):gF X (compareOp .NotIn) (r2 X.K (b2 ms)):=by
 intro ag s σ H x y u w Q I C o h;obtain⟨mu,S,d,e,r,F,n,r2,j,g,hc⟩:=pA h;obtain⟨⟨z,ys⟩,v,g⟩:=oB1.mp g;obtain⟨b,D,g⟩:=oM1.mp g;cases g;obtain⟨a,vs,rfl,q,t⟩:=eB r2 j v;cases o;obtain⟨c,B,m,_⟩:=fq I q;obtain⟨f,l,p⟩:=Ex I j (A:=X.A) (by lia) n C t B D;have i:EP X ag σ Q (.bool (!c.toArray.any f)) s:=⟨.bl (!b),H,I,by rw[show c.toArray.any f=c.any f by simp,p];rfl,hc.now (.bl _) j⟩;cases z
 ·exact SeqAt.notIn_tupleAt f m (λy k=>l y (by simpa using k)) i
 ·exact SeqAt.notIn_listAt f m (λy k=>l y (by simpa using k)) i
theorem wX{K:Fg1}{H:Hp}{mu:List dP}{d:D}{v:V}(r:eX K H mu d v):qB d=decide (v = .non):=by
 cases r<;>simp[qB]
theorem Iv:gF X (compareOp .Is) (r2 X.K (b2 KG)):=by
 intro ag s σ H x y u w Q I g c h;obtain⟨mu,S,d,e,r,i,b,r2,f,a,hc⟩:=pA h;cases e with
 |non=>
  cases a;cases r2;refine F2 ag s σ H _ _ u w Q I g c ⟨O,?_⟩;rw[<- wX b];exact hc.now (.bl _) f
 |_=>cases a
theorem F7:gF X (compareOp .IsNot) (r2 X.K (b2 DM)):=by
 intro ag s σ H x y u w Q I g c h;obtain⟨mu,S,d,e,r,i,b,r2,f,a,hc⟩:=pA h;cases e with
 |non=>
  cases a;cases r2;refine CN ag s σ H _ _ u w Q I g c ⟨O,?_⟩;rw[<- wX b];exact hc.now (.bl _) f
 |_=>cases a
end
def fc:G1:=λd S=>match d with
 | .str x=>if x.length<=dW then Z (.int x.length,S)else Y
 |_=>(et S d).map λp=>(.int p.2.length,S)
def Bh:G2:=λd e S=>match e with
 | .int i=>(et S d).bind λp=>(u5 p.2 i).map λx=>(x,S)
 |_=>Y
def gTup:G1:=λd S=>(et S d).map λp=>(.tup p.2,S)
def kx:G3:=λo i v S=>match o,i with
 | .ref n,.int k=>match S[n]? with
  |some (.lst xs)=>(xg xs.length k).map λj=>(.non,S.set n (.lst (xs.set j v)))
  |_=>Y
 |_,_=>Y
noncomputable def lF:G1:=λd S=>match d with
 | .int i=>Z (.int i,S)
 | .bl b=>Z (.int (if b then 1 else 0),S)
 |_=>Y
noncomputable def DJ:G2:=λd e S=>match d,e with
 | .int i,.int j=>Z (.int (if j>i then j else i),S)
 |_,_=>Y
noncomputable def DI:G2:=λd e S=>match d,e with
 | .int i,.int j=>Z (.int (if j<i then j else i),S)
 |_,_=>Y
theorem fy:fH X (.builtin "len") (rN X.K (b1 fc)):=by
 intro ag s σ H xs g Q I r h;obtain⟨x,mu,S,d,k,l,rfl,f,e,c,hc⟩:=Ep h;unfold fc at c;split at c
 ·split at c
  ·rename_i z j;cases c;cases f;exact sU ag s σ H _ g Q I r ⟨_,O,j,hc.now (.int _) e⟩
  ·cases c
 ·obtain⟨⟨b,ys⟩,i,c⟩:=oM1.mp c;cases c;obtain⟨a,vs,rfl,q,t⟩:=eB f e i;refine sV ag s σ H _ g Q I r ⟨a,vs,O,?_,?_⟩
  ·cases b
   ·exact .inr q
   ·exact .inl q
  ·rw[<- t.length];exact hc.now (.int _) e
theorem D9{K:Fg1}{H:Hp}{mu:List dP}{ds:List D}{vs:List V}{i:Int}{d:D}(t:eh K H mu ds vs)(h:u5 ds i=Z d):∃v,u5 vs i=Z v/\eX K H mu d v:=by
 unfold u5 at h ⊢;rw[<- t.length];obtain⟨j,c,h⟩:=oB1.mp h;obtain⟨v,a,b⟩:=t.get h;exact⟨v,by rw[c];exact a,b⟩
theorem JW:EL X (r2 X.K (b2 Bh)):=by
 intro value c ag s σ H x y v u Q I o k h g;obtain⟨mu,S,d,e,r,B,p,r2,j,f,hc⟩:=pA h;cases e with
 |int i=>
  obtain⟨⟨b,ys⟩,w,f⟩:=oB1.mp f;obtain⟨z,A,f⟩:=oM1.mp f;cases f;cases r2;obtain⟨a,vs,rfl,q,t⟩:=eB p j w;obtain⟨m,l,n⟩:=D9 t A;cases b
  ·exact GS value c ag s σ H _ _ v u Q I o k ⟨a,vs,i,m,O,O,q,l,hc.now n j⟩ g
  ·exact Ds value c ag s σ H _ _ v u Q I o k ⟨a,vs,i,m,O,O,q,l,hc.now n j⟩ g
 |_=>cases f
theorem e9:fH X (.type "tuple") (rN X.K (b1 gTup)):=by
 intro ag s σ H xs j Q I r h;obtain⟨x,mu,S,d,k,m,rfl,g,c,e,hc⟩:=Ep h;obtain⟨⟨b,ys⟩,i,e⟩:=oM1.mp e;cases e;obtain⟨a,vs,rfl,q,t⟩:=eB g c i;refine pU ag s σ H _ j Q I r ⟨a,vs,O,?_⟩;cases b
 ·exact .inr ⟨q,hc.now (.tup q t) c⟩
 ·exact .inl ⟨q,λl f=>hc _ _ mu (Ext.fresh f) (.tup (lY.of eF) (t.ext (Ext.fresh f))) (c.fresh f)⟩
theorem H0:wb X (rU X.K (b3 kx)):=by
 intro ag s σ H o i v A w u Q I x r m h;obtain⟨mu,S,ds,d,D,g,f,a,hc⟩:=h;cases g with
 |cons q l=>cases l with
  |cons B p=>cases p with
   |cons C y=>
    cases y;rename_i G F E;dsimp only[b3]at a;unfold kx at a;split at a
    ·rename_i n k;split at a
     ·rename_i xs e;obtain⟨j,z,a⟩:=oM1.mp a;cases a;cases q with
      |ref b=>
       cases B;obtain⟨vs,c,t⟩:=f.lst e b;refine z0 ag s σ H _ _ v A w u Q I x r m ⟨_,vs,k,j,O,O,c,by rw[<- t.length];exact z,?_⟩;exact hc _ mu (Ext.put c trivial (gM1 b)) (f.putL (t.set C j) b c)
     ·cases a
    ·cases a
theorem ro:fH X (.type "int") (rN X.K (b1 lF)):=by
 intro ag s σ H xs f Q I r h;obtain⟨x,mu,S,d,g,j,rfl,c,e,a,hc⟩:=Ep h;cases d with
 |int i=>cases a;cases c;exact rn ag s σ H _ f Q I r (.inl ⟨i,O,hc.now (.int _) e⟩)
 |bl b=>cases a;cases c;exact rn ag s σ H _ f Q I r (.inr ⟨b,O,hc.now (.int _) e⟩)
 |_=>cases a
theorem Jo(hc:X.calm=M):fH X (.builtin "max") (rN X.K (b2 DJ)):=by
 intro ag s σ H xs g Q I r h;obtain⟨x,y,mu,S,d,e,i,j,rfl,c,r2,f,a,b⟩:=yh h;unfold DJ at a;split at a
 ·cases a;cases c;cases r2;exact zg hc ag s σ H _ g Q I r ⟨_,_,O,b.now (.int _) f⟩
 ·cases a
theorem Jn(hc:X.calm=M):fH X (.builtin "min") (rN X.K (b2 DI)):=by
 intro ag s σ H xs g Q I r h;obtain⟨x,y,mu,S,d,e,i,j,rfl,c,r2,f,a,b⟩:=yh h;unfold DI at a;split at a
 ·cases a;cases c;cases r2;exact zf hc ag s σ H _ g Q I r ⟨_,_,O,b.now (.int _) f⟩
 ·cases a
open PySem.SeqAt
open PySem.AutoSeq1 (wpAny_loadPart')
open PySem.MeetsSeq PySem.MeetsSeq2 PySem.MeetsSeq3
def BX(A:dR)(s:dN)(y x:dM)(b:Bool):Prop:=∀(prog:dQ) (w:dS) (E:dM->dN->Prop) (Q:dM->dN->Prop),Q (.bool b) s->dX (model prog w) A (richCompare .Lt y x) Q E s
inductive uX (A:dR)(s:dN):List dM->List dM->Bool->Prop
 |nn:uX A s [] [] false
 |nc (y:dM) (ys:List dM):uX A s [] (y::ys) true
 |cn (x:dM) (xs:List dM):uX A s (x::xs) [] false
 |eq {x y:dM} {xs ys:List dM} {k:Bool} (e:EqAt A.in1 s x y true) (t:uX A s xs ys k):uX A s (x::xs) (y::ys) k
 |lt {x y:dM} {xs ys:List dM} {k:Bool} (e:EqAt A.in1 s x y false) (t:BX A.in1 s x y k):uX A s (x::xs) (y::ys) k
theorem EW(l b:dP)(items items2:Array dM)(n D:Nat)(dd p:Option dP)(sl m:Array (Option dM))(c:Bool):
  Meets (Builtin.«tuple.__lt__» ⟨[.ref l,.ref b],[]⟩) (fun A R s=>s.heap.get? l=some {cls:=.type "tuple",dict:=dd,data:=.seq items n,slots:=sl}/\s.heap.get? b=some {cls:=.type "tuple",dict:=p,data:=.seq items2 D,slots:=m} /\
    uX A s items.toList items2.toList c/\R (.ok (.ret (.bool c))) s):=
 .of_wp λprog w A R s h=>by
  obtain⟨u,g,d,tk,v⟩:=s;obtain⟨C,z,B,h⟩:=h;have G:=AutoSeq1.sub_tuple_tuple
  wp_walk using wpAny_loadPart' C,wpAny_loadPart' z,wpAny_forIn_list _ (λrest b s'=>b.1=Y/\s'=⟨u,g,d,tk,v⟩ /\ ∃vs ws:List dM,rest=vs.zip ws/\uX A ⟨u,g,d,tk,v⟩ vs ws c/\vs.length+items2.size=ws.length+items.size) _
  case turn=>
   rintro⟨y,x⟩ rest b s' ⟨k,rfl,vs,ws,f,q,a⟩;cases q with
   |nn=>cases f
   |nc _ _=>cases f
   |cn _ _=>cases f
   |eq e t=>
    rw[bZ]at f;injection f with j i;injection j with r o;subst r o
    simp only[lC1]at a;refine wB1 (e prog w _ _ ?_)
    wp_walk
    exact⟨O,O,_,_,i,t,by lia⟩
   |lt e t=>
    rw[bZ]at f;injection f with j i;injection j with r o;subst r o
    refine wB1 (e prog w _ _ ?_);have E:=t prog w
    wp_walk using E
    exact⟨_,O,by simpa using h⟩
  case fin=>
   rintro⟨b1,b2⟩ s' ⟨k,rfl,vs,ws,f,q,a⟩;simp only at k;subst k;have F:c=decide (items.size<items2.size):=by
    cases q with
    |nn=>simp only[bn]at a;exact(ai (by lia)).symm
    |nc _ _=>simp only[bn,lC1]at a;exact(ah (by lia)).symm
    |cn _ _=>simp only[bn,lC1]at a;exact(ai (by lia)).symm
    |eq _ _=>rw[bZ]at f;cases f
    |lt _ _=>rw[bZ]at f;cases f
   rw[F]at h
   wp_walk
   exact⟨_,O,by simpa[Builtin.Tuple.tupleCompareSizes]using h⟩
  case h=>exact⟨O,O,items.toList,items2.toList,O,B,by simp;lia⟩
theorem AY(l b:dP)(items items2:Array dM)(n F:Nat)(dd z:Option dP)(sl v:Array (Option dM))(c:Bool)(k:Nat):
  ∀i:Nat,items.size-i=k->i<=items.size->i<=items2.size->Meets (Builtin.«list.__eq__.loop» ⟨[.ref l,.ref b,rawInt i,rawInt 0],[]⟩)
   (λA R s=>s.heap.get? l=Z {cls:=.type "list",dict:=dd,data:=.seq items n,slots:=sl}/\s.heap.get? b=Z {cls:=.type "list",dict:=z,data:=.seq items2 F,slots:=v} /\
    uX A s (items.toList.drop i) (items2.toList.drop i) c/\R (.ok (.ret (.bool c))) s):=by
 induction k with
 |zero=>
  intro i D r u prog w A R s h;obtain⟨C,g,d,tk,I⟩:=s;obtain⟨j,f,a,h⟩:=h
  wp_walk using wpAny_loadPart' j,wpAny_loadPart' f
  have p:items[((i:Nat):Int).toNat]?=Y:=by simp;lia
  have B:items.toList.drop i=[]:=by simp;lia
  rw[B]at a;rw[p]
  wp_walk using wpAny_loadPart' j,wpAny_loadPart' f
  have H:c=decide (items.size<items2.size):=by
   cases h2:items2.toList.drop i with
   |nil=>
    rw[h2]at a;cases a;have:=congrArg List.length h2;simp at this;exact(ai (by lia)).symm
   |cons y ys=>
    rw[h2]at a;cases a;have:=congrArg List.length h2;simp at this;exact(ah (by lia)).symm
  show R (.ok (.ret (.bool (decide (items.size<items2.size))))) _;rw[<- H];exact h
 |succ k ih=>
  intro i D r u prog w A R s h;obtain⟨C,g,d,tk,I⟩:=s;obtain⟨j,f,a,h⟩:=h;have o:i<items.size:=by lia
  have B:items.toList.drop i=items[i]::items.toList.drop (i+1):=by simp[b4,o]
  have p:items[((i:Nat):Int).toNat]?=Z items[i]:=by simp[o]
  have hc:((i:Int)+1)=((i+1:Nat):Int):=by push_cast;rfl
  rw[B]at a;rcases b5 i items2.size with m|E
  ·have x:items2.toList.drop i=items2[i]::items2.toList.drop (i+1):=by simp[b4,m]
   have q:items2[((i:Nat):Int).toNat]?=Z items2[i]:=by simp[m]
   rw[x]at a
   wp_walk using wpAny_loadPart' j,wpAny_loadPart' f
   rw[p,q];cases a with
   |eq e t=>
    refine wB1 (e prog w _ _ ?_)
    wp_walk
    rw[hc];exact⟨plainId_quiet plain_eq_loop _,wD1 entry_eq_loop (by rw[Around.under_plainId plain_eq_loop _];exact ih (i+1) (by lia) (by lia) (by lia) prog w A R _ ⟨j,f,t,h⟩)⟩
   |lt e t=>
    refine wB1 (e prog w _ _ ?_);have G:=t prog w
    wp_walk using wpAny_loadPart' j,wpAny_loadPart' f
    rw[p,q]
    wp_walk using G
    simpa using h
  ·have q:items2[((i:Nat):Int).toNat]?=Y:=by simp;lia
   have x:items2.toList.drop i=[]:=by simp;lia
   rw[x]at a;cases a
   wp_walk using wpAny_loadPart' j,wpAny_loadPart' f
   rw[p,q]
   wp_walk using wpAny_loadPart' j,wpAny_loadPart' f
   show R (.ok (.ret (.bool (decide (items.size<items2.size))))) _;rw[ai (by lia)];exact h
theorem GD(l b:dP)(items items2:Array dM)(n i:Nat)(dd a:Option dP)(sl e:Array (Option dM))(c:Bool):
  Meets (Builtin.«list.__lt__» ⟨[.ref l,.ref b],[]⟩) (fun A R s=>s.heap.get? l=some {cls:=.type "list",dict:=dd,data:=.seq items n,slots:=sl}/\s.heap.get? b=some {cls:=.type "list",dict:=a,data:=.seq items2 i,slots:=e} /\
    uX A s items.toList items2.toList c/\R (.ok (.ret (.bool c))) s):=by
 intro prog w A R s h;obtain⟨m,g,d,tk,o⟩:=s;obtain⟨j,f,k,h⟩:=h;have p:=AutoSeq1.sub_list_list
 wp_walk using wpAny_loadPart' j,wpAny_loadPart' f
 exact⟨plainId_quiet plain_eq_loop _,wD1 entry_eq_loop (by rw[Around.under_plainId plain_eq_loop _];exact AY l b items items2 n i dd a sl e c _ 0 O (br _) (br _) prog w A R _ ⟨j,f,by simpa using k,h⟩)⟩
theorem Fi{A:dR}{s:dN}{k:Bool}{l b:dP}{xs ys:Array dM}{c:Bool}(B:SCo k s.heap l xs)(z:SCo k s.heap b ys)(y:A.units<cLine)(h:uX A s xs.toList ys.toList c):BX A s (.ref l) (.ref b) c:=λprog w E Q q=>by
 cases k
 ·obtain⟨⟨r,t,j,v⟩,o,hc,n,m⟩:=id B;obtain⟨⟨p,g,f,i⟩,e,a,u,d⟩:=id z;simp only at hc m a d;subst hc m a d;exact richCompare_meets_room (op:=.Lt) ⟨_,o,O⟩ ⟨_,e,O⟩ PySem.F.slot_tuple_lt PySem.F.entry_tuple_lt (PySem.F.args_tuple_lt_2 _ _) (EW l b xs ys n u t g v i c) ⟨o,e,h,show Value.bool c≠Value.notImplemented/\Q (.bool c) s from⟨(λx=>nomatch x),q⟩⟩ y
 ·obtain⟨⟨r,t,j,v⟩,o,hc,n,m⟩:=id B;obtain⟨⟨p,g,f,i⟩,e,a,u,d⟩:=id z;simp only at hc m a d;subst hc m a d;exact richCompare_meets_room (op:=.Lt) ⟨_,o,O⟩ ⟨_,e,O⟩ PySem.F.slot_list_lt PySem.F.entry_list_lt (PySem.F.args_list_lt_2 _ _) (GD l b xs ys n u t g v i c) ⟨o,e,h,show Value.bool c≠Value.notImplemented/\Q (.bool c) s from⟨(λx=>nomatch x),q⟩⟩ y
noncomputable def pM(f g:D->D->Option Bool):List D->List D->Option Bool
 |[],[]=>Z J
 |[],_::_=>Z M
 |_::_,[]=>Z J
 |x::xs,y::ys=>(f x y).bind λb=>if b=M then pM f g xs ys else g x y
noncomputable def JL:D->D->Option Bool
 | .int i,.int j=>Z (decide (i<j))
 | .str x,.str y=>Z (decide (x.cps.toList<y.cps.toList))
 |_,_=>Y
def kE(S:Sto):Nat->D->D->Option Bool
 |0,_,_=>Y
 |n+1,d,e=>match JL d e with
  |some b=>Z b
  |none=>match et S d,et S e with
   |some p,Z q=>if p.1=q.1 then pM (gI S n) (kE S n) p.2 q.2 else Y
   |_,_=>Y
def xp:G2:=λd e S=>(kE S eZ d e).map λb=>(.bl b,S)
section
variable{ag:List (dP×Obj)}{σ:L2.St}{H:Hp}{s:dN}{mu:List dP}{S:Sto}
theorem AX(I:Inv X ag σ H s)(hs:Sim X.K H mu S){n:Nat}{A:dR}(l:A.units+1+n<cLine)(ih:∀ {d e:D} {v w:V} {u z:dM} {b:Bool},eX X.K H mu d v->eX X.K H mu e w->ew v u->ew w z->kE S n d e=some b->BX A.in1 s u z b):
  ∀{xs ys:List D} {vs ws:List V} {f zs:List dM} {b:Bool},eh X.K H mu xs vs->eh X.K H mu ys ws->eI vs f->eI ws zs->pM (gI S n) (kE S n) xs ys=Z b->uX A s f zs b
 :=by
 intro xs
 induction xs with
 |nil=>
  intro ys vs ws f zs b a r2 g c h;cases a;cases g;cases r2 with
  |nil=>cases c;cases h;exact .nn
  |cons _ _=>cases c;cases h;exact .nc _ _
 |cons x xs o=>
  intro ys vs ws f zs b a r2 g c h;cases a with
  |cons a q=>
   cases g with
   |cons i p=>
    cases r2 with
    |nil=>cases c;cases h;exact .cn _ _
    |cons r2 r=>
     cases c with
     |cons j p2=>
      rw[pM]at h;obtain⟨k,m,h⟩:=oB1.mp h;have eq:=(mz I hs n (A:=A.in1) l a r2 i j m).1;cases k with
      |true=>exact .eq eq (o q r p p2 h)
      |false=>exact .lt eq (ih a r2 i j h)
theorem vJ(I:Inv X ag σ H s)(hs:Sim X.K H mu S):∀(n:Nat) {A:dR} {d e:D} {v w:V} {u z:dM} {b:Bool},A.units+n<cLine->eX X.K H mu d v->eX X.K H mu e w->ew v u->ew w z->kE S n d e=Z b->BX A s u z b
 |0,_,_,_,_,_,_,_,_,_,_,_,_,_,h=>by cases h
 |n + 1,A,d,e,v,w,u,z,b,W,g,f,i,r,h=>by
  rw[kE]at h;split at h
  ·rename_i k c;cases h;unfold JL at c;split at c
   ·cases c;cases g;cases f;obtain⟨t,rfl⟩:=i;obtain⟨l,rfl⟩:=r;exact λprog w E Q q=>(PyProof.Rows.lt_int q:dX (model prog w) A (compareOp .Lt (.int _ t) (.int _ l)) Q E s)
   ·cases c;cases g;cases f;obtain⟨t,rfl⟩:=i;obtain⟨l,rfl⟩:=r;exact λprog w E Q q=>(PyProof.Rows.lt_str q:dX (model prog w) A (compareOp .Lt (.str _ t) (.str _ l)) Q E s)
   ·cases c
  ·split at h
   ·rename_i p q N R;split at h
    ·rename_i y;obtain⟨aq,xs⟩:=p;obtain⟨qb,ys⟩:=q;have o:aq=qb:=y;subst o;obtain⟨a,vs,rfl,G,B⟩:=eB g hs N;obtain⟨a2,L,rfl,av,F⟩:=eB f hs R;cases i;cases r;obtain⟨T,C,U,_⟩:=fq I G;obtain⟨x,m,j,_⟩:=fq I av;refine Fi U j (by lia) ?_;have:=AX I hs (A:=A) (n:=n) (by lia) (λK r2 P ao h=>vJ I hs n (A:=A.in1) (by show A.units+1+n<cLine;lia) K r2 P ao h) B F C m h;simpa using this
    ·cases h
   ·cases h
theorem ke(k:X.A.units+64<cLine):gF X (compareOp .Lt) (r2 X.K (b2 xp)):=by
 intro ag s σ H x y u w Q I j g h;obtain⟨mu,S,d,e,r,l,f,r2,c,a,hc⟩:=pA h;obtain⟨b,i,a⟩:=oM1.mp a;cases a;exact vJ I c eZ (by show _+60<cLine;lia) f r2 j g i X.prog X.w X.xe _ ⟨.bl b,H,I,O,hc.now (.bl b) c⟩
end
inductive Ty where
 |int|bool|str|tuple|list|dict
 deriving DecidableEq
noncomputable def Ty.nm:Ty->String
 | .int=>"int" | .bool=>"bool" | .str=>"str" | .tuple=>"tuple" | .list=>"list" | .dict=>"dict"
noncomputable def Dv (S:Sto)(T:Ty):D->Option Bool
 | .non=>some false
 | .bl _=>some (decide (T = .bool)||decide (T = .int))
 | .int _=>some (decide (T = .int))
 | .str _=>some (decide (T = .str))
 | .tup _=>some (decide (T = .tuple))
 | .rol _=>some (decide (T = .list))
 | .ref n=>match S[n]? with
  |some (.lst _)=>some (decide (T = .list))
  |some (.dct _)=>some (decide (T = .dict))
  |some (.dcT _)=>some (decide (T = .dict))
  |_=>none
 | .fn _=>none
def yB(T:Ty)(m:FE):FE:=λr S=>(m r S).bind λp=>(Dv p.2 T p.1).map λb=>(.bl b,p.2)
section
variable{ag:List (dP×Obj)}{σ:L2.St}{H:Hp}{s:dN}{mu:List dP}{S:Sto}{K:Fg1}
theorem Do(T:Ty):PySem.W.kitOne K (.type "NoneType") (.type T.nm)=Z J:=by cases T<;>rfl
theorem GM(T:Ty):PySem.W.kitOne K (.type "bool") (.type T.nm)=Z (decide (T = .bool)||decide (T = .int)):=by cases T<;>rfl
theorem Dq(T:Ty):PySem.W.kitOne K (.type "int") (.type T.nm)=Z (decide (T = .int)):=by cases T<;>rfl
theorem Dn(T:Ty):PySem.W.kitOne K (.type "str") (.type T.nm)=Z (decide (T = .str)):=by cases T<;>rfl
theorem Dm(T:Ty):PySem.W.kitOne K (.type "tuple") (.type T.nm)=Z (decide (T = .tuple)):=by cases T<;>rfl
theorem Dp(T:Ty):PySem.W.kitOne K (.type "list") (.type T.nm)=Z (decide (T = .list)):=by cases T<;>rfl
theorem w9(T:Ty):PySem.W.kitOne K (.type "dict") (.type T.nm)=Z (decide (T = .dict)):=by cases T<;>rfl
theorem Du{T:Ty}{d:D}{v:V}{u:dM}{b:Bool}{Q:dM->dN->Prop}{E:dM->dN->Prop}(I:Inv X ag σ H s)(hs:Sim X.K H mu S)(r:eX X.K H mu d v)(f:ew v u)(h:Dv S T d=some b)(q:∀ tk,Q (.bool b) {s with toks:=tk}):
  dX (model X.prog X.w) X.A (call (.builtin "isinstance") [u,.type T.nm]) Q E s:=by
 have j:∀{k:Bool} {a:dP} {vs:List V},s3 X.K k H a vs->b=(match k with|true=>decide (T = .list)|false=>decide (T = .tuple))->dX (model X.prog X.w) X.A (call (.builtin "isinstance") [.ref a,.type T.nm]) Q E s:=λ{k a vs} g p=>by
  obtain⟨A,C,w,_⟩:=fq I g;cases k
  ·obtain⟨o,e,c,_⟩:=w;subst p;exact PySem.W.kia_one PySem.W.kitx_tuple I.kIn ⟨o,e,c⟩ (Dm T) (λz=>nomatch z) q
  ·obtain⟨o,e,c,_⟩:=w;subst p;exact PySem.W.kia_one PySem.W.kitx_list I.kIn ⟨o,e,c⟩ (Dp T) (λz=>nomatch z) q
 cases d with
 |non=>cases h;cases r;exact iT I f .non (Do T) q
 |bl k=>cases h;cases r;exact iT I f (.bl k) (GM T) q
 |int i=>cases h;cases r;exact iT I f (.int i) (Dq T) q
 |str x=>cases h;cases r;exact iT I f (.str x) (Dn T) q
 |tup xs=>
  cases h;obtain⟨a,vs,rfl,g,t⟩:=eB (S:=S) r hs O;cases f;exact j g O
 |fn x=>cases h
 |rol xs=>
  cases h;obtain⟨a,vs,rfl,g,t⟩:=eB (S:=S) r hs O;cases f;exact j g O
 |ref n=>
  rw[Dv]at h;split at h
  ·rename_i xs e;cases h;obtain⟨a,vs,rfl,g,t⟩:=eB (S:=S) r hs (by rw[et,e]);cases f;exact j g O
  ·rename_i ks e;cases h;cases r with
   |ref m=>
    obtain⟨ws,l,_⟩:=hs.dct e m;exact iT I f (.dK l) (w9 T) q
  ·rename_i ks e;cases h;cases r with
   | @ref _ a m=>
    cases(show u=Value.ref a from f);obtain⟨ws,l,_⟩:=hs.dcT e m;obtain⟨⟨_,_,o,_,_,y,B,_⟩,_⟩:=(show eY X.prog X.w H s.heap a (.ext (gG a ws))from I.hok a _ l);exact PySem.W.kia_one PySem.W.kitx_dict I.kIn ⟨o,y,B.1⟩ (w9 T) (λz=>nomatch z) q
  ·cases h
theorem BI(T:Ty):fH X (.builtin "isinstance") (λxs H Q=>∃x mu S d b,xs=[x,.ty T.nm]/\eX X.K H mu d x/\Sim X.K H mu S/\Dv S T d=Z b/\Q (.bl b) H):=by
 intro ag s σ H xs g Q I r h;obtain⟨x,mu,S,d,b,rfl,a,c,f,hc⟩:=h;obtain⟨u,i,rfl,e,rt⟩:=zG r;cases rt;exact Du I c a e f λtk=>⟨.bl b,H,I.tok tk,O,hc⟩
theorem yz (T:Ty){e:Expr}{m:FE}{nm:Str}{p p2 pos:Pos}(hg:Gl X "isinstance")(hm:X.mg "isinstance"=none)(hg2:Gl X nm)(hm2:X.mg nm=none)(hv2:bootBuiltins nm=some (.type T.nm))(h:ME X e m)
  (hn:autoParam (nm≠"__name__") bu0) (hd:autoParam ((nm == ("__debug__":Str))=J) bu0)
  (hs1:autoParam (dV [e,.Name nm p2] X.env=(J,eval e X.env)::dV [.Name nm p2] X.env) au0) (hs2:autoParam (dV [.Name nm p2] X.env=(J,eval (.Name nm p2) X.env)::dV [] X.env) au0)
  (hpl:autoParam ((backTo pos (dV [.Name nm p2] X.env)).any (·.1)=J) au0):ME X (.Call (.Name "isinstance" p) [e,.Name nm p2] [] pos) (yB T m):=
 fE (ow (BI T) hg hm (by decide+kernel) (jU h (jU (CM (v:=.ty T.nm) hg2 hm2 hv2 O hn hd) oy hs2) hs1) (by decide) (by decide) hs1 hpl) <| by
  rintro σ H Q ⟨r,mu,S,d,n,j,i,hm,hc⟩;obtain⟨⟨c,o⟩,g,hm⟩:=oB1.mp hm;obtain⟨b,l,hm⟩:=oM1.mp hm;cases hm;refine⟨r,mu,S,c,_,j,i,g,λv H1 mu1 k f a=>?_⟩;exact⟨v,mu1,_,c,b,O,f,a,l,hc _ H1 mu1 k (.bl b) a⟩
end
abbrev FO:=Ev->Sto->Option (Option Int×Sto)
noncomputable def K5(m:FE):FO:=λr S=>(m r S).bind λp=>match p.1 with
 | .int i=>Z (Z i,p.2)
 |_=>Y
def HM(ta:TA):TE:=fun σ H Q=>ta σ H λvs H1=>∃j:Int,vs=[.int j] /\ ∀p,H1 p=Y->Q (.ref p) (upd H1 p (.rng 0 j))
theorem yo {a:Expr}{ta:TA}{p pos:Pos}(hg:Gl X "range")(hm:X.mg "range"=Y)(ha:PA X [a] ta)(hs:autoParam (dV [a] X.env=[(J,eval a X.env)]) au0):PE X (.Call (.Name "range" p) [a] [] pos) (HM ta):=by
 intro ag s σ H Q I h;refine Call_ (jC I hg hm boot_range (PyProof.Rows.callWith_type1 (fO (ha pos ag s σ H _ I h) λk i ⟨vs,H1,c,f,g⟩=>?_) hs O));obtain⟨j,e,q⟩:=g;subst e;cases f with
 |cons r d=>
  cases d;obtain⟨t,rfl⟩:=r;refine call_range_1 ⟨.ref i.heap.objs.size,_,c.laid (λb o e=>hP1 _ e) (nR1 _) (o:=.rng 0 j) ?_,O,q _ (c.hok.fresh (nR1 _))⟩;exact⟨_,_,_,hS1 _ O⟩
noncomputable def no(i:Int):Nat->List V
 |0=>[]
 |n+1=>.int i::no (i+1) n
theorem oi:∀(n:Nat) (i:Int),(no i n).length=n
 |0,_=>rfl
 |n+1,i=>by rw[no,lC1,oi n]
theorem tP:∀(n:Nat) (i:Int) (k:Nat) (v:V),(no i n)[k]?=Z v->v = .int (i+k)
 |0,i,k,v,h=>by simp[no]at h
 |n+1,i,0,v,h=>by simp[no]at h;rw[<- h];simp
 |n+1,i,k+1,v,h=>by
  rw[no,gC1]at h;rw[tP n (i+1) k v h,show i+1+(k:Int)=i+((k+1:Nat):Int) by push_cast;lia]
theorem tO{K:Fg1}{H:Hp}{mu:List dP}:∀(n:Nat) (i:Int),eh K H mu (hU i n) (no i n)
 |0,_=>.nil
 |n+1,i=>.cons (.int i) (tO n (i+1))
theorem wj:∀{xs:List V} {a:List dM},xs.length=a.length->(∀(i:Nat) x u,xs[i]?=Z x->a[i]?=Z u->ew x u)->eI xs a
 |[],[],_,_=>.nil
 |x::xs,u::a,h,f=>.cons (f 0 x u O O) (wj (by simpa using h) λi y w h1 h2=>f (i+1) y w (by simpa using h1) (by simpa using h2))
 |[],_::_,h,_=>by simp at h
 |_::_,[],h,_=>by simp at h
theorem D4(hc:X.calm=M):fH X (.type "list") (λxs H Q=>∃p i j,xs=[.ref p]/\H p=Z (.rng i j)/\(-(2^62)<=i/\i<2^62 /\ -(2^62)<=j/\j<2^62)/\(j-i).toNat<=2^20 /\ ∀l,H l=Y->Q (.ref l) (upd H l (.lst (no i (j-i).toNat)))):=by
 intro ag s σ H xs F Q I r h;obtain⟨p,i,j,rfl,g,⟨h1,h2,o,w⟩,f,q⟩:=h;obtain⟨u,rfl,B⟩:=jr r;cases B;obtain⟨t,u,v,e⟩:=I.hok p _ g;have A:(((j-i).toNat:Nat):Int)=Builtin.Range.rangeSize i j 1:=by rw[rangeSize_one];split<;>lia
 refine call_list_range (n:=(j-i).toNat) (I.ok.hd hc) e (small_one h1 h2 o w) A.symm (aD f (by decide)) λh' tk b E z C hi=>?_;obtain⟨d,a⟩:=hi;have c:eI (no i (j-i).toNat) b.toList:=wj (by rw[oi];simpa using d.symm) λk x u D m=>by
  rw[tP _ _ _ _ D];obtain⟨y,rfl⟩:=a k u (by simpa using m);exact⟨y,by rw[Int.mul_one]⟩
 refine⟨.ref s.heap.objs.size,_,I.laid (t':=tk) z (nR1 _) (show eY X.prog X.w _ h' _ (.lst (no i (j-i).toNat))from⟨?_,b.toList,E,c,by simpa using C⟩),O,q _ (I.hok.fresh (nR1 _))⟩;rw[oi];exact aD f (by decide)
noncomputable def wF(i j:Int):Bool:=decide (-(2^62)<=i)&&decide (i<2^62)&&decide (-(2^62)<=j)&&decide (j<2^62)&&decide ((j-i).toNat<=2^20)
def AU(m:FA):FE:=λr S=>(m r S).bind λp=>match p.1 with
 |[.int j]=>if wF 0 j=M then Z (.ref p.2.length,p.2++[.lst (hU 0 j.toNat)])else Y
 |_=>Y
theorem tQ{i j:Int}(h:wF i j=M):(-(2^62)<=i/\i<2^62 /\ -(2^62)<=j/\j<2^62)/\(j-i).toNat<=2^20:=by
 unfold wF at h;simp only[bA1,am]at h;obtain⟨⟨⟨⟨h1,h2⟩,b⟩,c⟩,a⟩:=h;exact⟨⟨h1,h2,b,c⟩,a⟩
theorem GE{K:Fg1}{mu:List dP}{H H1:Hp}{S1:Sto}{i j:Int}{Q:VK}{mu1:List dP}(c:Ext mu mu1 H H1)(a:Sim K H1 mu1 S1)(hc:pY K mu H (.ref S1.length) (S1++[.lst (hU i (j-i).toNat)]) Q){p l:dP}(hp:H1 p=none)(b:upd H1 p (.rng i j) l=none):
  Q (.ref l) (upd (upd H1 p (.rng i j)) l (.lst (no i (j-i).toNat))):=
 hc _ _ (mu1++[l]) ((c.trans (Ext.fresh hp)).trans (Ext.new_ b)) (.ref (gZ a.len l)) ((a.fresh hp).newL (tO _ _) b)
theorem yx {a:Expr}{m:FA}{e p2 b c:Pos}(hc:X.calm=true)(hg:Gl X "range")(hm:X.mg "range"=none)(hg2:Gl X "list")(hm2:X.mg "list"=none)(ha:MA X [a] m)(hs:autoParam (dV [a] X.env=[(false,eval a X.env)]) au0)
  (hs2:autoParam (dV [.Call (.Name "range" e) [a] [] b] X.env=[(J,eval (.Call (.Name "range" e) [a] [] b) X.env)]) au0):ME X (.Call (.Name "list" p2) [.Call (.Name "range" e) [a] [] b] [] c) (AU m):=
 fE (me (D4 hc) hg2 hm2 (by decide+kernel) (jU (yo hg hm ha hs) oy hs2) (by decide) (by decide) hs2) <| by
  rintro σ H Q ⟨r,mu,S,d,u,o,hs,hm,f⟩;obtain⟨⟨ds,w⟩,n,hm⟩:=oB1.mp hm;dsimp only at hm;split at hm
  ·rename_i j;split at hm
   ·rename_i g;cases hm;refine⟨r,mu,S,_,_,o,hs,n,λvs H1 mu1 t i k=>?_⟩;obtain⟨v,rfl,s⟩:=oj i;cases s;refine⟨j,O,λp h=>⟨p,0,j,O,eF,(tQ g).1,(tQ g).2,λl q=>GE t k (by rw[Int.sub_zero];exact f) h q⟩⟩
   ·cases hm
  ·cases hm
noncomputable def jZ:G2:=λo v S=>match o with
 | .ref n=>match S[n]? with
  |some (.lst xs)=>if xs.length<dW then Z (.non,S.set n (.lst (xs++[v])))else Y
  |_=>Y
 |_=>Y
def Bf:G2:=λo i S=>match o,i with
 | .ref n,.int k=>match S[n]? with
  |some (.lst xs)=>if-(2^63)<=k/\k<2^63 then(xg xs.length k).bind λj=>(xs[j]?).map λy=>(y,S.set n (.lst (xs.eraseIdx j)))else Y
  |_=>Y
 |_,_=>Y
noncomputable def pL (f:FN)(o:FE)(a:FA):FE:=λr S=>(o r S).bind λp=>match p.1 with
 | .ref n=>match p.2[n]? with
  |some (.lst _)=>(a r p.2).bind λq=>f (p.1::q.1) q.2
  |_=>none
 |_=>none
theorem HJ:Eg X "list.append" (λx xs H Q=>rN X.K (b2 jZ) (x::xs) H Q):=by
 intro ag s σ H x xs v j Q I k m h;obtain⟨q,y,mu,S,d,e,p,r,i,g,r2,f,a,hc⟩:=yh h;cases i;cases d with
 |ref n=>
  rw[jZ]at a;split at a
  ·rename_i ys o;split at a
   ·rename_i l;cases a;cases g with
    |ref c=>
     obtain⟨vs,b,t⟩:=f.lst o c;refine qq ag s σ H _ [y] v j Q I k m ⟨_,vs,y,O,O,b,by rw[<- t.length];exact l,?_⟩;exact hc _ _ mu (Ext.put b trivial (gM1 c)) .non (f.putL (t.append (.cons r2 .nil)) c b)
   ·cases a
  ·cases a
 |_=>cases a
theorem HG:Eg X "list.pop" (λx xs H Q=>rN X.K (b2 Bf) (x::xs) H Q):=by
 intro ag s σ H x xs v p Q I r A h;obtain⟨E,y,mu,S,d,e,D,F,o,l,r2,i,a,hc⟩:=yh h;cases o;unfold Bf at a;split at a
 ·rename_i n k;split at a
  ·rename_i ys B;split at a
   ·rename_i g;obtain⟨j,q,a⟩:=oB1.mp a;obtain⟨z,m,a⟩:=oM1.mp a;cases a;cases l with
    |ref f=>
     cases r2;obtain⟨vs,b,t⟩:=i.lst B f;obtain⟨w,C,c⟩:=t.get m;refine AG ag s σ H _ [.int k] v p Q I r A ⟨_,vs,k,j,w,O,O,b,g.1,g.2,?_,C,?_⟩
     ·rw[<- t.length];exact(sF q).1
     ·have x:=Ext.put (u:=.lst (vs.eraseIdx j)) b trivial (gM1 f);exact hc _ _ mu x (c.ext x) (i.putL (t.eraseIdx j) f b)
   ·cases a
  ·cases a
 ·cases a
theorem AN {o e:Expr}{es:List Expr}{m:FE}{a:FA}{f:FN}{name:Str}{apos cpos:Pos}{id:String}(slot:Slot "list" name id)(hty:typeOf (.builtin id)=pure (.type "method_descriptor"))(hm:Eg X id (fun x xs H Q=>rN X.K f (x::xs) H Q))(ho:ME X o m)(ha:MA X (e::es) a)
  (hbase:autoParam (attributeBase o name X.env (eval o X.env)=eval o X.env) au0)
  (hfew:autoParam (((backTo cpos (dV (e::es) X.env)).all (λx=> !x.1)&&(backToKw cpos (keywordEach [] X.env)).all (λx=>x.1.isSome)&&decide ((e::es).length+([]:List Keyword).length+(if([]:List Keyword).isEmpty then 0 else 1)<30))=M) au0)
  (hline:autoParam ((apos.endLine == cpos.line)=M) au0) (hs:autoParam (dV (e::es) X.env=(J,eval e X.env)::dV es X.env) au0) (hplain:autoParam ((backTo cpos (dV es X.env)).any (·.1)=J) au0):
  ME X (.Call (.Attribute o name apos) (e::es) [] cpos) (pL f m a):=
 fE (Il PySem.F.plainAttrs_list slot hty hm ho ha hbase hfew hline hs hplain) <| by
  rintro σ H Q ⟨r,mu,S,d,u,l,hs,hm,hc⟩;obtain⟨⟨q,g⟩,E,hm⟩:=oB1.mp hm;refine⟨r,mu,S,q,g,l,hs,E,λv H1 mu1 i j k=>?_⟩;cases q with
  |ref n=>
   dsimp only at hm;split at hm
   ·rename_i xs z;obtain⟨⟨ds,p⟩,A,hm⟩:=oB1.mp hm;refine⟨?_,r,mu1,g,ds,p,l.ext i,k,A,λvs H2 b h r2 B=>?_⟩
    ·cases j with
     |ref y=>
      obtain⟨vs,D,t⟩:=k.lst z y;exact .inl ⟨O,vs,nL.of D⟩
    ·exact⟨b,p,.ref n::ds,d,u,.cons (j.ext h) r2,B,hm,λC s c w=>hc C s c ((i.trans h).trans w)⟩
   ·cases hm
  |_=>cases hm
theorem CA{X:Cx}(hc:X.calm=true){elt tg iter:Expr}{ifs:List Expr}{rest:List Comprehension}{scope:d3}{pos l av:Pos}{y:Str}{i:Nat}{T:List Str}{keep:List Nat}{u:List (Str×dP)}{wi:TI}{g:TG}{ti:TT}{tb:dP->TS}{emit:dM->Env->Sem Unit}(wq:swapsWith (.ListComp elt (⟨tg,iter,ifs,0⟩::rest) scope pos) (some (.Name y av)) l.line X.env=pure true)(eq:∀it w k,compTurn (.ListComp elt (⟨tg,iter,ifs,0⟩::rest) scope pos) 0 it w k=tw iter.pos tg ifs it k (emit w k) (.compLoop (.ListComp elt (⟨tg,iter,ifs,0⟩::rest) scope pos) 0 it w k))(C:HB X scope T keep)(E:jH X.env.cells scope.names []=some u)(hi:PI X tg iter wi)(hb:∀s H d p,PG (cxC X scope u T keep s H d) tg g/\pW (cxC X scope u T keep s H d) ifs ti/\PU (cxC X scope u T keep s H d) (emit (.ref p) (cxC X scope u T keep s H d).env) (tb p))(hN:X.N.Nodup)(hy:X.N[i]?=some y)(hx:wc X.env.scope y)(hf:X.fn y=true\/X.env.scope.names.lookup y=some .local)(hs:autoParam (∀x,foldedSetIterable iter X.env x=pure x) du0):
  PS X (.Assign [.Name y av] (.ListComp elt (⟨tg,iter,ifs,0⟩::rest) scope pos) l) (zT (wy T.length keep wi g ti tb) (xn i)):=by
 intro ag s σ H D I h;rw[exec_Assign_Name_used _ _ _ _ wq];refine wB1 (wpAny_standAt (wB1 ?_));show dX _ X.A (do let _<-comprehension (.ListComp elt (⟨tg,iter,ifs,0⟩::rest) scope pos) scope X.env _ (newList []) J (eval iter X.env) (Z (assign (.Name y av) X.env))) _ _ s;refine wB1 (wpAny_mono (wpAny_comprehension_free (use:=Z (assign (.Name y av) X.env)) (Q:=λ_ s'=>SP X ag D .next s') O hs (BD E) C.kind C.names ?_) (λ_ s' hq=>wP1 (wP1 hq)) λ_ _ e=>e);refine fO (hi ag s σ H _ I h) λv s1 h1=>fO h1 λitv a h2=>?_;obtain⟨it,d,tn,ao,H2,rfl,I2,TT,aq,f2,q2⟩:=h2;refine wO1 ?_;have A:Inv X ag σ (upd H2 a.heap.objs.size (.lst [])) {a with heap:=a.heap.push {cls:=.type "list",data:=.seq ([]:List dM).toArray}}:=I2.lnew (t':=a.toks) .nil (br _);have old:∀b∈d,∃o,a.heap.get? b=Z o:=λb hb=>by
  obtain⟨o,e,_⟩:=TT.obj 0 a.heap aq b hb;exact⟨o,e⟩
 have V:∀b∈d,b≠a.heap.objs.size:=λb hb z=>by
  obtain⟨o,e⟩:=old b hb;have:=hL1 e;rw[z]at this;exact aA _ this
 have R:∀b∈d,j5 X ag (upd H2 a.heap.objs.size (.lst [])) b:=λb hb=>⟨by rw[d9 (V b hb)];exact(f2 b hb).1,(f2 b hb).2⟩;have o3:∀b∈d,∃o,({a with heap:=a.heap.push {cls:=.type "list",data:=.seq ([]:List dM).toArray}}:dN).heap.get? b=Z o:=λb hb=>by
  obtain⟨o,e⟩:=old b hb;exact⟨o,hP1 _ e⟩
 have P:=uv A C E R o3;obtain⟨hg,W,he⟩:=hb {a with heap:=a.heap.push {cls:=.type "list",data:=.seq ([]:List dM).toArray}} (upd H2 a.heap.objs.size (.lst [])) d a.heap.objs.size;refine kf ?_;have f4:∀b∈d,j5 (cxC X scope u T keep {a with heap:=a.heap.push {cls:=.type "list",data:=.seq ([]:List dM).toArray}} (upd H2 a.heap.objs.size (.lst [])) d) [] (upd H2 a.heap.objs.size (.lst [])) b:=λb hb=>
  ⟨(R b hb).1,(P.ok.exf b hb).1,P.ok.exfs b hb,.inl hb,(P.ok.exf b hb).2,λp F=>absurd (show p∈([]:List (dP×Obj))from F) (by simp)⟩
 have K:tn 0 (pushCells ((a.heap.push {cls:=.type "list",data:=.seq ([]:List dM).toArray}).push {cls:=.type "dict",data:=.dict #[]}) scope.names):=
  TT.keep 0 a.heap _ aq λb hb o e=>pushCells_keeps scope.names _ b o (hP1 _ (hP1 _ e))
 have n:=ri (X:=cxC X scope u T keep {a with heap:=a.heap.push {cls:=.type "list",data:=.seq ([]:List dM).toArray}} (upd H2 a.heap.objs.size (.lst [])) d) O hc (eq (.ref it) (.ref a.heap.objs.size) _) TT hg W he P K f4
  (q2 a.heap.objs.size (I2.hok.fresh (nR1 _)))
 refine codeAny_mono (codeAny_compStart_list n (TT.self X.A 0 _ _ _ K n)) λr s' hr=>?_;cases r with
 |error e=>exact hr.elim
 |ok f=>
  obtain⟨σ',H',B,q'⟩:=hr;have J1:Inv X ag σ H' s':=A.call' (s':=s') (ch:=d) B.os B.base B.hok B.bare λb hb=>(R b hb).2.2.2 |> λz=>⟨z.1,(R b hb).2.1,z.2.1,z.2.2⟩
  -- the block's own dict is kept aside
  obtain⟨m,hn,_⟩:=id B.loc;obtain⟨N,es,ep,eC,dC,rC⟩:=id hn;have hCz:(a.heap.push {cls:=.type "list",data:=.seq ([]:List dM).toArray}).get? (a.heap.push {cls:=.type "list",data:=.seq ([]:List dM).toArray}).objs.size=Y:=Heap.get?_none_of_le (nR1 _);have L:(a.heap.push {cls:=.type "list",data:=.seq ([]:List dM).toArray}).objs.size≠X.env.locals:=λz=>by
   have:=A.lt;rw[<- z]at this;exact aA _ this
  have S:H' (a.heap.push {cls:=.type "list",data:=.seq ([]:List dM).toArray}).objs.size=Y:=B.free;have J2:Inv X (ag++[((a.heap.push {cls:=.type "list",data:=.seq ([]:List dM).toArray}).objs.size,N)]) σ H' s':=J1.pins_of λp F=>by
   rcases aH.mp F with z|z
   ·exact J1.pin p (mA1 _ z)
   ·have z':p=((a.heap.push {cls:=.type "list",data:=.seq ([]:List dM).toArray}).objs.size,N):=by simpa using z
    subst z';exact⟨eC,S,L,A.nofs (nR1 _),λv q=>by rw[dC]at q;cases q⟩
  refine fO (wL hN hy hx hf _ s' σ H' (.ref a.heap.objs.size) (.ref a.heap.objs.size) D.nx J2 O q') λ_ s5 ⟨G,H5,J5,q5⟩=>?_;obtain⟨e5,n5,_⟩:=J5.pin ((a.heap.push {cls:=.type "list",data:=.seq ([]:List dM).toArray}).objs.size,N) (mA1 _ (mA1 _ mS1));refine⟨m,⟨N,es,ep,e5,dC,rC⟩,λh' U=>?_⟩;have J6:Inv X ag G H5 s5:=J5.unpinned;refine⟨G,H5,J6.turned (t':=s5.toks) (λb o hb e=>(U.2 b hb).trans e) n5 L (.inr ?_) (λx c t z=>?_) (λp F z=>?_),q5⟩
  ·exact A.sz
  ·obtain⟨w',zc⟩:=A.cell x c t;have j:=zc.lt;rw[z]at j;exact aA _ j
  ·obtain⟨au,_⟩:=A.pin p F;have j:=hL1 au;rw[z]at j;exact aA _ j
theorem Hh{K:Fg1}{te:TE}{m:FE}{i:Nat}(hm:∀ σ H Q,tM K m σ H Q->te σ H Q){E:jP}{σ:L2.St}{H:Hp}(h:wx K (eE m (gN i)) E σ H):zT te (xn i) E σ H:=by
 obtain⟨r,mu,S,d,j,h1,h2,f,p⟩:=sD h;refine hm _ _ _ ⟨r,mu,S,d,j,h1,h2,f,λv H' mu' o e g=>?_⟩;obtain⟨r2,a,s,q,u,t,c,n,l,k,b⟩:=p v H' mu' o e g;cases k;exact b _ H' a (.refl _ _) (c.set l) n
theorem mv (i:Nat){x:Str}{pos:Pos}(hN:autoParam (X.N[i]? = some x) au0)(hv:autoParam (Vis X.env.scope x) au0)(hd:autoParam ((x == ("__debug__":Str))=false) bu0)(hcd:autoParam ((x == ("__classdict__":Str))=false) bu0):
  ME X (.Name x pos) (mV i):=Gu i hN hv hd hcd
def fR(P:dQ)(w:dS)(K:Fg1)(mg:Str->Option dM)(base:dY)(k:Nat)(x:Str)(n:Nat)(m:FN):Prop:=
 ∃(f:dP) (fd:dZ) (ps:List Str),j6 P w K mg base uY k f fd ps (B1 K n m)/\lX K fd ps []/\wK1 K (.ref f)=M/\mg x=Z (.ref f)
theorem Gx {X:Cx}{k k' n:Nat}{x:Str}{m:FN}{p pos:Pos}{e:Expr}{es:List Expr}{a:FA}(h:fR X.prog X.w X.K X.mg X.base k x n m)(hr:gi k' X.A)(hk:k<=k')(hg:Gl X x)(ha:MA X (e::es) a)(hdb:autoParam ((x == ("__debug__":Str))=false) bu0)
  (he:autoParam (dV (e::es) X.env=(J,eval e X.env)::dV es X.env) au0) (hpl:autoParam ((backTo pos (dV es X.env)).any (·.1)=J) au0):ME X (.Call (.Name x p) (e::es) [] pos) (mN (d8 n m) a):=by
 obtain⟨f,fd,ps,F,b,c,d⟩:=h;exact Db F (hr.mono hk) hg d c b ha hdb he hpl
theorem FX{P:dQ}{w:dS}{K:Fg1}{mg:Str->Option dM}{base:dY}{x a:Str}{st:d0}{f:dP}{fd:dZ}{N ps:List Str}{k n:Nat}{b:FS}(F:zt K x a st f fd)(hb:lX K fd ps [])(hm:mg x=some (.ref f))(S:gK N ps (eG st))(hn:ps.length=n)(c:∀(e:dM) (A:dR) (d:List Env) (s:dN) (H:Hp) (E:XK),gi k (A.deeper (envOfC a (eG st) s.heap.objs.size f e)) ->
   zj (nw uY P w K mg base N a (eG st) f e A d s H E).nox (fK st) b):fR P w K mg base (k+1) x n (iH N.length b):=by
 subst hn;exact⟨f,fd,ps,Ja F S c,hb,F.kp,hm⟩
def CGl(K:Fg1)(mg:Str->Option dM)(x:Str)(d:D):Prop:=∃(v:V) (u:dM),mg x=Z u/\ew v u /\ ∀H mu,eX K H mu d v
theorem Da {X:Cx}{x:Str}{d:D}{pos:Pos}(h:CGl X.K X.mg x d)(hg:Gl X x)(hd:autoParam ((x == ("__debug__":Str))=J) bu0):ME X (.Name x pos) (mC d):=by
 obtain⟨v,u,a,r,q⟩:=h;exact AQ d (CI hg a r hd) q
noncomputable def ge:List Bool->Ev->Ev
 |true::bs,o::r=>o::ge bs r
 |false::bs,_::r=>Y::ge bs r
 |[],_::r=>Y::ge [] r
 |_,[]=>[]
def kS:Ev->Bool
 |[]=>M
 |none::r=>kS r
 |some d::r=>d.und 0&&kS r
noncomputable def qr (ki ko:List Bool)(b:FS):FS:=fun r S=>if kS (ge ki r)=true then
  (b (ge ki r) []).bind λp=>match p.1 with
   | .rt d=>if d.und 0=true then some (.rt d,[],S)else none
   |f=>if kS (ge ko p.2.1)=true then some (f,ge ko p.2.1,S)else none
 else none
theorem jV:∀(bs:List Bool) (r:Ev),(ge bs r).length=r.length
 |true::bs,o::r=>congrArg (· + 1) (jV bs r)
 |false::bs,o::r=>congrArg (· + 1) (jV bs r)
 |[],o::r=>congrArg (· + 1) (jV [] r)
 |[],[]=>rfl
 |true::_,[]=>rfl
 |false::_,[]=>rfl
theorem jW:∀(bs:List Bool) (r:Ev) (i:Nat) (d:D),(ge bs r)[i]?=Z (Z d)->r[i]?=Z (Z d)
 |true::bs,o::r,0,d,h=>h
 |true::bs,o::r,i+1,d,h=>by
  rw[gC1];exact jW bs r i d (by rw[ge,gC1]at h;exact h)
 |false::bs,o::r,0,d,h=>by simp[ge]at h
 |false::bs,o::r,i+1,d,h=>by
  rw[gC1];exact jW bs r i d (by rw[ge,gC1]at h;exact h)
 |[],o::r,0,d,h=>by simp[ge]at h
 |[],o::r,i+1,d,h=>by
  rw[gC1];exact jW [] r i d (by rw[ge,gC1]at h;exact h)
 |[],[],i,d,h=>by simp[ge]at h
 |true::_,[],i,d,h=>by simp[ge]at h
 |false::_,[],i,d,h=>by simp[ge]at h
theorem l8:∀(r:Ev) (i:Nat) (d:D),kS r=M->r[i]?=Z (Z d)->d.und 0=M
 |none::r,0,d,_,h=>by simp at h
 |none::r,i+1,d,hs,h=>l8 r i d hs (by simpa using h)
 |some e::r,0,d,hs,h=>by
  rw[kS,bA1]at hs;simp at h;subst h;exact hs.1
 |some e::r,i+1,d,hs,h=>by
  rw[kS,bA1]at hs;exact l8 r i d hs.2 (by simpa using h)
theorem fW.mask{K:Fg1}{H:Hp}{mu mu':List dP}{r:Ev}{σ:L2.St}{bs:List Bool}(h:fW K H mu r σ)(hs:kS (ge bs r)=M):fW K H mu' (ge bs r) σ:=
 ⟨by rw[jV];exact h.len,λi d e=>by
  obtain⟨v,c,a⟩:=h.val i d (jW bs r i d e);exact⟨v,c,a.cut (n:=0) (λk b=>absurd b (bF _)) (l8 _ i d hs e)⟩⟩
theorem AR{K:Fg1}{m A:List Bool}{b:FS}{E:jP}{σ:L2.St}{H:Hp}(h:wx K (qr m A b) E σ H):wx K b E σ H:=by
 obtain⟨r,mu,S,f,B,C,y,j,c,hc⟩:=h;unfold qr at c;split at c
 ·rename_i q;obtain⟨⟨l,p,w⟩,t,c⟩:=oB1.mp c;refine⟨ge m r,[],[],l,p,w,y.mask q,.nil,t,?_⟩;have back:∀{H':Hp} {mu':List dP},Ext [] mu' H H'->Ext mu mu H H':=λ{H' mu'} x=>⟨bv,λa o e _=>x.old a o e (by simp),x.tup,x.frz,λ_ z=>.inl z⟩;have keep:∀{H':Hp} {mu':List dP},Ext [] mu' H H'->Sim K H' mu S:=λ{H' mu'} x=>⟨j.len,j.nd,λn o a h1 h2=>(j.ob n o a h1 h2).keep (back x) λo e=>x.old a o e (by simp)⟩;cases l with
  |rt d=>
   dsimp only at c;split at c
   ·rename_i i;cases c;exact λv H' mu' x r s=>hc v H' mu (back x) (r.cut (n:=0) (λk u=>absurd u (bF _)) i) (keep x)
   ·cases c
  |nx=>
   dsimp only at c;split at c
   ·rename_i i;cases c;exact λg H' mu' x r s=>hc g H' mu (back x) (r.mask i) (keep x)
   ·cases c
  |bk=>
   dsimp only at c;split at c
   ·rename_i i;cases c;exact λg H' mu' x r s=>hc g H' mu (back x) (r.mask i) (keep x)
   ·cases c
  |ct=>
   dsimp only at c;split at c
   ·rename_i i;cases c;exact λg H' mu' x r s=>hc g H' mu (back x) (r.mask i) (keep x)
   ·cases c
 ·cases c
theorem AH{X:Cx}{sts:List d0}{b:FS}(a c:List Bool)(h:zj X sts b):zj X sts (qr a c b):=r6 h λ_ _ _=>AR
def CV(K:Fg1)(d:D)(u:dM):Prop:=∃v:V,ew v u /\ ∀H mu,eX K H mu d v
def JV(K:Fg1)(ds:List D)(us:List dM):Prop:=∃vs:List V,eI vs us /\ ∀H mu,eh K H mu ds vs
section
variable{K:Fg1}
theorem sR{i:Int}{t}:CV K (.int i) (.int i t):=⟨.int i,⟨t,O⟩,λ_ _=>.int i⟩
theorem sQ{x:Str}{t}:CV K (.str x) (.str x t):=⟨.str x,⟨t,O⟩,λ_ _=>.str x⟩
theorem lJ:JV K [] []:=⟨[],.nil,λ_ _=>.nil⟩
theorem fM{d:D}{u:dM}{ds:List D}{a:List dM}(h:CV K d u)(t:JV K ds a):JV K (d::ds) (u::a):=by
 obtain⟨v,r,q⟩:=h;obtain⟨vs,rs,b⟩:=t;exact⟨v::vs,.cons r rs,λH mu=>.cons (q H mu) (b H mu)⟩
theorem oZ {a:dP}{d:Option dP}{b:List dM}{n:Nat}{sl:Array (Option dM)}{ds:List D}(h:K.lookup a=Z ⟨.type "tuple",d,.seq b.toArray n,sl⟩)(hs:b.length<=dW)(t:JV K ds b):CV K (.tup ds) (.ref a):=by
 obtain⟨vs,rs,c⟩:=t;exact⟨.ref a,O,λH mu=>.tup (.inr ⟨_,b.toArray,n,h,O,O,by simpa using hs,by simpa using rs⟩) (c H mu)⟩
theorem Hb{mg:Str->Option dM}{x:Str}{d:D}{u:dM}(hm:mg x=Z u)(h:CV K d u):CGl K mg x d:=by
 obtain⟨v,r,q⟩:=h;exact⟨v,u,hm,r,q⟩
end
theorem l9{K:Fg1}{H:Hp}{mu:List dP}:∀ns:List Int,eh K H mu (ns.map D.int) (ns.map V.int)
 |[]=>.nil
 |n::ns=>.cons (.int n) (l9 ns)
theorem GG{K:Fg1}{m:FN}(hm:∀ ns:List Int,ns.length<=63 -> ∃ S,m [.rol (ns.map D.int)] []=some (.bl true,S))(H:Hp)(a:dP)(ns:List Int)(f:ns.length<=63)(c:Ef H)(b:nL K H a (ns.map V.int)):
  B1 K 1 m [.ref a] H (λv _=>v = .bl M) λ_ _ _=>False:=by
 refine⟨O,?_⟩;obtain⟨S,e⟩:=hm ns f;have d:RoL K H a (ns.map V.int):=by
  rcases b with h|h
  ·rcases h with h|h
   ·rcases c a with z|⟨o,xs,z⟩
    ·rw[h]at z;cases z
    ·rw[h]at z;cases z
   ·exact .inl h
  ·exact .inr h
 refine⟨[],[],[.rol (ns.map D.int)],.bl M,S,.cons (.rol d (l9 ns)) .nil,.nil,e,λv H' mu' x r s=>?_⟩;cases r;rfl
theorem walk_m{l:PySem.W.OpenLaw}{q:dQ}{b:List Str}{XP:(Str->Option dM)->dY->Prop}{g:dS->dY->Prop}{d:DefRec}{K:Params->Fg1}{m:FN}{k:Nat}{x:Str}(hn:l.most=some 63)(c:d.params.defaults=[])(hr:gi k callerA)(p:∀(w:dS) (h:dY),g w h->(K w.params).In h)(hm:∀ns:List Int,ns.length<=63 -> ∃S,m [.rol (ns.map D.int)] []=some (.bl true,S))(F:∀(w:dS) (mg:Str->Option dM) (e:dP) (h:dY),(K w.params).In h->h.Ns dU mg->mg d.name=some (.ref e) ->
   ∃fd:dZ,(∀(s:dN) (u:dM),BindsTo s fd ⟨[u],[]⟩ [(x,u)]) /\ ∀base:dY,(K w.params).In base->base.Ns dU mg->j6 l.prog w (K w.params) mg base uY k e fd [x] (B1 (K w.params) 1 m)):
  PySem.W.WalkO q b XP g l.row.toRowW d [] (λf vs=>PySem.call f vs):=
 L2.Cf (n:=63) (k:=k) (x:=x) (CX:=λ_=>uY) (sp:=λw=>B1 (K w.params) 1 m) hn (by decide) c hr p F (λ_ H a ns o j i=>GG hm H a ns o j i) λ_ _ _ _ _ z=>z
structure XE (X:Cx)(e:Expr)(m:FE):Prop where
 h:ME X e m
structure XT (X:Cx)(e:Expr)(m:FT):Prop where
 h:MT X e m
structure XW (X:Cx)(e:Expr)(m:FT):Prop where
 h:MW X e m
structure XA (X:Cx)(e:List Expr)(m:FA):Prop where
 h:MA X e m
structure XS (X:Cx)(e:d0)(m:FS):Prop where
 h:MS X e m
structure v6 (X:Cx)(e:List d0)(m:FS):Prop where
 h:zj X e m
structure XI (X:Cx)(tg e:Expr)(m:FI):Prop where
 h:MI X tg e m
structure XG (X:Cx)(e:Expr)(m:FG):Prop where
 h:MG X e m
structure JS (X:Cx)(e:List Expr)(m:B0):Prop where
 h:Jz X e m
structure XF (X:Cx)(K:Fg1)(ifs:List Expr)(t:FT):Prop where
 h:pW X ifs (zS K t)
theorem fD{X:Cx}:XF X X.K [] gU:=⟨C5⟩
theorem ft{X:Cx}{c:Expr}{t:FT}(h:XT X c t):XF X X.K [c] t:=⟨C4 h.h⟩
theorem xX{X:Cx}{sts:List d0}{b:FS}(a c:List Bool)(h:v6 X sts b):v6 X sts (qr a c b):=⟨AH a c h.h⟩
section
variable{pos:Pos}
theorem qK{i:Int}{j}:XE X (.Constant (.int i) j pos) (mC (.int i)):=⟨GA⟩
theorem nR{b:Bool}{j}:XE X (.Constant (.bool b) j pos) (mC (.bl b)):=⟨IF⟩
theorem gr{j}:XE X (.Constant .none j pos) (mC .non):=⟨Gy⟩
theorem eS{x:Str}{j}:XE X (.Constant (.str x) j pos) (mC (.str x)):=⟨Gw⟩
end
section
variable{pos:Pos}{e:Expr}{es:List Expr}{m:FE}{n:FA}
theorem qN:XA X [] d5:=⟨GC⟩
theorem qA(h:XE X e m)(ht:XA X es n)(hs:autoParam (dV (e::es) X.env=(J,eval e X.env)::dV es X.env) au0):XA X (e::es) (d4 m n):=⟨Dd (h:=h.h) (ht:=ht.h) (hs:=hs)⟩
end
section
variable{K:Fg1}{f:FN}{a b:FE}{σ:L2.St}{H:Hp}{Q:VK}
theorem qI{op:Operator}{x y:Expr}{pos:Pos}(ho:gF X (binaryOp op) (r2 X.K f))(hx:XE X x a)(hy:XE X y b):XE X (.BinOp x op y pos) (m2 f a b):=⟨IC (ho:=ho) (hx:=hx.h) (hy:=hy.h)⟩
theorem zy{op:UnaryOp}{x:Expr}{pos:Pos}(ho:HA X (unaryOp op) (λx H Q=>rN X.K f [x] H Q))(hx:XE X x a):XE X (.UnaryOp op x pos) (m1 f a):=⟨IB (ho:=ho) (hx:=hx.h)⟩
theorem B8{op:CmpOp}{x y:Expr}{pos:Pos}(ho:gF X (compareOp op) (r2 X.K f))(hx:XE X x a)(hy:XE X y b)(hm:behindInMarks op y=J):XE X (.Compare x [op] [y] pos) (m2 f a b):=⟨GB (ho:=ho) (hx:=hx.h) (hy:=hy.h) (hm:=hm)⟩
theorem qJ{x y:Expr}{pos:Pos}(ho:EL X (r2 X.K f))(hx:XE X x a)(hy:XE X y b)(hs:nM y):XE X (.Subscript x y pos) (m2 f a b):=⟨ID (ho:=ho) (hx:=hx.h) (hy:=hy.h) (hs:=hs)⟩
theorem qD {x:Str}{p pos:Pos}{e:Expr}{es:List Expr}{id:String}{a:FA}(hc:fH X (.builtin id) (rN X.K f))(hg:Gl X x)(hm:X.mg x=Y)(hv:bootBuiltins x=Z (.builtin id))(ha:XA X (e::es) a)(hn:autoParam (x≠"__name__") bu0)(hdb:autoParam ((x == ("__debug__":Str))=J) bu0)(he:autoParam (dV (e::es) X.env=(J,eval e X.env)::dV es X.env) au0)(hpl:autoParam ((backTo pos (dV es X.env)).any (·.1)=J) au0):XE X (.Call (.Name x p) (e::es) [] pos) (mN f a):=⟨AO (hc:=hc) (hg:=hg) (hm:=hm) (hv:=hv) (ha:=ha.h) (hn:=hn) (hdb:=hdb) (he:=he) (hpl:=hpl)⟩
theorem qE {x:Str}{p pos:Pos}{e:Expr}{es:List Expr}{T:String}{a:FA}(hc:fH X (.type T) (rN X.K f))(hg:Gl X x)(hm:X.mg x=Y)(hv:bootBuiltins x=Z (.type T))(ha:XA X (e::es) a)(hn:autoParam (x≠"__name__") bu0)(hdb:autoParam ((x == ("__debug__":Str))=J) bu0)(he:autoParam (dV (e::es) X.env=(J,eval e X.env)::dV es X.env) au0)(hpl:autoParam ((backTo pos (dV es X.env)).any (·.1)=J) au0):XE X (.Call (.Name x p) (e::es) [] pos) (mN f a):=⟨yA (hc:=hc) (hg:=hg) (hm:=hm) (hv:=hv) (ha:=ha.h) (hn:=hn) (hdb:=hdb) (he:=he) (hpl:=hpl)⟩
end
section
variable{x y c:Expr}{rest:List Expr}{pos:Pos}{a b:FT}{f g:FE}
theorem qX{op:CmpOp}{f:FN}{a b:FE}(ho:gF X (compareOp op) (r2 X.K f))(hx:XE X x a)(hy:XE X y b)(hm:behindInMarks op y=J):XT X (.Compare x [op] [y] pos) (mB (m2 f a b)):=⟨Gf (ho:=ho) (hx:=hx.h) (hy:=hy.h) (hm:=hm)⟩
theorem kG(ha:XT X x a):XW X (.BoolOp .And [x] pos) a:=⟨CY (ha:=ha.h)⟩
theorem rG(ha:XT X x a):XW X (.BoolOp .Or [x] pos) a:=⟨Gc (ha:=ha.h)⟩
theorem nz(ha:XT X x a)(hb:XW X (.BoolOp .And (y::rest) pos) b):XW X (.BoolOp .And (x::y::rest) pos) (vI a b):=⟨Gd (ha:=ha.h) (hb:=hb.h)⟩
theorem u9(ha:XT X x a)(hb:XW X (.BoolOp .Or (y::rest) pos) b):XW X (.BoolOp .Or (x::y::rest) pos) (Hw a b):=⟨Iz (ha:=ha.h) (hb:=hb.h)⟩
theorem nP(h:XW X x a):XT X x a:=⟨Kt (h:=h.h)⟩
theorem wg(ha:XT X x a):XT X (.UnaryOp .Not x pos) (AS a):=⟨Ge (ha:=ha.h)⟩
theorem nQ(hc:XT X c a)(hx:XE X x f)(hy:XE X y g):XE X (.IfExp c x y pos) (vH a f g):=⟨IE (hc:=hc.h) (hx:=hx.h) (hy:=hy.h)⟩
end
section
variable{x y z:Expr}{pos:Pos}{f g:FN}{a b c:FE}{op op':CmpOp}
end
section
variable{pos:Pos}{e c:Expr}{st:d0}{rest as bs:List d0}{a b:FS}{m:FE}{t:FT}
theorem qQ:v6 X [] pK:=⟨C0⟩
theorem qF(h1:XS X st a)(h2:v6 X rest b):v6 X (st::rest) (eA a b):=⟨AI (h1:=h1.h) (h2:=h2.h)⟩
theorem qG(h1:XS X st a):v6 X [st] a:=⟨CZ (h1:=h1.h)⟩
theorem kH(h:XE X e m)(hs:autoParam (swapsWith e Y pos.line X.env=pure J) au0):XS X (.Expr e pos) (fF m):=⟨C2 (h:=h.h) (hs:=hs)⟩
theorem qU(h:XE X e m):XS X (.Return (Z e) pos) (fA m):=⟨Gh (h:=h.h)⟩
theorem qV(hc:XT X c t)(ha:v6 X as a)(hb:v6 X bs b):XS X (.If c as bs pos) (hB t a b):=⟨IA (hc:=hc.h) (ha:=ha.h) (hb:=hb.h)⟩
end
section
variable{pos:Pos}
theorem qO(i:Nat){x:Str}(hN:X.N.Nodup)(hi:X.N[i]?=Z x)(hx:wc X.env.scope x)(hf:autoParam (X.fn x=M\/X.env.scope.names.lookup x=Z .local) au0):XG X (.Name x pos) (gN i):=⟨C8 (i:=i) (hN:=hN) (hi:=hi) (hx:=hx) (hf:=hf)⟩
theorem gM:JS X [] jp:=⟨C7⟩
theorem eH{e:Expr}{es:List Expr}{g:FG}{a:B0}(h1:XG X e g)(h2:JS X es a)(hs:autoParam ((assignEach (e::es) X.env).map (·.2)=assign e X.env::(assignEach es X.env).map (·.2)) au0):JS X (e::es) (fQ g a):=⟨AL (h1:=h1.h) (h2:=h2.h) (hs:=hs)⟩
theorem iq{es:List Expr}{k:Nat}{a:B0}{n:Nat}(hc:X.calm=M)(h:JS X es a)(hn:autoParam ((assignEach es X.env).length=n) au0)(hst:autoParam ((assignEach es X.env).findIdx? (·.1)=Y) au0):XG X (.Tuple es k pos) (gT n a):=⟨Gq (hc:=hc) (h:=h.h) (hn:=hn) (hst:=hst)⟩
theorem nB{o i:Expr}{a b:FE}{f:FN}(ho:XE X o a)(hi:XE X i b)(hs:wb X (rU X.K f))(ha:autoParam (∀ v,assign (.Subscript o i pos) X.env v=(do
   let ov<-holding [v] (eval o X.env)
   let iv<-holding [v,ov] (eval i X.env)
   standAt pos
   holding [v,ov,iv] (setItem ov iv v)
   release [v,ov,iv] [])) du0):XG X (.Subscript o i pos) (gS f a b):=⟨Gr (ho:=ho.h) (hi:=hi.h) (hs:=hs) (ha:=ha)⟩
theorem qR{tg e:Expr}{m:FE}{g:FG}(he:XE X e m)(hg:XG X tg g)(hs:autoParam (swapsWithSole [tg] e pos.line X.env=pure J) au0)(hw:autoParam (swappedStores [tg] e X.env=pure Y) au0)(h1:autoParam ((assignEach [tg] X.env).map (·.2)=[assign tg X.env]) au0):XS X (.Assign [tg] e pos) (eE m g):=⟨Gk (he:=he.h) (hg:=hg.h) (hs:=hs) (hw:=hw) (h1:=h1)⟩
theorem qY(i:Nat){x:Str}{e:Expr}{m:FE}{pos':Pos}(hN:X.N.Nodup)(hi:X.N[i]?=Z x)(hx:wc X.env.scope x)(he:XE X e m)(hs:autoParam (swapsWith e (Z (.Name x pos')) pos.line X.env=pure J) au0)(hf:autoParam (X.fn x=M\/X.env.scope.names.lookup x=Z .local) au0):XS X (.Assign [.Name x pos'] e pos) (eE m (gN i)):=⟨Gg (i:=i) (hN:=hN) (hi:=hi) (hx:=hx) (he:=he.h) (hs:=hs) (hf:=hf)⟩
theorem B7(i:Nat){x:Str}{e:Expr}{m:FE}{op:Operator}{f:FN}{pos':Pos}(hN:X.N.Nodup)(hi:X.N[i]?=Z x)(hx:wc X.env.scope x)(he:XE X e m)(ho:JU X op (r2 X.K f))(hf:autoParam (X.fn x=M\/X.env.scope.names.lookup x=Z .local) au0):XS X (.AugAssign (.Name x pos') op e pos) (Dg i f m):=⟨Gj (i:=i) (hN:=hN) (hi:=hi) (hx:=hx) (he:=he.h) (ho:=ho) (hf:=hf)⟩
end
section
theorem l0{X:Cx}{pos:Pos}(n:Nat){c:Expr}{a:List d0}{t:FT}{b:FS}(hp:PassesOwn (model X.prog X.w) X.A X.env X.xe)(hc:XT X c t)(hb:v6 X a b):XS X (.While c a [] pos) (s9 t b n):=⟨AJ (n:=n) (hp:=hp) (hc:=hc.h) (hb:=hb.h)⟩
theorem qW{X:Cx}{pos:Pos}{tg iter:Expr}{a:List d0}{m:FI}{g:FG}{b:FS}(hp:PassesOwn (model X.prog X.w) X.A X.env X.xe)(hc:X.calm=M)(hi:XI X tg iter m)(hg:XG X tg g)(hb:v6 X a b)(hs:autoParam (∀x,foldedSetIterable iter X.env x=pure x) du0):XS X (.For tg iter a [] pos) (hC m g b):=⟨Gi (hp:=hp) (hc:=hc) (hi:=hi.h) (hg:=hg.h) (hb:=hb.h) (hs:=hs)⟩
end
section
variable{es:List Expr}{pos:Pos}{a:FA}
theorem eD{x1}(h:XA X es a):XE X (.Tuple es x1 pos) (fg a):=⟨Gv (h:=h.h)⟩
theorem fC(h:XA X es a):XE X (.List es pos) (ip a):=⟨Gz (h:=h.h)⟩
end
section
variable{tg:Expr}
theorem qd{e:Expr}{m:FE}(h:XE X e m):XI X tg e (iU m):=⟨Gp (h:=h.h)⟩
theorem vb {a:Expr}{m:FA}{p pos:Pos}(hg:Gl X "range")(hm:X.mg "range"=Y)(ha:XA X [a] m)(hs:autoParam (dV [a] X.env=[(J,eval a X.env)]) au0):XI X tg (.Call (.Name "range" p) [a] [] pos) (pN m):=⟨yw (hg:=hg) (hm:=hm) (ha:=ha.h) (hs:=hs)⟩
theorem va {a b:Expr}{m:FA}{p pos:Pos}(hg:Gl X "range")(hm:X.mg "range"=Y)(ha:XA X [a,b] m)(hs:autoParam (dV [a,b] X.env=[(J,eval a X.env),(J,eval b X.env)]) au0)(hs2:autoParam (dV [b] X.env=[(J,eval b X.env)]) au0):XI X tg (.Call (.Name "range" p) [a,b] [] pos) (IS m):=⟨yv (hg:=hg) (hm:=hm) (ha:=ha.h) (hs:=hs) (hs2:=hs2)⟩
end
section
variable{tg:Expr}
variable{elts:List Expr}{k:Nat}{tpos:Pos}
theorem zx {a:Expr}{m:FA}{p pos:Pos}(hg:Gl X "enumerate")(hm:X.mg "enumerate"=Y)(ha:XA X [a] m)(hs:autoParam (dV [a] X.env=[(J,eval a X.env)]) au0):XI X (.Tuple elts k tpos) (.Call (.Name "enumerate" p) [a] [] pos) (GV m):=⟨C6 (hg:=hg) (hm:=hm) (ha:=ha.h) (hs:=hs)⟩
theorem kI {a b:Expr}{m:FA}{p pos:Pos}(hg:Gl X "zip")(hm:X.mg "zip"=Y)(ha:XA X [a,b] m)(hs:autoParam (dV [a,b] X.env=[(J,eval a X.env),(J,eval b X.env)]) au0)(hs2:autoParam (dV [b] X.env=[(J,eval b X.env)]) au0):XI X (.Tuple elts k tpos) (.Call (.Name "zip" p) [a,b] [] pos) (B3 m):=⟨Go (hg:=hg) (hm:=hm) (ha:=ha.h) (hs:=hs) (hs2:=hs2)⟩
end
section
variable{ag:List (dP×Obj)}{σ:L2.St}{H:Hp}{s:dN}{mu:List dP}{S:Sto}{K:Fg1}
theorem vd (T:Ty){e:Expr}{m:FE}{nm:Str}{p p2 pos:Pos}(hg:Gl X "isinstance")(hm:X.mg "isinstance"=Y)(hg2:Gl X nm)(hm2:X.mg nm=Y)(hv2:bootBuiltins nm=Z (.type T.nm))(h:XE X e m)(hn:autoParam (nm≠"__name__") bu0)(hd:autoParam ((nm == ("__debug__":Str))=J) bu0)(hs1:autoParam (dV [e,.Name nm p2] X.env=(J,eval e X.env)::dV [.Name nm p2] X.env) au0)(hs2:autoParam (dV [.Name nm p2] X.env=(J,eval (.Name nm p2) X.env)::dV [] X.env) au0)(hpl:autoParam ((backTo pos (dV [.Name nm p2] X.env)).any (·.1)=J) au0):XE X (.Call (.Name "isinstance" p) [e,.Name nm p2] [] pos) (yB T m):=⟨yz (T:=T) (hg:=hg) (hm:=hm) (hg2:=hg2) (hm2:=hm2) (hv2:=hv2) (h:=h.h) (hn:=hn) (hd:=hd) (hs1:=hs1) (hs2:=hs2) (hpl:=hpl)⟩
end
theorem vc {a:Expr}{m:FA}{d p2 b c:Pos}(hc:X.calm=M)(hg:Gl X "range")(hm:X.mg "range"=Y)(hg2:Gl X "list")(hm2:X.mg "list"=Y)(ha:XA X [a] m)(hs:autoParam (dV [a] X.env=[(J,eval a X.env)]) au0)(hs2:autoParam (dV [.Call (.Name "range" d) [a] [] b] X.env=[(J,eval (.Call (.Name "range" d) [a] [] b) X.env)]) au0):XE X (.Call (.Name "list" p2) [.Call (.Name "range" d) [a] [] b] [] c) (AU m):=⟨yx (hc:=hc) (hg:=hg) (hm:=hm) (hg2:=hg2) (hm2:=hm2) (ha:=ha.h) (hs:=hs) (hs2:=hs2)⟩
theorem qe {o e:Expr}{es:List Expr}{m:FE}{a:FA}{f:FN}{name:Str}{apos cpos:Pos}{id:String}(slot:Slot "list" name id)(hty:typeOf (.builtin id)=pure (.type "method_descriptor"))(hm:Eg X id (λx xs H Q=>rN X.K f (x::xs) H Q))(ho:XE X o m)(ha:XA X (e::es) a)(hbase:autoParam (attributeBase o name X.env (eval o X.env)=eval o X.env) au0)(hfew:autoParam (((backTo cpos (dV (e::es) X.env)).all (λx=> !x.1)&&(backToKw cpos (keywordEach [] X.env)).all (λx=>x.1.isSome)&&decide ((e::es).length+([]:List Keyword).length+(if([]:List Keyword).isEmpty then 0 else 1)<30))=M) au0)(hline:autoParam ((apos.endLine == cpos.line)=M) au0)(hs:autoParam (dV (e::es) X.env=(J,eval e X.env)::dV es X.env) au0)(hplain:autoParam ((backTo cpos (dV es X.env)).any (·.1)=J) au0):XE X (.Call (.Attribute o name apos) (e::es) [] cpos) (pL f m a):=⟨AN (slot:=slot) (hty:=hty) (hm:=hm) (ho:=ho.h) (ha:=ha.h) (hbase:=hbase) (hfew:=hfew) (hline:=hline) (hs:=hs) (hplain:=hplain)⟩
theorem Lu (i:Nat){x:Str}{pos:Pos}(hN:autoParam (X.N[i]?=Z x) au0)(hv:autoParam (Vis X.env.scope x) au0)(hd:autoParam ((x == ("__debug__":Str))=J) bu0)(hcd:autoParam ((x == ("__classdict__":Str))=J) bu0):XE X (.Name x pos) (mV i):=⟨mv (i:=i) (hN:=hN) (hv:=hv) (hd:=hd) (hcd:=hcd)⟩
section
theorem qH {X:Cx}{k k' n:Nat}{x:Str}{m:FN}{p pos:Pos}{e:Expr}{es:List Expr}{a:FA}(h:fR X.prog X.w X.K X.mg X.base k x n m)(hr:gi k' X.A)(hk:k<=k')(hg:Gl X x)(ha:XA X (e::es) a)(hdb:autoParam ((x == ("__debug__":Str))=J) bu0)(he:autoParam (dV (e::es) X.env=(J,eval e X.env)::dV es X.env) au0)(hpl:autoParam ((backTo pos (dV es X.env)).any (·.1)=J) au0):XE X (.Call (.Name x p) (e::es) [] pos) (mN (d8 n m) a):=⟨Gx (h:=h) (hr:=hr) (hk:=hk) (hg:=hg) (ha:=ha.h) (hdb:=hdb) (he:=he) (hpl:=hpl)⟩
theorem zz {X:Cx}{x:Str}{d:D}{pos:Pos}(h:CGl X.K X.mg x d)(hg:Gl X x)(hd:autoParam ((x == ("__debug__":Str))=J) bu0):XE X (.Name x pos) (mC d):=⟨Da (h:=h) (hg:=hg) (hd:=hd)⟩
end
structure JT (X:Cx)(K:Fg1)(tg:Expr)(ifs:List Expr)(elt:Expr)(g:FG)(t:FT)(e:FE):Prop where
 g:XG X tg g
 t:XF X K ifs t
 e:XE X elt e
theorem B6{P:dQ}{w:dS}{K:Fg1}{mg:Str->Option dM}{base:dY}{x c:Str}{st:d0}{f:dP}{fd:dZ}{N ps:List Str}{k n:Nat}{b:FS}(F:zt K x c st f fd)(hb:lX K fd ps [])(hm:mg x=some (.ref f))(S:gK N ps (eG st))(hn:ps.length=n)(e:∀(d:dM) (A:dR) (a:List Env) (s:dN) (H:Hp) (E:XK),gi k (A.deeper (envOfC c (eG st) s.heap.objs.size f d)) ->
   v6 (nw uY P w K mg base N c (eG st) f d A a s H E).nox (fK st) b):fR P w K mg base (k+1) x n (iH N.length b):=
 FX F hb hm S hn λd A a s H E g=>(e d A a s H E g).h
theorem EM{P:dQ}{w:dS}{K:Fg1}{mg:Str->Option dM}{base:dY}{x c:Str}{st:d0}{f:dP}{fd:dZ}{N ps:List Str}{k n:Nat}{b:FS}(F:zt K x c st f fd)(S:gK N ps (eG st))(hn:ps.length=n)(e:∀(d:dM) (A:dR) (a:List Env) (s:dN) (H:Hp) (E:XK),gi k (A.deeper (envOfC c (eG st) s.heap.objs.size f d)) ->
   v6 (nw uY P w K mg base N c (eG st) f d A a s H E).nox (fK st) b):j6 P w K mg base uY (k+1) f fd ps (B1 K n (iH N.length b)):=by
 subst hn;exact Ja F S λd A a s H E g=>(e d A a s H E g).h
abbrev FV:=Ev->Sto->Option (List D×Ev×Sto)
noncomputable def gh (c:List (Nat×List D))(g:FG)(t:FT)(b:FV):List D->FV
 |[]=>λr S=>if qo S c=true then some ([],r,S)else none
 |d::ds=>λr S=>if qo S c=true then(g d r S).bind λp=>(t p.1 p.2).bind λk=>if k.1=true then(b p.1 k.2).bind λq=>(gh c g t b ds q.2.1 q.2.2).map λz=>(q.1++z.1,z.2)else gh c g t b ds p.1 k.2 else none
noncomputable def eQ (m:FE):FV:=λr S=>(m r S).map λq=>([q.1],r,q.2)
noncomputable def fe (k:Nat)(keep:List Nat)(m:FI)(g:FG)(t:FT)(b:FV):FE:=λr S=>(m r S).bind λp=>
 (gh p.1.chk g t b p.1.items (oK k keep r) p.2).bind λq=>if q.1.length<=dW then some (.ref q.2.2.length,q.2.2++[.lst q.1])else none
section
variable{K:Fg1}{H H' H1:Hp}{mu mu' mu1:List dP}{S:Sto}{a:dP}
theorem Ext.aside(x:Ext mu mu' H H'):Ext (a::mu) (a::mu') H H' where
 pre:=b6.mpr ⟨O,x.pre⟩
 old:=λb o h n=>x.old b o h λz=>n (mC1 _ z)
 tup:=x.tup
 frz:=x.frz
 new:=λb h=>by
  rcases aG.mp h with h|h
  ·exact .inl (by rw[h];exact mS1)
  ·rcases x.new b h with q|q
   ·exact .inl (mC1 _ q)
   ·exact .inr q
theorem Ext.inner(x:Ext (a::mu) (a::mu') H H'):tf mu mu' H H':=⟨(b6.mp x.pre).2,x.tup,x.frz⟩
theorem Ext.held{o:HO}(x:Ext mu mu' H H')(ha:H a=Z o)(hn:a∉mu):H' a=Z o/\a∉mu':=by
 refine⟨x.old a o ha hn,λz=>?_⟩;rcases x.new a z with q|q
 ·exact hn q
 ·rw[ha]at q;cases q
theorem fW.exw{r:Ev}{σ:L2.St}(e:tf mu mu' H H')(h:fW K H mu r σ):fW K H' mu' r σ:=⟨h.len,λi d q=>by
 obtain⟨v,b,a⟩:=h.val i d q;exact⟨v,b,a.exw e⟩⟩
theorem kC.exw{b:dP}(e:tf mu mu' H H')(h:∀o,H b=Z o->H' b=Z o):∀{o:Ob},kC K H mu b o->kC K H' mu' b o
 | .lst _,⟨vs,q,r⟩=>⟨vs,h _ q,r.exw e⟩
 | .dct _,⟨ws,q,r⟩=>⟨ws,h _ q,Paired.mapP r λ_ _ z=>⟨z.1,z.2.exw e⟩⟩
 | .dcT _,⟨ws,q,r,l⟩=>⟨ws,h _ q,Paired.mapP r λ_ _ ⟨z,d,k,v,a,r⟩=>⟨z,d,k.exw e,v,a,r.exw e⟩,l⟩
 | .iset _,q=>⟨h _ q.1,q.2⟩
 | .dcF _,⟨ws,⟨o,u,f,c⟩,r,l⟩=>⟨ws,⟨o,u,h _ f,c⟩,Paired.mapP r λ_ _ ⟨z,d,k,v,a,r⟩=>⟨z,d,k.exw e,v,a,r.exw e⟩,l⟩
 | .tst _,⟨ws,q,r⟩=>⟨ws,h _ q,Paired.mapP r λ_ _ ⟨z,d,k,v,a,r⟩=>⟨z,d,k.exw e,v,a,r.exw e⟩⟩
theorem Sim.aside{u:HO}(s:Sim K H mu S)(e:tf mu mu H (upd H a u))(hn:a∉mu):Sim K (upd H a u) mu S:=
 ⟨s.len,s.nd,λk o b h1 h2=>(s.ob k o b h1 h2).exw e λo' q=>by rw[d9 (λz=>hn (by rw[<- z];exact gM1 h2))];exact q⟩
end
inductive HQ (K:Fg1)(a:dP)(m:FV)(E:jP)(σ:L2.St)(H:Hp):Prop
 |mk (r:Ev) (mu:List dP) (S:Sto) (acc:List D) (vs:List V) (xs:List D) (r':Ev) (S':Sto):H a=some (.lst vs)->a∉mu->eh K H mu acc vs->fW K H mu r σ->Sim K H mu S->m r S=some (xs,r',S')->vs.length+xs.length<=dW ->
 (∀ σ' H' mu' vs',Ext (a::mu) (a::mu') H H'->H' a=some (.lst vs')->a∉mu'->eh K H' mu' (acc++xs) vs'->fW K H' mu' r' σ'->Sim K H' mu' S'->E.nx σ' H')->HQ K a m E σ H
theorem oW{K:Fg1}{a:dP}{m:FE}{E:jP}{σ:L2.St}{H:Hp}(h:HQ K a (eQ m) E σ H):tE a (tM K m) E σ H:=by
 obtain⟨r,mu,S,o,vs,xs,u,w,q,g,s,i,n,f,t,hc⟩:=h;obtain⟨⟨d,p⟩,l,f⟩:=oM1.mp f;cases f;refine⟨r,mu,S,d,p,i,n,l,λv H1 mu1 e j k=>?_⟩;obtain⟨b,c⟩:=e.held q g;have put:Ext (a::mu1) (a::mu1) H1 (upd H1 a (.lst (vs++[v]))):=Ext.put b trivial mS1;refine⟨vs,b,t,?_⟩;exact hc σ _ mu1 (vs++[v]) (e.aside.trans put) eF c (((s.ext e).append (.cons j .nil)).exw put.inner) ((i.ext e).exw put.inner) (k.aside put.inner c)
inductive KX (K:Fg1)(a:dP)(mu2:List dP)(H:Hp)(c:List (Nat×List D))(g:FG)(t:FT)(b:FV)(r':Ev)(S':Sto)(tot:List D)(L:List D)(σ':L2.St)(H':Hp):Prop
 |mk (r3:Ev) (mu3:List dP) (S3:Sto) (acc3:List D) (vs3:List V) (xs3:List D):Ext (a::mu2) (a::mu3) H H'->H' a=some (.lst vs3)->a∉mu3->eh K H' mu3 acc3 vs3->fW K H' mu3 r3 σ'->Sim K H' mu3 S3->gh c g t b L r3 S3=some (xs3,r',S')->acc3++xs3=tot->vs3.length+xs3.length<=dW->KX K a mu2 H c g t b r' S' tot L σ' H'
theorem uk{K:Fg1}{a:dP}{j:It}{ao:BY}{g:FG}{t:FT}{b:FV}{tb:TS}{D:jP}(hb:∀ E σ H,HQ K a b E σ H->tb E σ H){mu1 e:List dP}{H1 H:Hp}{r G:Ev}{S I:Sto}{σ:L2.St}{acc xs:List Mi.D}{vs:List V}(hJ:ItR K j ao mu1 H1)(x:tf mu1 e H1 H)(ha:H a=Z (.lst vs))(hna:a∉e)(hr:eh K H e acc vs)(he:fW K H e r σ)(hs:Sim K H e S)(hm:gh ao.chk g t b ao.items r S=Z (xs,G,I))(hl:vs.length+xs.length<=dW)(hc:∀h H' mu' A,Ext (a::e) (a::mu') H H'->H' a=Z (.lst A)->a∉mu'->eh K H' mu' (acc++xs) A->fW K H' mu' G h->Sim K H' mu' I->D.nx h H'):En j (E6 K g) (zS K t) tb D σ H:=by
 refine⟨λi k h H'=>k=(ao.items.drop i).length/\KX K a e H ao.chk g t b G I (acc++xs) (ao.items.drop i) h H',
  ⟨_,O,r,e,S,acc,vs,xs,.refl _ _,ha,hna,hr,he,hs,hm,O,hl⟩,?_⟩
 rintro i k U Q ⟨rfl,r3,m,S3,f,vs3,W,L,w,z,v,C,P,c,o,l⟩;cases hd0:ao.items.drop i with
 |nil=>
  left;rw[hd0,gh]at c;dsimp only at c;split at c
  ·rename_i ok;cases c;refine⟨(hJ i Q m _ (x.trans L.inner) P ok).2 (List.drop_eq_nil_iff.mp hd0),hc U Q m vs3 L w z ?_ C P⟩;rw[<- o,aP];exact v
  ·cases c
 |cons d ds=>
  right;rw[hd0]at c;obtain⟨hi,hd⟩:=m5 hd0;rw[gh]at c;dsimp only at c;split at c
  ·rename_i ok;obtain⟨⟨aq,S4⟩,e4,c⟩:=oB1.mp c;obtain⟨⟨k5,S5⟩,e5,c⟩:=oB1.mp c;obtain⟨go,yl⟩:=(hJ i Q m _ (x.trans L.inner) P ok).1 d hi;refine⟨go,KX K a e H ao.chk g t b G I (acc++xs) ds,?_,λy H4 yy=>?_⟩
   ·intro h H' h6;exact⟨ds.length,bJ _,(congrArg List.length hd).symm,hd.symm ▸ h6⟩
   ·obtain⟨N,s4,q4⟩:=yl y H4 yy;obtain⟨R,au⟩:=N.held w z;refine⟨r3,m,S3,d,aq,S4,C.ext N,s4,q4,e4,fun σ5 H5 X x5 n s5=>?_⟩;obtain⟨ha5,T⟩:=x5.held R au;refine⟨aq,X,S4,k5,S5,n,s5,e5,λH6 p u s6=>?_⟩;obtain⟨B,F⟩:=u.held ha5 T;have xx:=((L.trans N.aside).trans x5.aside).trans u.aside;have q:eh K H6 p f vs3:=((v.ext N).ext x5).ext u;cases k5 with
    |true=>
     obtain⟨⟨q1,r7,S7⟩,e7,c⟩:=oB1.mp c;obtain⟨⟨z1,r8,S8⟩,e8,c⟩:=oM1.mp c;cases c;refine hb _ _ _ ⟨aq,p,S5,f,vs3,q1,r7,S7,B,F,q,n.ext u,s6,e7,?_,fun σ8 H8 mu8 vs8 x8 ha8 av s wq s8=>⟨r7,mu8,S7,f++q1,vs8,z1,xx.trans x8,ha8,av,s,wq,s8,e8,?_,?_⟩⟩
     ·rw[lA1]at l;dsimp only at l;lia
     ·rw[<- o,bc]
     ·have:=s.length;have h3:=q.length;rw[lA1]at this l;dsimp only at l;lia
    |false=>exact⟨aq,p,S5,f,vs3,W,xx,B,F,q,n.ext u,s6,c,o,l⟩
  ·cases c
theorem uO{K:Fg1}{k:Nat}{keep:List Nat}{m:FI}{g:FG}{t:FT}{b:FV}{tb:dP->TS}(hb:∀ a E σ H,HQ K a b E σ H->tb a E σ H){σ:L2.St}{H:Hp}{Q:VK}(h:tM K (fe k keep m g t b) σ H Q):
  wy k keep (Kb K m) (E6 K g) (zS K t) tb σ H Q:=by
 obtain⟨r,mu,S,d,au,aq,P,f,hc⟩:=h;obtain⟨⟨ao,T⟩,X,f⟩:=oB1.mp f;obtain⟨⟨xs,r2,N⟩,V,f⟩:=oB1.mp f;dsimp only at f;split at f
 ·rename_i U;cases f;refine ⟨r,mu,S,ao,T,aq,P,X,fun j H1 mu1 G W L p i=>?_⟩;have w:Ext mu1 mu1 H1 (upd H1 p (.lst [])):=Ext.fresh i;refine uk (hb p) W w.w eF (L.notin i) .nil ((Ey k keep (aq.ext G)).ext w) (L.fresh i) V (by simpa using U) fun R H' mu' s v x B A av s'=>?_;have y:Ext mu1 (mu'++[p]) H1 H':=by
   refine⟨((b6.mp v.pre).2).trans (bE _ _),λb o e n=>?_,λb ys e=>v.tup b ys (w.tup b ys e),λb o u e=>v.frz b o u (w.frz b o u e),λb D=>?_⟩
   ·have I:b≠p:=eP e i;exact v.old b o (by rw [d9 I];exact e) fun z=>by
     rcases aG.mp z with z|z
     ·exact I z
     ·exact n z
   ·rcases aH.mp D with z|z
    ·rcases v.new b (mC1 _ z)with q|q
     ·rcases aG.mp q with q|q
      ·exact .inr (by rw[q];exact i)
      ·exact .inl q
     ·by_cases l:b=p
      ·exact .inr (by rw[l];exact i)
      ·rw[d9 l]at q;exact .inr q
    ·have:b=p:=by simpa using z
     exact .inr (by rw[this];exact i)
  refine hc _ H' (mu'++[p]) (G.trans y) (.ref (gZ s'.len p)) ⟨by rw[lA1,lA1,s'.len];rfl,?_,λn o b h1 h2=>?_⟩
  ·rw[bG];refine⟨s'.nd,by simp,λb hb c hc e=>?_⟩;have:c=p:=by simpa using hc
   subst this;subst e;exact B hb
  ·by_cases F:n<N.length
   ·rw[gL1 F]at h1;rw[gL1 (by rw[s'.len];exact F)]at h2;exact(s'.ob n o b h1 h2).mor [p]
   ·have C:n=N.length:=by
     have:=(gE1.mp h1).1;rw[lA1]at this;simp at this;lia
    subst C;rw[gR1 (nR1 _)]at h1;rw[<- s'.len,gR1 (nR1 _)]at h2;simp at h1 h2;subst h1;subst h2;exact⟨s,x,(by simpa using A:eh K H' mu' xs s).mor [p]⟩
 ·cases f
theorem qZ{elt tg iter:Expr}{ifs:List Expr}{scope:d3}{pos:Pos}{T:List Str}{keep:List Nat}{i:List (Str×dP)}{m:FI}{g:FG}{t:FT}{e:FE}(hc:X.calm=M)(C:HB X scope T keep)(c:jH X.env.cells scope.names []=Z i)(hi:XI X tg iter m)(hb:∀s H b,JT (cxC X scope i T keep s H b) X.K tg ifs elt g t e)(hs:autoParam (∀x,foldedSetIterable iter X.env x=pure x) du0):XE X (.ListComp elt [⟨tg,iter,ifs,0⟩] scope pos) (fe T.length keep m g t (eQ e)):=
 ⟨fE (wN (emit:=rg elt) (tb:=λp=>tE p (tM X.K e)) hc (λit f d=>vj elt tg iter ifs scope pos it f d) C c hi.h (λs H b p=>⟨(hb s H b).g.h,(hb s H b).t.h,rY (hb s H b).e.h p⟩) hs)
  fun σ H Q h=>uO (λa E σ H q=>oW q) h⟩
theorem gm{elt tg iter:Expr}{ifs:List Expr}{scope:d3}{pos b l:Pos}{y:Str}(i:Nat){T:List Str}{keep:List Nat}{n:List (Str×dP)}{m:FI}{g:FG}{t:FT}{e:FE}(hc:X.calm=M)(C:HB X scope T keep)(d:jH X.env.cells scope.names []=Z n)(hi:XI X tg iter m)(hb:∀s H c,JT (cxC X scope n T keep s H c) X.K tg ifs elt g t e)(hN:X.N.Nodup)(hy:X.N[i]?=Z y)(hx:wc X.env.scope y)(k:autoParam (swapsWith (.ListComp elt [⟨tg,iter,ifs,0⟩] scope pos) (Z (.Name y l)) b.line X.env=pure M) au0)(hf:autoParam (X.fn y=M\/X.env.scope.names.lookup y=Z .local) au0)(hs:autoParam (∀x,foldedSetIterable iter X.env x=pure x) du0):XS X (.Assign [.Name y l] (.ListComp elt [⟨tg,iter,ifs,0⟩] scope pos) b) (eE (fe T.length keep m g t (eQ e)) (gN i)):=
 ⟨iF (CA (emit:=rg elt) (tb:=λp=>tE p (tM X.K e)) hc k (λit j f=>vj elt tg iter ifs scope pos it j f) C d hi.h (λs H c p=>⟨(hb s H c).g.h,(hb s H c).t.h,rY (hb s H c).e.h p⟩) hN hy hx hf hs)
  λE σ H h=>Hh (fun σ H Q q=>uO (λa E σ H q=>oW q) q) h⟩
noncomputable def uo:D->Option Key
 | .int i=>Z (.inl i)
 | .str x=>Z (.inr x)
 |_=>Y
noncomputable def ej{κ:Type}[DecidableEq κ](kvs:List (κ×D))(k:κ):Option D:=(kvs.find? λp=>decide (p.1=k)).map (·.2)
noncomputable def fB{κ:Type}[DecidableEq κ](kvs:List (κ×D))(k:κ)(d:D):List (κ×D):=
 if(kvs.any λp=>decide (p.1=k))=M then kvs.map (λp=>if p.1=k then(p.1,d)else p)else kvs++[(k,d)]
section
variable{K:Fg1}{H:Hp}{mu:List dP}
theorem lB{d:D}{v:V}{k:Key}(r:eX K H mu d v)(h:uo d=Z k):v=kV k:=by
 cases r with
 |int i=>cases h;rfl
 |str x=>cases h;rfl
 |_=>cases h
end
section
variable{κ:Type} [DecidableEq κ] {K:Fg1}{H:Hp}{mu:List dP}
theorem KR.length:∀{ks:List (κ×D)} {ws:List (κ×V)},KR K H mu ks ws->ks.length=ws.length:=λh=>Paired.length h
theorem KR.look{k:κ}:∀ {ks:List (κ×D)} {ws:List (κ×V)},KR K H mu ks ws ->
  (∀d,ej ks k=Z d -> ∃v,i3 ws k=Z v/\eX K H mu d v)/\(ej ks k=Y->i3 ws k=Y):=by
 intro ks ws h
 induction h with
 |nil=>exact⟨λd h=>by simp[ej]at h,λ_=>rfl⟩
 | @cons p q ks ws r t ih=>
  obtain⟨b,f⟩:=p;obtain⟨j,c⟩:=q;obtain⟨e,r⟩:=r;dsimp only at e r;subst e;obtain⟨h1,h2⟩:=ih;by_cases a:b=k
  ·subst a;refine⟨λd h=>?_,λh=>?_⟩
   ·have:f=d:=by simpa[ej]using h
    subst this;exact⟨c,by simp[i3],r⟩
   ·simp[ej]at h
  ·have g:ej ((b,f)::ks) k=ej ks k:=by simp[ej,bj,a]
   have i:i3 ((b,c)::ws) k=i3 ws k:=by simp[i3,bj,a]
   rw[g,i];exact⟨h1,h2⟩
theorem KR.any{k:κ}:∀{ks:List (κ×D)} {ws:List (κ×V)},KR K H mu ks ws->(ks.any λp=>decide (p.1=k))=ws.any λp=>decide (p.1=k):=by
 intro ks ws h
 induction h with
 |nil=>rfl
 |cons r t ih=>rw[bm,bm,ih,r.1]
theorem KR.repl{k:κ}{d:D}{v:V}(q:eX K H mu d v):∀ {ks:List (κ×D)} {ws:List (κ×V)},KR K H mu ks ws ->
  KR K H mu (ks.map λp=>if p.1=k then(p.1,d)else p) (ws.map λp=>if p.1=k then(p.1,v)else p):=by
 intro ks ws h
 induction h with
 |nil=>exact .nil
 | @cons a b ks ws r t ih=>
  refine .cons ?_ ih;obtain⟨e,r⟩:=r;dsimp only;by_cases h:a.1=k
  ·rw[ak h,ak (e ▸ h)];exact⟨e,q⟩
  ·rw[aj h,aj (e ▸ h)];exact⟨e,r⟩
theorem KR.snoc{k:κ}{d:D}{v:V}(q:eX K H mu d v):∀{ks:List (κ×D)} {ws:List (κ×V)},KR K H mu ks ws->KR K H mu (ks++[(k,d)]) (ws++[(k,v)]):=by
 intro ks ws h
 induction h with
 |nil=>exact .cons ⟨O,q⟩ .nil
 |cons r t ih=>exact .cons r ih
theorem KR.put{k:κ}{d:D}{v:V}(q:eX K H mu d v){ks:List (κ×D)}{ws:List (κ×V)}(h:KR K H mu ks ws):KR K H mu (fB ks k d) (iN ws k v):=by
 unfold fB iN;rw[h.any];split
 ·exact h.repl q
 ·exact h.snoc q
end
def vS:G2:=λd e S=>match e with
 | .ref n=>match S[n]? with
  |some (.dct kvs)=>(uo d).map λk=>(.bl (ej kvs k).isSome,S)
  |_=>Hz d e S
 |_=>Hz d e S
def jg:G2:=λd e S=>match e with
 | .ref n=>match S[n]? with
  |some (.dct kvs)=>(uo d).map λk=>(.bl (!(ej kvs k).isSome),S)
  |_=>ms d e S
 |_=>ms d e S
def mw:G2:=λd e S=>match d with
 | .ref n=>match S[n]? with
  |some (.dct kvs)=>(uo e).bind λk=>(ej kvs k).map λx=>(x,S)
  |_=>Bh d e S
 |_=>Bh d e S
def mZ:G3:=λo i v S=>match o with
 | .ref n=>match S[n]? with
  |some (.dct kvs)=>(uo i).bind λk=>if kvs.length<dW then Z (.non,S.set n (.dct (fB kvs k v)))else Y
  |_=>kx o i v S
 |_=>kx o i v S
theorem oG{K:Fg1}{H:Hp}{mu:List dP}{S:Sto}(hs:Sim K H mu S){n:Nat}{a:dP}{kvs:List (Key×D)}{k:Key}{y:V}(hn:mu[n]? = some a)(he:S[n]? = some (.dct kvs))(hy:y=kV k):
  ∃o:Option V,pX H a y o/\(∀d,ej kvs k=Z d -> ∃v,o=Z v/\eX K H mu d v)/\(ej kvs k=Y->o=Y)/\o.isSome=(ej kvs k).isSome:=by
 obtain⟨ws,b,c⟩:=hs.dct he hn;subst hy;obtain⟨h1,h2⟩:=c.look (k:=k);refine⟨i3 ws k,pX.k b,h1,h2,?_⟩;cases e:ej kvs k with
 |none=>rw[h2 e];rfl
 |some d=>obtain⟨v,f,_⟩:=h1 d e;rw[f];rfl
theorem Iw(m:X.A.units+64<cLine):gF X (compareOp .In) (r2 X.K (b2 vS)):=by
 intro ag s σ H x y u w Q I l i h;obtain⟨mu,S,d,e,r,j,f,b,c,a,hc⟩:=pA h;have back:Hz d e S=Z (r,j)->dX (model X.prog X.w) X.A (compareOp .In u w) (EP X ag σ Q) X.xe s:=λa=>Ks m ag s σ H x y u w Q I l i ⟨mu,S,[d,e],r,j,.cons f (.cons b .nil),c,a,hc⟩;unfold vS at a;split at a
 ·rename_i n;split at a
  ·rename_i kvs t;obtain⟨k,v,a⟩:=oM1.mp a;cases a;cases b with
   |ref p=>
    cases i;obtain⟨o,g,_,_,hi⟩:=oG c p t (lB f v);exact KH (by lia) I g l λs' q=>⟨.bl o.isSome,H,q,O,by rw[hi];exact hc.now (.bl _) c⟩
  ·exact back a
 ·exact back a
theorem AB(m:X.A.units+64<cLine):gF X (compareOp .NotIn) (r2 X.K (b2 jg)):=by
 intro ag s σ H x y u w Q I l i h;obtain⟨mu,S,d,e,r,j,f,b,c,a,hc⟩:=pA h;have back:ms d e S=Z (r,j)->dX (model X.prog X.w) X.A (compareOp .NotIn u w) (EP X ag σ Q) X.xe s:=λa=>CS m ag s σ H x y u w Q I l i ⟨mu,S,[d,e],r,j,.cons f (.cons b .nil),c,a,hc⟩;unfold jg at a;split at a
 ·rename_i n;split at a
  ·rename_i kvs t;obtain⟨k,v,a⟩:=oM1.mp a;cases a;cases b with
   |ref p=>
    cases i;obtain⟨o,g,_,_,hi⟩:=oG c p t (lB f v);exact DX (by lia) I g l λs' q=>⟨.bl (!o.isSome),H,q,O,by rw[hi];exact hc.now (.bl _) c⟩
  ·exact back a
 ·exact back a
theorem HC(P:X.A.units+64<cLine):EL X (r2 X.K (b2 mw)):=by
 intro value b ag s σ H x y v u Q I w B h j;obtain⟨mu,S,d,e,r,t,A,l,p,c,hc⟩:=pA h;have back:Bh d e S=Z (r,t)->dX (model X.prog X.w) X.A (subscriptTail value b v u) (EP X ag σ Q) X.xe s:=λc=>JW value b ag s σ H x y v u Q I w B ⟨mu,S,[d,e],r,t,.cons A (.cons l .nil),p,c,hc⟩ j;unfold mw at c;split at c
 ·rename_i n;split at c
  ·rename_i kvs G;obtain⟨k,ao,c⟩:=oB1.mp c;obtain⟨z,D,c⟩:=oM1.mp c;cases c;cases A with
   | @ref _ a K=>
    cases w;obtain⟨o,g,h1,_,_⟩:=oG p K G (lB l ao);obtain⟨N,L,F⟩:=h1 _ D;subst L;have C:=uL I g;unfold subscriptTail;refine wB1 ?_;rw[getitemInPython_of_ne C.not_modules];refine wB1 (wpAny_specialOf C PySem.F.slot_dict_getitem.lookup ?_);have i:dX (model X.prog X.w) X.A (subscripted b J (.ref a) u) (λr f=>dX (model X.prog X.w) X.A (letTemporaryGo value (.ref a) r >>= λ_=>pure r) (EP X ag σ Q) X.xe f) X.xe s:=by
     rw[j];exact wpAny_operating (wpAny_mono (y2 (by lia) I g B λav E aq q=>(⟨N,H,aq,q,hc.now F p⟩:EP X ag σ Q av E)) (λr f m=>wB1 (wpAny_letTemporaryGo (wP1 m))) λ_ _ x=>x)
    first
     |exact wP1 (wB1 i)
     |exact wB1 i
     |exact i
  ·exact back c
 ·exact back c
theorem Fj(L:X.A.units+64<cLine):wb X (rU X.K (b3 mZ)):=by
 intro ag s σ H o i v w p u Q I r m j h;obtain⟨mu,S,ds,d,g,A,b,a,hc⟩:=id h;cases A with
 |cons l C=>cases C with
  |cons x E=>cases E with
   |cons y K=>
    cases K;rename_i z t q;dsimp only[b3]at a;have back:kx z t q S=Z (d,g)->dX (model X.prog X.w) X.A (setItem w p u) (λ_ s'=>∃H',Inv X ag σ H' s'/\Q H') X.xe s:=λa=>H0 ag s σ H o i v w p u Q I r m j ⟨mu,S,[z,t,q],d,g,.cons l (.cons x (.cons y .nil)),b,a,hc⟩;unfold mZ at a;split at a
    ·rename_i n;split at a
     ·rename_i kvs D;obtain⟨k,F,a⟩:=oB1.mp a;split at a
      ·rename_i B;cases a;cases l with
       |ref c=>
        cases r;obtain⟨ws,e,f⟩:=b.dct D c;have ao:=lB x F;subst ao;refine yZ (by lia) I (zm.k e (by rw[<- f.length];exact B)) m j λs' G=>⟨_,G,?_⟩;have put:Ext mu mu H (upd H _ (.dK (iN ws k v))):=Ext.put e trivial (gM1 c);exact hc _ mu put (b.put c e trivial ⟨_,eF,(f.put y).ext put⟩)
      ·cases a
     ·exact back a
    ·exact back a
def DL:G2:=λd e S=>match e with
 | .non=>Z (.bl (qB d),S)
 | .bl b=>match d with
  | .bl c=>Z (.bl (c == b),S)
  |_=>Y
 |_=>Y
def iB:G2:=λd e S=>match e with
 | .non=>Z (.bl (!qB d),S)
 | .bl b=>match d with
  | .bl c=>Z (.bl (!(c == b)),S)
  |_=>Y
 |_=>Y
theorem Iu:gF X (compareOp .Is) (r2 X.K (b2 DL)):=by
 intro ag s σ H x y u w Q I k i h;obtain⟨mu,S,d,e,r,l,g,a,j,f,hc⟩:=pA h;cases e with
 |non=>exact Iv ag s σ H x y u w Q I k i ⟨mu,S,[d,.non],r,l,.cons g (.cons a .nil),j,f,hc⟩
 |bl b=>
  cases d with
  |bl c=>
   cases f;cases g;cases a;cases k;cases i;exact is_bool ⟨.bl (c == b),H,I,O,hc.now (.bl _) j⟩
  |_=>cases f
 |_=>cases f
theorem oD:gF X (compareOp .IsNot) (r2 X.K (b2 iB)):=by
 intro ag s σ H x y u w Q I k i h;obtain⟨mu,S,d,e,r,l,g,a,j,f,hc⟩:=pA h;cases e with
 |non=>exact F7 ag s σ H x y u w Q I k i ⟨mu,S,[d,.non],r,l,.cons g (.cons a .nil),j,f,hc⟩
 |bl b=>
  cases d with
  |bl c=>
   cases f;cases g;cases a;cases k;cases i;exact isnot_bool ⟨.bl (!(c == b)),H,I,O,hc.now (.bl _) j⟩
  |_=>cases f
 |_=>cases f
noncomputable def AV:FE:=λ_ S=>Z (.ref S.length,S++[.dct []])
theorem zA{pos:Pos}:XE X (.Dict [] [] pos) AV:=⟨fE Ar <| by
 rintro σ H Q ⟨r,mu,S,d,e,f,b,c,hc⟩ p a;cases c;exact hc _ _ (mu++[p]) (Ext.new_ a) (.ref (gZ b.len p)) (b.new a ⟨[],eF,.nil⟩)⟩
noncomputable def De:List (FE×FE)->Ev->Sto->Option (List (D×D)×Sto)
 |[],_,S=>Z ([],S)
 |(a,b)::l,r,S=>(a r S).bind λp=>(b r p.2).bind λq=>(De l r q.2).map λt=>((p.1,q.1)::t.1,t.2)
def xa:List (D×D)->Option (List (Key×D))
 |[]=>Z []
 |(k,d)::l=>(uo k).bind λk=>(xa l).map λt=>(k,d)::t
def ui(l:List (FE×FE)):FE:=λr S=>(De l r S).bind λp=>(xa p.1).bind λkvs=>if kvs.length<=15 then Z (.ref p.2.length,p.2++[.dct (kvs.foldl (λacc kv=>fB acc kv.1 kv.2) [])])else Y
structure XP (X:Cx)(pos:Pos)(ks:List (Option Expr))(vs:List Expr)(l:List (FE×FE)):Prop where
 h:Jx X pos ks vs (l.map λp=>(tM X.K p.1,tM X.K p.2))
theorem wh{pos:Pos}:XP X pos [] [] []:=⟨CC⟩
theorem gL{pos:Pos}{k v:Expr}{ks:List (Option Expr)}{vs:List Expr}{a b:FE}{l:List (FE×FE)}(hk:XE X k a)(hv:XE X v b)(t:XP X pos ks vs l):XP X pos (Z k::ks) (v::vs) ((a,b)::l):=⟨Ai hk.h hv.h t.h⟩
theorem Ah{K:Fg1}{σ:L2.St}:∀ {l:List (FE×FE)} {r:Ev} {mu:List dP} {H:Hp} {S e:Sto} {ps:List (D×D)} {Q:List (V×V)->Hp->Prop},fW K H mu r σ->Sim K H mu S->De l r S=some (ps,e) ->
  (∀vs H' mu',Ext mu mu' H H'->Paired (λ(p:D×D) (q:V×V)=>eX K H' mu' p.1 q.1/\eX K H' mu' p.2 q.2) ps vs->Sim K H' mu' e->Q vs H')->rM (l.map λp=>(tM K p.1,tM K p.2)) σ H Q
 |[],r,mu,H,S,e,ps,Q,he,hs,c,hc=>by cases c;exact hc [] H mu (.refl _ _) .nil hs
 |(a,b)::l,r,mu,H,S,e,ps,Q,he,hs,c,hc=>by
  obtain⟨⟨d,j⟩,z,c⟩:=oB1.mp c;obtain⟨⟨x,A⟩,n,c⟩:=oB1.mp c;obtain⟨⟨t,E⟩,w,c⟩:=oM1.mp c;cases c;refine⟨r,mu,S,d,j,he,hs,z,λv H1 mu1 h u y=>⟨r,mu1,j,x,A,he.ext h,y,n,λC H2 o g r2 s=>?_⟩⟩;refine Ah ((he.ext h).ext g) s w λvs m i f B k=>hc _ m i ((h.trans g).trans f) (.cons ⟨(u.ext g).ext f,r2.ext f⟩ B) k
theorem A4{K:Fg1}{H:Hp}{mu:List dP}:∀ {ps:List (D×D)} {vs:List (V×V)} {kvs:List (Key×D)},Paired (fun (p:D×D) (q:V×V)=>eX K H mu p.1 q.1/\eX K H mu p.2 q.2) ps vs->xa ps=some kvs ->
  ∃ws:List (Key×V),vs=ws.map (λc=>(kV c.1,c.2))/\KR K H mu kvs ws:=by
 intro ps vs kvs f h
 induction f generalizing kvs with
 |nil=>cases h;exact⟨[],O,.nil⟩
 | @cons a b ps vs q t ih=>
  obtain⟨k,d⟩:=a;obtain⟨m,g⟩:=b;obtain⟨j,l,h⟩:=oB1.mp h;obtain⟨rest,i,h⟩:=oM1.mp h;cases h;obtain⟨ws,e,r⟩:=ih i;have:=lB q.1 l;dsimp only at this;subst this;exact⟨(j,g)::ws,by rw[mP1,<- e],.cons ⟨O,q.2⟩ r⟩
theorem AM{K:Fg1}{H:Hp}{mu:List dP}:∀{kvs:List (Key×D)} {ws:List (Key×V)} {acc:List (Key×D)} {acw:List (Key×V)},KR K H mu kvs ws->KR K H mu acc acw->KR K H mu (kvs.foldl (λacc c=>fB acc c.1 c.2) acc) (jc acw ws):=by
 intro kvs ws acc acw f h
 induction f generalizing acc acw with
 |nil=>exact h
 | @cons a b kvs ws r t ih=>
  obtain⟨k,d⟩:=a;obtain⟨g,v⟩:=b;obtain⟨e,r⟩:=r;dsimp only at e r;subst e;show KR K H mu (kvs.foldl _ (fB acc k d)) (jc (iN acw k v) ws);exact ih (h.put r)
theorem tj{pos:Pos}{ks:List (Option Expr)}{vs:List Expr}{l:List (FE×FE)}(h:XP X pos ks vs l)(s:autoParam (ks.all (·.isSome)=M) au0)(ao:autoParam (ks.length=vs.length) au0)(h0:ks≠[]:=by nofun)(A:autoParam (ks.length<=15) bu0):XE X (.Dict ks vs pos) (ui l):=
 ⟨fE (CJ h.h s ao h0 A) <| by
  rintro σ H Q ⟨r,mu,S,d,R,P,D,f,hc⟩ p g;obtain⟨⟨ps,F⟩,av,f⟩:=oB1.mp f;obtain⟨kvs,K,f⟩:=oB1.mp f;dsimp only at f;split at f
  ·rename_i k;cases f;have x:Ext mu mu H (upd H p (.dK [])):=Ext.fresh g;refine Ah (P.ext x) (D.fresh g) av fun vs H1 mu1 i L j=>?_;obtain ⟨t,v⟩:=i.held (a:=p) (o:=.dK []) eF (D.notin g);obtain ⟨ws,N,rk⟩:=A4 L K;refine ⟨t,ws,N,by rw [<- rk.length];exact k,?_⟩;have put:Ext (p::mu1) (p::mu1) H1 (upd H1 p (.dK (jc [] ws))):=Ext.put t trivial mS1;have aq:=j.aside put.inner v;have y:Ext mu (mu1++[p]) H (upd H1 p (.dK (jc [] ws))):=by
    refine⟨i.pre.trans (bE _ _),λb o e n=>?_,λb ys e=>put.tup b ys (i.tup b ys (x.tup b ys e)),λb o u e=>put.frz b o u (i.frz b o u (x.frz b o u e)),λb C=>?_⟩
    ·have G:b≠p:=eP e g;rw[d9 G];exact i.old b o (by rw[d9 G];exact e) n
    ·rcases aH.mp C with z|z
     ·rcases i.new b z with q|q
      ·exact .inl q
      ·by_cases m:b=p
       ·exact .inr (by rw[m];exact g)
       ·rw[d9 m]at q;exact .inr q
     ·have:b=p:=by simpa using z
      exact .inr (by rw[this];exact g)
   have w:=AM rk (acc:=[]) (acw:=[]) .nil;refine hc _ _ (mu1++[p]) y (.ref (gZ j.len p)) ⟨by rw[lA1,lA1,j.len];rfl,?_,λn o b h1 h2=>?_⟩
   ·rw[bG];refine⟨j.nd,by simp,λb I c hc e=>?_⟩;have:c=p:=by simpa using hc
    subst this;subst e;exact v I
   ·by_cases E:n<F.length
    ·rw[gL1 E]at h1;rw[gL1 (by rw[j.len];exact E)]at h2;exact(aq.ob n o b h1 h2).mor [p]
    ·have B:n=F.length:=by
      have:=(gE1.mp h1).1;rw[lA1]at this;simp at this;lia
     subst B;rw[gR1 (nR1 _)]at h1;rw[<- j.len,gR1 (nR1 _)]at h2;simp at h1 h2;subst h1;subst h2;exact⟨_,eF,KR.mor [p] (Paired.mapP w λ_ _ z=>⟨z.1,z.2.exw put.inner⟩)⟩
  ·cases f⟩
section
variable{K:Fg1}{H H':Hp}{mu mu':List dP}{S:Sto}
end
theorem nA{X:Cx}(i j:Nat){x y:Str}{a b:Expr}{m:FA}{l k pt pos:Pos}{kt k2 pt2}(hc:X.calm=true)(hN:X.N.Nodup)(hi:X.N[i]? = some x)(q:X.N[j]? = some y)(n:i≠j)(hx:X.env.scope.names.lookup x=some .local)(hy:X.env.scope.names.lookup y=some .local)(ha:XA X [a,b] m)(hw:autoParam (swappedStores [.Tuple [.Name x l,.Name y k] kt pt] (.Tuple [a,b] k2 pt2) X.env=pure (some [x,y])) au0)(hs:autoParam (swapsWithSole [.Tuple [.Name x l,.Name y k] kt pt] (.Tuple [a,b] k2 pt2) pos.line X.env=pure false) au0):
  XS X (.Assign [.Tuple [.Name x l,.Name y k] kt pt] (.Tuple [a,b] k2 pt2) pos) (eE (fg m) (gT 2 (fQ (gN i) (fQ (gN j) jp)))):=
 ⟨iF (Fx hc hN hi q n hx hy ha.h hw hs) <| by
  rintro E σ H ⟨r,mu,S,f,w,z,p,hs,h,hc⟩;obtain⟨⟨d,A⟩,e,h⟩:=oB1.mp h;obtain⟨⟨r2,C⟩,c,h⟩:=oB1.mp h;cases h;obtain⟨⟨ds,B⟩,t,e⟩:=oB1.mp e;dsimp only at e;split at e
  ·cases e;refine⟨r,mu,S,ds,_,p,hs,t,λvs H1 mu1 o g v=>?_⟩;dsimp only at c;rw[gT]at c;split at c
   ·cases g with
    |nil=>cases c
    |cons s g=>cases g with
     |nil=>cases c
     |cons u g=>cases g with
      |nil=>
       cases c;exact⟨_,_,O,hc _ H1 mu1 o (((p.ext o).set s).set u) v⟩
      |cons _ _=>cases c
   ·cases c
  ·cases e⟩
noncomputable def Bj:G2:=λd e S=>match d,e with
 | .int i,.int j=>Z (.int (i+j),S)
 |_,_=>Y
theorem Dx{X:Cx}:JU X .Add (r2 X.K (b2 Bj)):=by
 intro ag s σ H x y v u Q I k f h;obtain⟨mu,S,d,e,r,l,c,b,g,a,hc⟩:=pA h;unfold Bj at a;split at a
 ·rename_i i j;cases a;cases c;cases b;exact Dy ag s σ H _ _ v u Q I k f ⟨i,j,O,O,hc.now (.int _) g⟩
 ·cases a
end Mi
namespace HT
open PySem PySem.Spec PyProof.Rows
variable{prog:dQ}{w:dS}{A:dR}{E:dM->dN->Prop}{s:dN}
end HT
namespace Mi
open PySem PySem.Spec PyProof.Rows L2
variable{X:Cx}
mutual
inductive hE (h:dY):TK->dM->Prop
 |non:hE h .non .none
 |int (i t):hE h (.int i) (.int i t)
 |tup {a o items n xs}:h.get? a=some o->o.cls = .type "tuple"->o.data = .seq items n->io h xs items.toList->hE h (.tup xs) (.ref a)
inductive io (h:dY):List TK->List dM->Prop
 |nil:io h [] []
 |cons {k v ks vs}:hE h k v->io h ks vs->io h (k::ks) (v::vs)
end
section
variable{prog:dQ}{w:dS}{A:dR}{E:dM->dN->Prop}{s:dN}
theorem tW{Q:Int->dN->Prop}(h:Q 0xFCA86420 {s with toks:=s.toks+1}):dX (model prog w) A (pyHash .none) Q E s:=by
 have a:s.TypeIs .none "NoneType":=rfl;unfold pyHash
 first|unfold pyHashByItsType|skip
 have b:[Value.none].any Value.onHeap=J:=rfl;refine wB1 ?_;rw[cRoomFor,aj (by rw[b];exact aL)];refine wP1 ?_;refine wB1 (wpAny_specialOf a F.slot_NoneType_hash.lookup ?_);show dX _ _ (if(Z (Value.builtin "NoneType.__hash__") == Z Value.none)=M then _ else _) Q E s;rw[aj (by rw[beq_builtin_none];exact aL)];refine wB1 (wpAny_specialOf a F.slot_NoneType_hash.lookup ?_);show dX _ _ (callSpecialIfBoundUnlessNone? .none "__hash__" _ >>= _) Q E s;refine wB1 (wpAny_callSpecialIfBoundUnlessNone?_slot a F.slot_NoneType_hash (wE1 F.slot_NoneType_hash a F.entry_NoneType_hash (show dX _ _ (retInt 0xFCA86420) _ _ s from wpAny_ret_mkInt ?_) (F.args_NoneType_hash_1 _)));exact wP1 h
def s7(prog:dQ)(w:dS)(k:TK):Prop:=∀{A:dR} {E:dM->dN->Prop} {s:dN} {v:dM} {Q:Int->dN->Prop},A.units+k.dep<cLine->hE s.heap k v->Q k.hash {s with toks:=s.toks+k.draws}->dX (model prog w) A (pyHash v) Q E s
theorem io.split{h:dY}:∀{ks:List TK} {vs:List dM},io h ks vs->ks.length=vs.length:=λa=>a.rec (motive_1:=λ_ _ _=>True) (motive_2:=λks vs _=>ks.length=vs.length) trivial (λ_ _=>trivial) (λ_ _ _ _ _=>trivial) O (λ_ _ _ ih=>congrArg (· + 1) ih)
theorem Bc{xs:List TK}(all:∀k∈xs,s7 prog w k):s7 prog w (.tup xs):=by
 intro A E s v Q t u h;cases u with
 | @tup a o m n _ r hc y hi=>
  have j:s.TypeIs (.ref a) "tuple":=⟨o,r,hc⟩;rw[TK.dep]at t;unfold pyHash
  first|unfold pyHashByItsType|skip
  first|refine wB1 (wpAny_cRoomFor_or (.inr (by lia)) ?_)|skip
  refine wB1 (wpAny_specialOf j F.slot_tuple_hash.lookup ?_);show dX _ _ (if(Z (Value.builtin "tuple.__hash__") == Z Value.none)=M then _ else _) Q E s;rw[aj (by rw[beq_builtin_none];exact aL)];refine wB1 (wpAny_specialOf j F.slot_tuple_hash.lookup ?_);show dX _ _ (callSpecialIfBoundUnlessNone? (.ref a) "__hash__" _ >>= _) Q E s;refine wB1 (wpAny_callSpecialIfBoundUnlessNone?_slot j F.slot_tuple_hash (wE1 F.slot_tuple_hash j F.entry_tuple_hash ?_ (F.args_tuple_hash_1 _)));show dX _ _ (Builtin.Tuple.tupleItemsOf (.ref a) >>= _) _ _ s;refine wB1 (wpAny_tupleItemsOf r y ?_);refine wB1 ?_;rw[<- Array.forIn_toList];refine wpAny_forIn_list _
   (λrest (b:Array Int) s'=>∃c d,xs=c++d/\io s.heap d rest/\b.toList=TK.hashes c/\s'={s with toks:=s.toks+TK.drawsAll c})
   _ ?_ ?_ _ _ ⟨[],xs,O,hi,O,O⟩
  ·rintro x rest b s' ⟨c,d,e,p,i,rfl⟩;cases p with
   | @cons k _ f _ h1 g=>
    have q:k∈xs:=by rw[e];simp
    refine wB1 (all k q (show A.in1.units+k.dep<cLine by have:=TK.dep_mem q;rw[show A.in1.units=A.units+1 from rfl];lia) h1 ?_)
    first
     |exact wP1 ⟨c++[k],f,by simp[e],g,by rw[TK.hashes_app];simp[i,TK.hashes],by rw[TK.draws_app];simp[TK.drawsAll,bu]⟩
     |exact wB1 (wP1 (wP1 ⟨c++[k],f,by simp[e],g,by rw[TK.hashes_app];simp[i,TK.hashes],by rw[TK.draws_app];simp[TK.drawsAll,bu]⟩))
  ·rintro b s' ⟨c,d,e,p,i,rfl⟩;cases p;rw[aP]at e;subst e;show dX _ _ (retInt (Builtin.Tuple.tupleHashOf b.toList)) _ _ _;rw[i];refine wpAny_ret_mkInt ?_;show dX _ _ (if(decide (-(2:Int)^63<=Builtin.Tuple.tupleHashOf (TK.hashes xs))&&decide (Builtin.Tuple.tupleHashOf (TK.hashes xs)<2^63))=M then _ else _) Q E _;rw[TK.hash,TK.draws]at h;unfold reduceHash at h;by_cases l:(decide (-(2:Int)^63<=Builtin.Tuple.tupleHashOf (TK.hashes xs))&&decide (Builtin.Tuple.tupleHashOf (TK.hashes xs)<2^63))=M
   ·rw[ak l];rw[ak l]at h;exact wP1 (by simpa[bu]using h)
   ·rw[aj l];rw[aj l]at h;exact wB1 (wpAny_rule (wP1 (by simpa[bu]using h)))
mutual
theorem xk:∀k:TK,s7 prog w k
 | .non=>λb a h=>by cases a;exact tW h
 | .int i=>λb a h=>by cases a;exact wpAny_pyHash_int h
 | .tup xs=>Bc (uA xs)
theorem uA:∀ks:List TK,∀k∈ks,s7 prog w k
 |[],k,h=>by simp at h
 |x::xs,k,h=>by
  by_cases e:k=x
  ·rw[e];exact xk x
  ·exact uA xs k ((aG.mp h).resolve_left e)
end
end
theorem hE.inj{h:dY}:∀ {k k':TK} {v:dM},hE h k v->hE h k' v->k=k':=fun e=>e.rec (motive_1:=fun k v _=>∀ k',hE h k' v->k=k') (motive_2:=fun k v _=>∀ k',io h k' v->k=k')
  (λk' g=>by cases g;rfl) (λ_ _ k' g=>by cases g;rfl)
  (λf m i n ih k' g=>by
   cases g with
   |tup d l c j=>
    rw[f]at d;cases d;rw[i]at c;cases c;rw[ih _ j])
  (λk' g=>by cases g;rfl) (λ_ _ a b k' g=>by cases g with|cons r' t'=>rw[a _ r',b _ t']) _
theorem hE.keeps{h h':dY}{d:dP}{o:Obj}{es ep}(ho:h.get? d=some o)(hd:o.data = .dict es ep)(hs:Heap.SameBut d h h'):∀ {k:TK} {v:dM},hE h k v->hE h' k v:=fun f=>f.rec (motive_1:=fun k v _=>hE h' k v) (motive_2:=fun k v _=>io h' k v) .non .int
  (λ{a} _ _ _ _ e g c _ ih=>.tup ((hs.2 a (λz=>by subst z;rw[e]at ho;cases ho;rw[c]at hd;cases hd)).trans e) g c ih) .nil (λ_ _ a b=>.cons a b)
theorem io.at{h:dY}:∀{ks:List TK} {vs:List dM} (j:Nat) (h1:j<ks.length) (h2:j<vs.length),io h ks vs->hE h ks[j] vs[j]
 |_::_,_::_,0,_,_,.cons r _=>r
 |_::ks,_::vs,j+1,h1,h2,.cons _ t=>io.at j (by simpa using h1) (by simpa using h2) t
theorem BP{xs ys:List TK}(b:xs.length=ys.length):((af (min xs.length ys.length)).all λj=>decide (xs[j]?=ys[j]?))=decide (xs=ys):=by
 by_cases h:xs=ys
 ·subst h;simp
 ·rw[ai h,List.all_eq_false];have:∃j,xs[j]? ≠ ys[j]?:=Classical.byContradiction λz=>h (b7 λj=>Classical.byContradiction λq=>z ⟨j,q⟩);obtain⟨j,a⟩:=this;refine⟨j,?_,by simpa using a⟩;rw[aC,b,Nat.min_self];apply Classical.byContradiction;intro c;exact a (by rw[b8 (by lia),b8 (by lia)])
theorem Je:∀(n:Nat) {k k':TK} {A:dR} {s:dN} {u v:dM},k.dep<=n->A.units+n<cLine->hE s.heap k u->hE s.heap k' v->SeqAt.EqAt A s u v (decide (k=k')):=by
 intro n
 induction n with
 |zero=>
  intro k k' A s u v I Q r g;cases r with
  |tup _ _ _ _=>simp[TK.dep]at I
  |non=>
   cases g with
   |non=>simpa using SeqAt.EqAt.same (A:=A) (s:=s) Value.none
   |int i t=>simpa[u4]using kA (A:=A) (s:=s) (y:=.non) (x:=.int i) O ⟨t,O⟩ O O
   |tup e c d t=>simpa using(fI (A:=A) (s:=s) (b:=J) (v:=.non) (u:=.none) ⟨_,e,c,_,d⟩ O O (by lia)).2.1
  |int i t=>
   cases g with
   |non=>simpa[u4]using kA (A:=A) (s:=s) (y:=.int i) (x:=.non) ⟨t,O⟩ O O O
   |int j H=>
    have:=kA (A:=A) (s:=s) (y:=.int i) (x:=.int j) ⟨t,O⟩ ⟨H,O⟩ O O;have e:u4 (.int i) (.int j)=decide (TK.int i=TK.int j):=by
     by_cases h:i=j
     ·subst h;simp[u4]
     ·rw[ai (λz=>h (by injection z))];simp[u4,h]
    rw[e]at this;exact this
   |tup e c d q=>simpa using(fI (A:=A) (s:=s) (b:=J) (v:=.int i) (u:=.int i t) ⟨_,e,c,_,d⟩ ⟨t,O⟩ O (by lia)).2.1
 |succ n ih=>
  intro k k' A s u v I Q r g;cases r with
  |non=>
   cases g with
   |non=>simpa using SeqAt.EqAt.same (A:=A) (s:=s) Value.none
   |int i t=>simpa[u4]using kA (A:=A) (s:=s) (y:=.non) (x:=.int i) O ⟨t,O⟩ O O
   |tup e c d t=>simpa using(fI (A:=A) (s:=s) (b:=J) (v:=.non) (u:=.none) ⟨_,e,c,_,d⟩ O O (by lia)).2.1
  |int i t=>
   cases g with
   |non=>simpa[u4]using kA (A:=A) (s:=s) (y:=.int i) (x:=.non) ⟨t,O⟩ O O O
   |int j H=>
    have:=kA (A:=A) (s:=s) (y:=.int i) (x:=.int j) ⟨t,O⟩ ⟨H,O⟩ O O;have e:u4 (.int i) (.int j)=decide (TK.int i=TK.int j):=by
     by_cases h:i=j
     ·subst h;simp[u4]
     ·rw[ai (λz=>h (by injection z))];simp[u4,h]
    rw[e]at this;exact this
   |tup e c d q=>simpa using(fI (A:=A) (s:=s) (b:=J) (v:=.int i) (u:=.int i t) ⟨_,e,c,_,d⟩ ⟨t,O⟩ O (by lia)).2.1
  | @tup a o f m xs w p B D=>
   cases g with
   |non=>simpa using(fI (A:=A) (s:=s) (b:=J) (v:=.non) (u:=.none) ⟨_,w,p,_,B⟩ O O (by lia)).1
   |int i t=>simpa using(fI (A:=A) (s:=s) (b:=J) (v:=.int i) (u:=.int i t) ⟨_,w,p,_,B⟩ ⟨t,O⟩ O (by lia)).1
   | @tup a2 S items2 m2 ys ao L N G=>
    by_cases aq:a=a2
    ·subst aq;have:TK.tup xs=TK.tup ys:=hE.inj (.tup w p B D) (.tup ao L N G);rw[ah this];exact .same _
    ·refine .of_refs aq ?_;have av:=D.split;have K:=G.split;have F:=SeqAt.RcAt.tuples (A:=A) (s:=s) (e:=fun j=>decide (xs[j]? = ys[j]?)) ⟨o,w,p,m,B⟩ ⟨S,ao,L,m2,N⟩ (by lia) (fun j h1 h2=>by
      have C:j<xs.length:=by rw[av];simpa using h1
      have P:j<ys.length:=by rw[K];simpa using h2
      rw[TK.dep]at I;have V:=TK.dep_mem (bY C);have q:=ih (k:=xs[j]) (k':=ys[j]) (A:=A.in1) (s:=s) (by lia) (by show A.units+1+n<cLine;lia) (D.at j C (by simpa using h1)) (G.at j P (by simpa using h2));have e:decide (xs[j]?=ys[j]?)=decide (xs[j]=ys[j]):=by
       rw[gG1 C,gG1 P];simp
      rw[e];simpa using q)
     have T:f.size=xs.length:=by rw[av];simp
     have U:items2.size=ys.length:=by rw[K];simp
     rw[T,U]at F;have E:((af (min xs.length ys.length)).all (λj=>decide (xs[j]?=ys[j]?))&&xs.length == ys.length)=decide (TK.tup xs=TK.tup ys):=by
      by_cases l:xs.length=ys.length
      ·rw[BP l,l,beq_self_eq_true,bS];by_cases h:xs=ys
       ·subst h;simp
       ·rw[ai h,ai (λz=>h (by injection z))]
      ·have R:(xs.length == ys.length)=J:=by simpa using l
       rw[R,Bool.and_false,ai (λz=>l (by injection z with z;rw[z]))]
     rw[E]at F;exact F
theorem Ab{prog:dQ}{w:dS}:∀(n:Nat) {k:TK} {A:dR} {E:dM->dN->Prop} {s:dN} {v:dM} {Q:Bool->dN->Prop},k.dep<=n->hE s.heap k v->Q M s->dX (model prog w) A (eqIsQuiet n v) Q E s:=by
 intro n
 induction n with
 |zero=>
  intro k A E s v Q c r h;cases r with
  |non=>rw[eqIsQuiet_byValue 0 O];exact wP1 h
  |int i t=>rw[eqIsQuiet_byValue 0 O];exact wP1 h
  |tup _ _ _ _=>simp[TK.dep]at c
 |succ n ih=>
  intro k A E s v Q c r h;cases r with
  |non=>rw[eqIsQuiet_byValue _ O];exact wP1 h
  |int i t=>rw[eqIsQuiet_byValue _ O];exact wP1 h
  | @tup a o b m xs f q y u=>
   have g:s.TypeIs (.ref a) "tuple":=⟨o,f,q⟩;rw[TK.dep]at c;unfold eqIsQuiet;refine wB1 (wpAny_specialOf g F.slot_tuple_eq.lookup ?_);show dX _ _ (isInstance (.ref a) (.type "tuple") >>= _) _ _ s;refine wB1 (wpAny_isInstance g isSubtype_tuple_tuple ?_);simp only[b9,bF1,if_false];refine wB1 (wpAny_seqItems f y ?_);refine wB1 ?_;show dX _ _ (forIn b _ _) _ _ s;rw[<- Array.forIn_toList];refine wpAny_forIn_list _ (λrest r s'=>r.1=Y/\s'=s /\ ∃ks,io s.heap ks rest/\TK.depAll ks<=n) _ ?_ ?_ _ _ ⟨O,O,xs,u,by lia⟩
   ·rintro v rest r s' ⟨d,rfl,ks,p,j⟩;cases p with
    | @cons z _ e _ l x=>
     rw[TK.depAll]at j;refine wB1 (ih (k:=z) (by lia) l ?_);simp only[b9,bF1,if_false];exact wP1 ⟨O,O,e,x,by lia⟩
   ·rintro⟨B,r2⟩ s' ⟨d,rfl,_⟩;simp only at d;subst d;exact wP1 h
def gk(prog:dQ)(w:dS):HeapKind prog w TK where
 is:=λh k a=>hE h k (.ref a)/\k.dep<=8
 hash:=TK.hash
 draws:=TK.draws
 room:=λA=>A.units+8<cLine
 inj:=λhx hy=>hx.1.inj hy.1
 keeps:=λx ho hd hs=>⟨x.1.keeps ho hd hs,x.2⟩
 pyHash:=λhu hk h=>xk _ (by have:=hk.2;omega) hk.1 h
 eqBool:=λhu hx hy h=>Je 8 hx.2 hu hx.1 hy.1 _ _ _ _ h
 quiet:=λhk h=>Ab 8 hk.2 hk.1 h
noncomputable def DN:G2:=λo v S=>match o,v with
 | .ref n,.ref b=>match S[n]?,S[b]? with
  |some (.lst xs),Z (.lst ys)=>if xs.length+ys.length<=dW then Z (.non,S.set n (.lst (xs++ys)))else Y
  |_,_=>Y
 |_,_=>Y
noncomputable def sG(n:Nat)(k:Int):Nat:=if k<0 then(k+(n:Int)).toNat else min k.toNat n
def yQ:G3:=λo i v S=>match o,i with
 | .ref n,.int k=>match S[n]? with
  |some (.lst xs)=>if-(2^63)<=k/\k<2^63/\xs.length<dW then Z (.non,S.set n (.lst (xs.take (sG xs.length k)++v::xs.drop (sG xs.length k))))else Y
  |_=>Y
 |_,_=>Y
noncomputable def yT(f:D->D->Option Bool)(x:D):List D->Option (List Bool)
 |[]=>Z []
 |y::ys=>(f y x).bind λb=>(yT f x ys).map (b :: ·)
def Bi:G2:=λo x S=>match o with
 | .ref n=>match S[n]? with
  |some (.lst ys)=>(yT (gI S eZ) x ys).bind λbs=>if bs.length<2^62 then(bs.findIdx? id).map λj=>(.int (j:Nat),S)else Y
  |_=>Y
 |_=>Y
theorem xy(f:D->D->Option Bool)(x:D):∀{ys:List D} {bs:List Bool},yT f x ys=Z bs->bs.length=ys.length /\ ∀(j:Nat) (y:D) (k:Bool),ys[j]?=Z y->bs[j]?=Z k->f y x=Z k
 |[],bs,h=>by cases h;exact⟨O,λj y k h=>by simp at h⟩
 |y::ys,bs,h=>by
  rw[yT]at h;obtain⟨b,c,h⟩:=oB1.mp h;obtain⟨g,e,h⟩:=oM1.mp h;obtain⟨d,a1⟩:=xy f x e;subst h;refine⟨by simp[d],λj=>?_⟩;cases j with
  |zero=>intro a k h1 h2;simp at h1 h2;subst h1;subst h2;exact c
  |succ j=>intro a k h1 h2;exact a1 j a k (by simpa using h1) (by simpa using h2)
section
open PySem.MeetsSeq PySem.MeetsSeq2 PySem.MeetsSeq3 PySem.SeqRoads2
theorem uz{l:dP}{its:Array dM}{n:Nat}{x:dM}{e:Nat->Bool}{top:Int}{j:Nat}(f:j<its.size)(ht:(j:Int)<top)(c:e j=true):∀ (k i:Nat),i+k=j->(∀ m,i<=m->m<j->e m=false) ->
  Meets (Builtin.«list.index.loop» ⟨[.ref l,x,rawInt i,rawInt top],[]⟩)
   (λA R s=>s.heap.get? l=Z {cls:=.type "list",data:=.seq its n}/\(∀m (h:m<its.size),SeqAt.EqAt A.in1 s its[m] x (e m))/\R (.ok (.ret (.int j s.toks))) {s with toks:=s.toks+1})
 |0,i,hk,hno,prog,w,A,R,⟨hp,g,d,tk,os⟩,⟨hl,he,h⟩=>by
  have o:i=j:=by lia
  subst o
  wp_walk using AutoSeq1.wpAny_loadPart' hl
  rw[show(if(i:Int)<top then its[((i:Nat):Int).toNat]? else Y)=Z its[i] by simp[ht,f]];refine wB1 (he i f prog w _ _ ?_);rw[c]
  wp_walk
  exact h
 |k+1,i,hk,hno,prog,w,A,R,⟨hp,g,d,tk,os⟩,⟨hl,he,h⟩=>by
  have h1:i<its.size:=by lia
  have h2:(i:Int)<top:=by lia
  wp_walk using AutoSeq1.wpAny_loadPart' hl
  rw[show(if(i:Int)<top then its[((i:Nat):Int).toNat]? else Y)=Z its[i] by simp[h1,h2]];refine wB1 (he i h1 prog w _ _ ?_);rw[hno i (nR1 i) (by lia)]
  wp_walk
  rw[show((i:Int)+1)=((i+1:Nat):Int) by push_cast;rfl];have z:=uz (l:=l) (n:=n) (x:=x) f ht c k (i+1) (by lia) (λm a b=>hno m (by lia) b) prog w A R _ ⟨hl,he,h⟩;exact⟨plainId_quiet plain_index_loop _,wD1 entry_index_loop (by rw[Around.under_plainId plain_index_loop _];exact z)⟩
theorem Ba{l:dP}{its:Array dM}{n:Nat}{x:dM}{e:Nat->Bool}{j:Nat}(k:j<its.size)(ht:(j:Int)<2^63-1)(c:e j=true)(a:∀ m,m<j->e m=false):
  Meets (Builtin.«list.index» ⟨[.ref l,x],[]⟩)
   (λA R s=>s.heap.get? l=Z {cls:=.type "list",data:=.seq its n}/\(∀m (h:m<its.size),SeqAt.EqAt A.in1 s its[m] x (e m))/\R (.ok (.ret (.int j s.toks))) {s with toks:=s.toks+1}):=by
 intro prog w A R ⟨p,g,d,tk,q⟩ ⟨f,o,h⟩
 wp_walk using AutoSeq1.wpAny_loadPart' f
 rw[show((λi:Int=>if i<0 then max 0 (i+(its.size:Int))else i) ((Y:Option Int).getD 0))=((0:Nat):Int) by simp,show((λi:Int=>if i<0 then max 0 (i+(its.size:Int))else i) ((Y:Option Int).getD (2^63-1)))=2^63-1 by simp];have z:=uz (l:=l) (n:=n) (x:=x) k ht c j 0 (by lia) (λm _ b=>a m b) prog w A R _ ⟨f,o,h⟩;exact⟨plainId_quiet plain_index_loop _,wD1 entry_index_loop (by rw[Around.under_plainId plain_index_loop _];exact z)⟩
end
theorem Km{K:Fg1}{H:Hp}{Q:VK}{f:G3}{xs:List V}(h:rN K (b3 f) xs H Q):∃x y z mu S d e g r b,xs=[x,y,z]/\eX K H mu d x/\eX K H mu e y/\eX K H mu g z/\Sim K H mu S/\f d e g S=Z (r,b)/\pY K mu H r b Q:=by
 obtain⟨mu,S,ds,r,b,i,c,a,hc⟩:=h;cases i with
 |nil=>cases a
 |cons q t=>cases t with
  |nil=>cases a
  |cons k t=>cases t with
   |nil=>cases a
   |cons j t=>cases t with
    |nil=>exact⟨_,_,_,mu,S,_,_,_,r,b,O,q,k,j,c,a,hc⟩
    |cons l t=>cases a
theorem HI:Eg X "list.extend" (λx xs H Q=>rN X.K (b2 DN) (x::xs) H Q):=by
 intro ag s σ H x xs v p Q I q u h;obtain⟨A,y,mu,S,d,e,z,B,m,k,r2,f,a,hc⟩:=yh h;cases m;unfold DN at a;split at a
 ·rename_i n b;split at a
  ·rename_i ys zs w j;split at a
   ·rename_i r;cases a;cases k with
    |ref g=>cases r2 with
     |ref o=>
      obtain⟨vs,c,t⟩:=f.lst w g;obtain⟨ws,l,i⟩:=f.lst j o;refine yt ag s σ H _ _ v p Q I q u ⟨_,_,vs,ws,O,O,c,l,by rw[<- t.length,<- i.length];exact r,?_⟩;exact hc _ _ mu (Ext.put c trivial (gM1 g)) .non (f.putL (t.append i) g c)
   ·cases a
  ·cases a
 ·cases a
theorem HH(V:X.A.units+64<cLine):Eg X "list.index" (λx xs H Q=>rN X.K (b2 Bi) (x::xs) H Q):=by
 intro ag s σ H x xs v wq Q I L C h;obtain⟨x',y,mu,S,d,e,W,au,P,N,r2,g,a,hc⟩:=yh h;cases P;unfold Bi at a;split at a
 ·rename_i n;split at a
  ·rename_i ys D;obtain⟨bs,E,a⟩:=oB1.mp a;split at a
   ·rename_i p;obtain⟨j,q,a⟩:=oM1.mp a;cases a;cases N with
    |ref B=>
     obtain⟨vs,av,t⟩:=g.lst D B;cases L;obtain⟨u,rfl,ao⟩:=C.one;obtain⟨z,b,K,c,hl,e⟩:=I.lstM av;obtain⟨l1,k⟩:=xy _ _ E;have l2:=t.length;have l3:=c.length;rw[ca]at q;obtain⟨w,o,l⟩:=q;have f:∀m (a:m<b.toArray.size),SeqAt.EqAt X.A.in1 s b.toArray[m] u (bs[m]?.getD J):=λm a=>by
      have m1:m<b.length:=by simpa using a
      obtain⟨U,aq,G⟩:=t.getV (i:=m) (v:=vs[m]'(by lia)) (gG1 (by lia));obtain⟨w',r,T⟩:=c.get (i:=m) (x:=vs[m]'(by lia)) (gG1 (by lia));have m2:m<bs.length:=by lia
      have R:b.toArray[m]=w':=by
       have:=gG1 m1;rw[this]at r;simpa using r
      rw[R,gG1 m2];exact(mz I g eZ (A:=X.A.in1) (by show X.A.units+1+60<cLine;lia) G r2 T ao (k m U bs[m] aq (gG1 m2))).1
     refine call_meets F.slot_list_index ⟨_,e,O⟩ F.entry_list_index (F.args_list_index_2 _ _)
      (Ba (n:=K) (e:=λm=>bs[m]?.getD J) (j:=j) (by simp;lia) (by lia) ?_ ?_) ⟨e,f,?_⟩
     ·simp only[gG1 w,cb];simpa using o
     ·intro m a;have m2:m<bs.length:=by lia
      have:=l m a;simp only[gG1 m2,cb];simpa using this
     ·exact⟨.int j,H,I.tok _,⟨_,O⟩,hc.now (.int _) g⟩
   ·cases a
  ·cases a
 ·cases a
theorem Em:Eg X "list.insert" (λx xs H Q=>rN X.K (b3 yQ) (x::xs) H Q):=by
 intro ag s σ H x xs v ao Q I w o h;obtain⟨P,y,z,mu,S,d,e,g,E,G,B,A,r2,D,l,b,hc⟩:=Km h;cases B;unfold yQ at b;split at b
 ·rename_i n k;split at b
  ·rename_i ys p;split at b
   ·rename_i j;cases b;cases A with
    |ref i=>
     cases r2;obtain⟨vs,f,t⟩:=l.lst p i;cases w;obtain⟨N,m,rfl,q,C⟩:=o.two;obtain⟨tk,rfl⟩:=q;obtain⟨aq,a,r,c,K,e⟩:=I.lstM f;have L:=t.length;have av:=c.length;refine call_meets F.slot_list_insert ⟨_,e,O⟩ F.entry_list_insert (F.args_list_insert_3 _ _ _)
      (AutoSeq1.list_insert_list_int_val_1 _ a.toArray r k tk m (by rw[fitsIndex_both j.1 j.2.1];exact aL) (by rw[sT1];omega)) ⟨e,?_⟩
     have x:=Ext.put (u:=.lst (vs.take (sG ys.length k)++z::vs.drop (sG ys.length k))) f trivial (gM1 i);refine⟨.non,_,I.lset (its':=a.take (sG ys.length k)++m::a.drop (sG ys.length k)) f e ?_ ((c.take _).append (.cons C (c.drop _))) ?_,O,hc _ _ mu x .non (l.putL ((t.take _).append (.cons D (t.drop _))) i f)⟩
     ·rw[show ys.length=a.length by omega];simp[sG];exact cc (by simp)
     ·simp;omega
   ·cases b
  ·cases b
 ·cases b
mutual
noncomputable def kD:D->Option TK
 | .non=>Z .non
 | .int i=>Z (.int i)
 | .tup xs=>(IM xs).map .tup
 |_=>Y
noncomputable def IM:List D->Option (List TK)
 |[]=>Z []
 |x::xs=>(kD x).bind λk=>(IM xs).map (k :: ·)
end
def keyT:D->Option TK
 | .tup xs=>(IM xs).bind λks=>if(TK.tup ks).dep<=8 then Z (.tup ks)else Y
 |_=>Y
mutual
theorem IN:∀{d:D} {k:TK},kD d=Z k->tkD k=d
 | .non,k,h=>by cases h;rfl
 | .int i,k,h=>by cases h;rfl
 | .tup xs,k,h=>by
  rw[kD]at h;obtain⟨ks,e,h⟩:=oM1.mp h;subst h;rw[tkD,vK e]
 | .bl _,k,h=>by simp[kD]at h
 | .str _,k,h=>by simp[kD]at h
 | .rol _,k,h=>by simp[kD]at h
 | .fn _,k,h=>by simp[kD]at h
 | .ref _,k,h=>by simp[kD]at h
theorem vK:∀{ds:List D} {ks:List TK},IM ds=Z ks->iE ks=ds
 |[],ks,h=>by cases h;rfl
 |x::xs,ks,h=>by
  rw[IM]at h;obtain⟨k,b,h⟩:=oB1.mp h;obtain⟨t,a,h⟩:=oM1.mp h;subst h;rw[iE,IN b,vK a]
end
theorem xb{d:D}{k:TK}(h:keyT d=Z k):tkD k=d/\k.dep<=8 /\ ∃xs,k = .tup xs:=by
 cases d with
 |tup xs=>
  rw[keyT]at h;obtain⟨ks,e,h⟩:=oB1.mp h;split at h
  ·rename_i a;cases h;exact⟨by rw[tkD,vK e],a,ks,O⟩
  ·cases h
 |_=>cases h
section
variable{ag:List (dP×Obj)}{σ:L2.St}{H:Hp}{s:dN}{mu:List dP}
mutual
theorem wt(I:Inv X ag σ H s):∀(k:TK) {v:V} {u:dM},eX X.K H mu (tkD k) v->ew v u->hE s.heap k u
 | .non,v,u,r,q=>by
  rw[tkD]at r;cases r;cases q;exact .non
 | .int i,v,u,r,q=>by
  rw[tkD]at r;cases r;obtain⟨t,rfl⟩:=q;exact .int i t
 | .tup xs,v,u,r,q=>by
  rw[tkD]at r;cases r with
  |tup h t=>
   cases q;obtain⟨c,d,⟨o,a,e,n,b⟩,_⟩:=I.tuple h;exact .tup a e b (by simpa using zO I xs t d)
theorem zO(I:Inv X ag σ H s):∀(ks:List TK) {vs:List V} {a:List dM},eh X.K H mu (iE ks) vs->eI vs a->io s.heap ks a
 |[],vs,a,r,q=>by rw[iE]at r;cases r;cases q;exact .nil
 |k::ks,vs,a,r,q=>by
  rw[iE]at r;cases r with
  |cons r t=>cases q with
   |cons q p=>exact .cons (wt I k r q) (zO I ks t p)
end
theorem vw{α β γ δ:Type}{F:α->β->Prop}{G:γ->δ->Prop}{f:α->γ}{g:β->δ}:∀{l₁:List α} {l₂:List β},Paired F l₁ l₂->(∀a b,F a b->G (f a) (g b))->Paired G (l₁.map f) (l₂.map g):=by
 intro a b h g
 induction h with
 |nil=>exact .nil
 |cons r t ih=>exact .cons (g _ _ r) ih
theorem vx{α β:Type}{F:α->β->Prop}:∀{l₁ e:List α} {l₂ f:List β},Paired F l₁ l₂->Paired F e f->Paired F (l₁++e) (l₂++f):=by
 intro a b c d h g
 induction h with
 |nil=>exact g
 |cons r t ih=>exact .cons r ih
theorem KT.length{K:Fg1}:∀{ks:List (TK×D)} {ws:List (TK×dP×dM)},KT K H mu ks ws->ks.length=ws.length:=λh=>Paired.length h
theorem KT.mem{K:Fg1}:∀{ks:List (TK×D)} {ws:List (TK×dP×dM)},KT K H mu ks ws -> ∀x∈ws,x.1.dep<=8/\eX K H mu (tkD x.1) (.ref x.2.1):=by
 intro ks ws a x h
 induction a with
 |nil=>cases h
 |cons r t ih=>
  rcases aG.mp h with e|e
  ·subst e;rw[<- r.1];exact⟨r.2.1,r.2.2.1⟩
  ·exact ih e
theorem KT.look{K:Fg1}{k:TK}:∀ {ks:List (TK×D)} {ws:List (TK×dP×dM)},KT K H mu ks ws ->
  (∀d,ej ks k=Z d -> ∃p v,atKey ws k=Z p/\ew v p.2/\eX K H mu d v)/\(atKey ws k).isSome=(ej ks k).isSome:=by
 intro ks ws h
 induction h with
 |nil=>exact⟨λd h=>by simp[ej]at h,O⟩
 | @cons p g ks ws r t ih=>
  obtain⟨b,f⟩:=p;obtain⟨l,a2,c⟩:=g;obtain⟨z,d,q,v,e,r⟩:=r;dsimp only at z q e r;subst z;obtain⟨h1,h2⟩:=ih;by_cases a:b=k
  ·subst a;refine⟨λd h=>?_,by simp[atKey,ej]⟩;have:f=d:=by simpa[ej]using h
   subst this;exact⟨(a2,c),v,by simp[atKey],e,r⟩
  ·have i:ej ((b,f)::ks) k=ej ks k:=by simp[ej,bj,a]
   have j:atKey ((b,a2,c)::ws) k=atKey ws k:=by simp[atKey,bj,a]
   rw[i,j];exact⟨h1,h2⟩
theorem KT.put{K:Fg1}{k:TK}{d:D}{v:V}{a:dP}{u:dM}(hk:k.dep<=8)(j:eX K H mu (tkD k) (.ref a))(g:ew v u)(q:eX K H mu d v){ks:List (TK×D)}{ws:List (TK×dP×dM)}(h:KT K H mu ks ws):KT K H mu (fB ks k d) (storedH ws k a u):=by
 unfold fB storedH;have e:(ks.any λp=>decide (p.1=k))=(atKey ws k).isSome:=by
  rw[h.look.2];unfold ej;rw[bo,bW,List.find?_isSome,bX]
 rw[e];split
 ·clear e;refine vw h λp w ⟨z,f,i,m,c,l⟩=>?_;unfold putAt;by_cases b:p.1=k
  ·rw[ak b,ak (by rw[<- z];exact b)];exact⟨z,f,i,v,g,q⟩
  ·rw[aj b,aj (by rw[<- z];exact b)];exact⟨z,f,i,m,c,l⟩
 ·exact vx h (.cons ⟨O,hk,j,v,g,q⟩ .nil)
theorem uM(I:Inv X ag σ H s){a:dP}{xs:List (TK×dP×dM)}{kvs:List (TK×D)}(e:H a=Z (.ext (gG a xs)))(h:KT X.K H mu kvs xs):(a == sysModules)=J/\s.heap.DictOfH (gk X.prog X.w) a xs:=by
 obtain⟨⟨h1,h2,o,es,ep,c,g,d,f⟩,_⟩:=(show eY X.prog X.w H s.heap a (.ext (gG a xs))from I.hok a _ e);exact⟨h1,o,es,ep,c,g,d,f,λx b=>⟨wt I _ (h.mem x b).2 O,(h.mem x b).1⟩,h2⟩
theorem sO{h:dY}{a:dP}{xs:List (TK×dP×dM)}(hd:(a == sysModules)=J)(hm:h.DictOfH (gk X.prog X.w) a xs):eY X.prog X.w H h a (.ext (gG a xs)):=by
 obtain⟨o,es,ep,d,g,l,i,p,f⟩:=hm;refine⟨⟨hd,f,o,es,ep,d,g,l,i⟩,⟨o,d⟩,λm n ⟨a1,a2,o',c,b,b3,j,k,e⟩ st=>⟨a1,a2,o',c,b,st _ b3,j,k,e⟩⟩
end
def im:G2:=λd e S=>match e with
 | .ref n=>match S[n]? with
  |some (.dcT kvs)=>(keyT d).map λk=>(.bl (ej kvs k).isSome,S)
  |_=>vS d e S
 |_=>vS d e S
def fZ:G2:=λd e S=>match e with
 | .ref n=>match S[n]? with
  |some (.dcT kvs)=>(keyT d).map λk=>(.bl (!(ej kvs k).isSome),S)
  |_=>jg d e S
 |_=>jg d e S
def d6:G2:=λd e S=>match d with
 | .ref n=>match S[n]? with
  |some (.dcT kvs)=>(keyT e).bind λk=>(ej kvs k).map λx=>(x,S)
  |some (.dcF kvs)=>(keyT e).bind λk=>(ej kvs k).map λx=>(x,S)
  |_=>mw d e S
 |_=>mw d e S
def jG:G3:=λo i v S=>match o with
 | .ref n=>match S[n]? with
  |some (.dcT kvs)=>(keyT i).bind λk=>if kvs.length<dW then Z (.non,S.set n (.dcT (fB kvs k v)))else Y
  |some (.dct [])=>match keyT i with
   |some k=>Z (.non,S.set n (.dcT [(k,v)]))
   |none=>mZ o i v S
  |_=>mZ o i v S
 |_=>mZ o i v S
theorem mX{κ:Type}[DecidableEq κ](kvs:List (κ×D))(k:κ)(d:D):(fB kvs k d).length<=kvs.length+1:=by
 unfold fB;split
 ·rw[lM1];lia
 ·simp
theorem oV{h:dY}{a:dP}(dd:h.DictOf (fu X.prog X.w) a []):h.DictOfH (gk X.prog X.w) a []:=by
 obtain⟨o,es,ep,h1,h2,c,_,b,_⟩:=dd;have e:es.toList=[]:=by
  generalize es.toList=l at b;cases b;rfl
 exact⟨o,es,ep,h1,h2,c,e,(λx d=>by simp at d),bw⟩
theorem i7{A:dR}(a:A.units+64<cLine):(gk X.prog X.w).room A.in1:=by
 show A.units+1+8<cLine;lia
theorem jD{ag:List (dP×Obj)}{σ:L2.St}{H:Hp}{s:dN}{mu:List dP}(I:Inv X ag σ H s){d:D}{v:V}{u:dM}{k:TK}(r:eX X.K H mu d v)(q:ew v u)(h:keyT d=some k):
  ∃a,u = .ref a/\v = .ref a/\eX X.K H mu (tkD k) (.ref a)/\k.dep<=8/\(gk X.prog X.w).is s.heap k a:=by
 obtain⟨e,b,xs,ex⟩:=xb h;subst e;have is:=wt I k r q;subst ex;cases id is with
 | @tup a _ _ _ _ _ _ _ _=>
  rw[tkD]at r;cases r with
  |tup h1 h2=>
   cases q;exact⟨a,O,O,by rw[tkD];exact .tup h1 h2,b,is,b⟩
theorem lf(g:X.A.units+64<cLine):gF X (compareOp .In) (r2 X.K (b2 im)):=by
 intro ag s σ H x y u w Q I o j h;obtain⟨mu,S,d,e,r,m,i,c,f,b,hc⟩:=pA h;have back:vS d e S=Z (r,m)->dX (model X.prog X.w) X.A (compareOp .In u w) (EP X ag σ Q) X.xe s:=λb=>Iw g ag s σ H x y u w Q I o j ⟨mu,S,[d,e],r,m,.cons i (.cons c .nil),f,b,hc⟩;unfold im at b;split at b
 ·rename_i n;split at b
  ·rename_i kvs z;obtain⟨k,A,b⟩:=oM1.mp b;cases b;cases c with
   |ref p=>
    cases j;obtain⟨xs,v,l,_⟩:=f.dcT z p;obtain⟨t,q⟩:=uM I v l;obtain⟨a,rfl,rfl,_,_,hi⟩:=jD I i o A;refine wpAny_in_heap (i7 g) hi t q ?_;exact⟨.bl (atKey xs k).isSome,H,I.tok _,O,by rw[l.look.2];exact hc.now (.bl _) f⟩
  ·exact back b
 ·exact back b
theorem oC(g:X.A.units+64<cLine):gF X (compareOp .NotIn) (r2 X.K (b2 fZ)):=by
 intro ag s σ H x y u w Q I o j h;obtain⟨mu,S,d,e,r,m,i,c,f,b,hc⟩:=pA h;have back:jg d e S=Z (r,m)->dX (model X.prog X.w) X.A (compareOp .NotIn u w) (EP X ag σ Q) X.xe s:=λb=>AB g ag s σ H x y u w Q I o j ⟨mu,S,[d,e],r,m,.cons i (.cons c .nil),f,b,hc⟩;unfold fZ at b;split at b
 ·rename_i n;split at b
  ·rename_i kvs z;obtain⟨k,A,b⟩:=oM1.mp b;cases b;cases c with
   |ref p=>
    cases j;obtain⟨xs,v,l,_⟩:=f.dcT z p;obtain⟨t,q⟩:=uM I v l;obtain⟨a,rfl,rfl,_,_,hi⟩:=jD I i o A;refine wpAny_notIn_heap (i7 g) hi t q ?_;exact⟨.bl (!(atKey xs k).isSome),H,I.tok _,O,by rw[l.look.2];exact hc.now (.bl _) f⟩
  ·exact back b
 ·exact back b
theorem G7{ag:List (dP×Obj)}{σ:L2.St}{H:Hp}{s:dN}{mu:List dP}(I:Inv X ag σ H s){a:dP}{xs:List (TK×dP×dM)}{kvs:List (TK×D)}(e:∃o u,H a=Z (.frz o u)/\xW a xs o)(h:KT X.K H mu kvs xs):(a == sysModules)=J/\s.heap.DictOfH (gk X.prog X.w) a xs:=by
 obtain⟨o,u,e,h1,h2,g,es,ep,d,f⟩:=e;obtain⟨c,_⟩:=(show eY X.prog X.w H s.heap a (.frz o u)from I.hok a _ e);exact⟨h1,o,es,ep,c,g,d,f,λx b=>⟨wt I _ (h.mem x b).2 O,(h.mem x b).1⟩,h2⟩
theorem qP(F:X.A.units+64<cLine):EL X (r2 X.K (b2 d6)):=by
 intro value c ag s σ H x y v u Q I C ao h m;obtain⟨mu,S,d,e,r,w,D,o,t,f,hc⟩:=pA h;have back:mw d e S=Z (r,w)->dX (model X.prog X.w) X.A (subscriptTail value c v u) (EP X ag σ Q) X.xe s:=λf=>HC F value c ag s σ H x y v u Q I C ao ⟨mu,S,[d,e],r,w,.cons D (.cons o .nil),t,f,hc⟩ m;have g:∀kvs a xs,v = .ref a->KT X.K H mu kvs xs->s.heap.DictOfH (gk X.prog X.w) a xs->((keyT e).bind λk=>(ej kvs k).map λx=>(x,S))=Z (r,w)->dX (model X.prog X.w) X.A (subscriptTail value c v u) (EP X ag σ Q) X.xe s:=λkvs a xs P j G f=>by
  obtain⟨k,N,f⟩:=oB1.mp f;obtain⟨z,L,f⟩:=oM1.mp f;cases f;subst P;obtain⟨b,rfl,rfl,_,_,hi⟩:=jD I o ao N;obtain⟨p,R,ep,aq,av⟩:=j.look.1 _ L;have K:=G.typeIs;unfold subscriptTail;refine wB1 ?_;rw[getitemInPython_of_ne K.not_modules];refine wB1 (wpAny_specialOf K PySem.F.slot_dict_getitem.lookup ?_);have l:dX (model X.prog X.w) X.A (subscripted c J (.ref a) (.ref b)) (λr i=>dX (model X.prog X.w) X.A (letTemporaryGo value (.ref a) r >>= λ_=>pure r) (EP X ag σ Q) X.xe i) X.xe s:=by
   rw[m];exact wpAny_operating (wpAny_mono (wpAny_getItem_heap (i7 F) hi G ep (show EP X ag σ Q p.2 _ from⟨R,H,I.tok _,aq,hc.now av t⟩)) (λr i q=>wB1 (wpAny_letTemporaryGo (wP1 q))) λ_ _ x=>x)
  first
   |exact wP1 (wB1 l)
   |exact wB1 l
   |exact l
 unfold d6 at f;split at f
 ·rename_i n;split at f
  ·rename_i kvs A;cases D with
   | @ref _ a B=>
    cases C;obtain⟨xs,E,j,_⟩:=t.dcT A B;exact g kvs a xs O j (uM I E j).2 f
  ·rename_i kvs A;cases D with
   | @ref _ a B=>
    cases C;obtain⟨xs,E,j,_⟩:=(show kC X.K H mu a (.dcF kvs)from t.ob n _ a A B);exact g kvs a xs O j (G7 I E j).2 f
  ·exact back f
 ·exact back f
theorem rV(y:X.A.units+64<cLine):wb X (rU X.K (b3 jG)):=by
 intro ag s σ H o i v R av u Q I ao E p h;obtain⟨mu,S,ds,d,N,U,l,a,hc⟩:=id h;cases U with
 |cons D W=>cases W with
  |cons L au=>cases au with
   |cons w wq=>
    cases wq;rename_i T P G;dsimp only[b3]at a;have back:mZ T P G S=Z (d,N)->dX (model X.prog X.w) X.A (setItem R av u) (λ_ s'=>∃H',Inv X ag σ H' s'/\Q H') X.xe s:=λa=>Fj y ag s σ H o i v R av u Q I ao E p ⟨mu,S,[T,P,G],d,N,.cons D (.cons L (.cons w .nil)),l,a,hc⟩;unfold jG at a;split at a
    ·rename_i n;split at a
     ·rename_i kvs B;obtain⟨k,C,a⟩:=oB1.mp a;split at a
      ·rename_i hl;cases a;cases D with
       | @ref _ j f=>
        cases ao;obtain⟨xs,x,m,V⟩:=l.dcT B f;obtain⟨K,F⟩:=uM I x m;obtain⟨b,rfl,rfl,rk,r,hi⟩:=jD I L E C;refine wpAny_setItem_heap (hsz:=V) (i7 y) hi F λh' e c=>?_;have g:∃q,h'.get? _=Z q:=let ⟨q,_,_,g,_⟩:=e;⟨q,g⟩
        have put:Ext mu mu H (upd H j (.ext (gG j (storedH xs k b u)))):=Ext.put x trivial (gM1 f);refine⟨_,lI I (by rw[x];exact True.intro) c g (sO K e),hc _ mu put (l.put f x trivial ⟨_,eF,((m.put r rk p w).ext put),?_⟩)⟩;rw[<- (m.put r rk p w).length];have:=mX kvs k G;lia
      ·cases a
     ·rename_i B;split at a
      ·rename_i k C;cases a;cases D with
       | @ref _ j f=>
        cases ao;obtain⟨ws,t,m⟩:=l.dct B f;cases m;obtain⟨z,K,vs,A,F⟩:=xE I.hok t;cases A;obtain⟨b,rfl,rfl,rk,r,hi⟩:=jD I L E C;have aq:s.heap.DictOfH (gk X.prog X.w) _ []:=oV F;refine wpAny_setItem_heap (hsz:=br _) (i7 y) hi aq λh' e c=>?_;have g:∃q,h'.get? _=Z q:=let ⟨q,_,_,g,_⟩:=e;⟨q,g⟩
        have put:Ext mu mu H (upd H j (.ext (gG j (storedH [] k b u)))):=Ext.put t trivial (gM1 f);exact⟨_,lI I (by rw[t];exact True.intro) c g (sO K e),hc _ mu put (l.put f t trivial ⟨_,eF,KT.ext put (.cons ⟨O,r,rk,v,p,w⟩ .nil),(show 1<=dW by decide)⟩)⟩
      ·exact back a
     ·exact back a
    ·exact back a
def vk(S:Sto)(d:D):Option Bool:=match d with
 | .non=>Z J
 | .bl b=>Z b
 | .int i=>Z (i != 0)
 | .str y=>if y.length<=dW then Z ((y.length:Int) != 0)else Y
 | .ref n=>match S[n]? with
  |some (.dct kvs)=>Z (!kvs.isEmpty)
  |_=>(et S d).map λp=> !p.2.isEmpty
 |_=>(et S d).map λp=> !p.2.isEmpty
noncomputable def Hv (m:FE):FT:=λr S=>(m r S).bind λp=>(vk p.2 p.1).map λb=>(b,p.2)
section
variable{K:Fg1}{H:Hp}{mu:List dP}{S:Sto}
theorem rS{d:D}{v:V}{b:Bool}(r:eX K H mu d v)(s:Sim K H mu S)(h:((et S d).map λp=> !p.2.isEmpty)=Z b):Ee K v H b:=by
 obtain⟨⟨k,xs⟩,e,h⟩:=oM1.mp h;obtain⟨a,vs,rfl,q,t⟩:=eB r s e;have z:(!xs.isEmpty) = !vs.isEmpty:=by cases t<;>rfl
 dsimp only at h;rw[z]at h;cases k
 ·exact .inr (.inl ⟨vs,q,h.symm⟩)
 ·exact .inl ⟨vs,q,h.symm⟩
theorem E1{d:D}{v:V}{b:Bool}(r:eX K H mu d v)(s:Sim K H mu S)(h:vk S d=Z b):Ee K v H b:=by
 cases d with
 |non=>cases r;cases h;rfl
 |bl k=>cases r;cases h;rfl
 |int i=>cases r;cases h;rfl
 |str y=>
  rw[vk]at h;split at h
  ·rename_i f;cases r;cases h;exact⟨f,O⟩
  ·cases h
 |tup xs=>exact rS r s h
 |rol xs=>exact rS r s h
 |fn x=>cases h
 |ref n=>
  rw[vk]at h;split at h
  ·rename_i kvs g;cases h;cases r with
   |ref a=>
    obtain⟨ws,e,c⟩:=s.dct g a;refine .inr (.inr ⟨ws,e,?_⟩);cases c<;>rfl
  ·exact rS r s h
end
theorem wf{X:Cx}{x:Expr}{f:FE}(h:XE X x f)(he:autoParam (∀a,isTrue x X.env a=(do let v<-a;standAt x.pos;holding [v] (truthy v))) du0):XT X x (Hv f):=
 ⟨vq (Ae h.h he) <| by
  rintro σ H Q ⟨r,mu,S,b,l,he,i,c,hc⟩;obtain⟨⟨n,m⟩,g,c⟩:=oB1.mp c;obtain⟨b1,k,c⟩:=oM1.mp c;cases c;exact⟨r,mu,S,_,_,he,i,g,λv H1 mu1 j e d=>⟨_,E1 e d k,hc H1 mu1 j d⟩⟩⟩
mutual
noncomputable def pyD:D->Option PyData
 | .non=>Z .none
 | .bl b=>Z (.bool b)
 | .int i=>Z (.int i)
 | .str x=>Z (.str x)
 | .tup xs=>(pyDs xs).map .tuple
 | .rol _=>Y
 | .fn _=>Y
 | .ref _=>Y
noncomputable def pyDs:List D->Option (List PyData)
 |[]=>Z []
 |d::ds=>(pyD d).bind λp=>(pyDs ds).map λps=>p::ps
end
mutual
theorem om:∀{d:D} {p:PyData},pyD d=Z p->p.hasDict=J
 | .non,p,h=>by simp only[pyD]at h;cases h;rfl
 | .bl b,p,h=>by simp only[pyD]at h;cases h;rfl
 | .int i,p,h=>by simp only[pyD]at h;cases h;rfl
 | .str x,p,h=>by simp only[pyD]at h;cases h;rfl
 | .tup xs,p,h=>by
  simp only[pyD]at h;obtain⟨ps,e,h⟩:=oM1.mp h;cases h;simp only[PyData.hasDict];exact mR e
 | .rol _,p,h=>by simp only[pyD]at h;cases h
 | .fn _,p,h=>by simp only[pyD]at h;cases h
 | .ref _,p,h=>by simp only[pyD]at h;cases h
theorem mR:∀{ds:List D} {ps:List PyData},pyDs ds=Z ps->PyData.hasDictAll ps=J
 |[],ps,h=>by simp only[pyDs]at h;cases h;rfl
 |d::ds,ps,h=>by
  simp only[pyDs]at h;obtain⟨p,b,h⟩:=oB1.mp h;obtain⟨c,a,h⟩:=oM1.mp h;cases h;simp only[PyData.hasDictAll,om b,mR a,Bool.or_self]
end
def m3:G1:=λd S=>match d with
 | .tup xs=>(pyDs xs).bind λps=>if(PyData.tuple ps).showable=M/\(PyData.tuple ps).shown.length<=dW/\(PyData.tuple ps).depth<=60 then Z (.str (PyData.tuple ps).shown,S)else Y
 |_=>Y
section
variable{ag:List (dP×Obj)}{σ:L2.St}{H:Hp}{s:dN}{mu:List dP}
theorem Aa(I:Inv X ag σ H s):∀ {d:D} {v:V} {u:dM} {p:PyData},eX X.K H mu d v->ew v u->pyD d=some p -> ∃ as,Reads s.heap u p as:=fun g=>g.rec (motive_1:=fun d v _=>∀ u p,ew v u->pyD d=some p -> ∃ as,Reads s.heap u p as) (motive_2:=fun ds vs _=>∀ f ps,eI vs f->pyDs ds=some ps -> ∃ as,ReadsAll s.heap f ps as)
  (λ_ _ c h=>by simp only[pyD]at h;cases h;cases c;exact⟨[],.none⟩)
  (λb _ _ c h=>by simp only[pyD]at h;cases h;cases c;exact⟨[],.bool b⟩)
  (λi _ _ c h=>by simp only[pyD]at h;cases h;obtain⟨t,rfl⟩:=c;exact⟨[],.int i t⟩)
  (λx _ _ c h=>by simp only[pyD]at h;cases h;obtain⟨t,rfl⟩:=c;exact⟨[],.str x t⟩)
  (λq _ ih _ _ c h=>by
   simp only[pyD]at h;obtain⟨ps,e,h⟩:=oM1.mp h;cases h;cases c;obtain⟨r,z,⟨o,w,hc,n,m⟩,_⟩:=I.tuple q;obtain⟨as,l⟩:=ih _ _ z e;exact⟨as,.tuple w hc m (by simpa using l)⟩)
  (λ_ _ _ _ _ _ h=>by simp only[pyD]at h;cases h) (λ_ _ _ _ h=>by simp only[pyD]at h;cases h) (λ_ _ _ _ h=>by simp only[pyD]at h;cases h)
  (λ_ _ tv h=>by simp only[pyDs]at h;cases h;cases tv;exact⟨[],.nil⟩)
  (λ_ _ a b _ _ tv h=>by
   simp only[pyDs]at h;obtain⟨p,k,h⟩:=oB1.mp h;obtain⟨A,y,h⟩:=oM1.mp h;cases h;cases tv with
   |cons v tv=>
    obtain⟨a1,j⟩:=a _ _ v k;obtain⟨a2,r2⟩:=b _ _ tv y;exact⟨_,.cons j r2⟩) _ _
end
theorem BH{k:Nat}(hr:gi k X.A):fH X (.builtin "repr") (rN X.K (b1 m3)):=by
 intro ag s σ H xs w Q I r h;obtain⟨x,mu,S,d,p,v,rfl,c,j,a,hc⟩:=Ep h;unfold m3 at a;split at a
 ·rename_i ds;obtain⟨ps,e,a⟩:=oB1.mp a;split at a
  ·rename_i i;obtain⟨h1,h2,n⟩:=i;cases a;cases r with
   |cons g rt=>
    cases rt;have f:pyD (.tup ds)=Z (.tuple ps):=by simp only[pyD,e,oP1]
    obtain⟨as,m⟩:=Aa I c g f;cases c with
    |tup q t=>
     cases g;refine repr_of_reads' m h1 (PyData.noDict_hsm (om f)) hr.gd (by have:=hr.un;lia) (λb o z=>z) (λh' u tk l=>?_) h2;exact⟨.str _,H,I.kept l,⟨u,O⟩,hc.now (.str _) j⟩
  ·cases a
 ·cases a
noncomputable def mo:List D->Option (List Int)
 |[]=>Z []
 | .int i::ds=>(mo ds).map λis=>i::is
 |_=>Y
noncomputable def ddI(ns:List Int):List Int:=ns.foldl step_dedup []
theorem uN:∀(ns acc:List Int),acc.Nodup->(ns.foldl step_dedup acc).Nodup
 |[],acc,h=>h
 |n::ns,acc,h=>by
  rw[bd];refine uN ns _ ?_;unfold step_dedup;split
  ·exact h
  ·rename_i d;rw[bG];refine⟨h,by simp,λa f b c e=>?_⟩;simp at c;apply d;rw[bX];exact⟨a,f,by simp[e,c]⟩
theorem yJ{K:Fg1}{H:Hp}{mu:List dP}:∀{ds:List D} {vs:List V} {a:List dM} {ns:List Int},eh K H mu ds vs->eI vs a->mo ds=Z ns->IntsAre a ns/\ns.length=ds.length:=by
 intro ds vs a ns f b h
 induction f using eh.ind generalizing a ns with
 |hn=>cases h;cases b;exact⟨.nil,O⟩
 | @hc d v ds vs r t ih=>
  cases d with
  |int i=>
   obtain⟨c,e,h⟩:=oM1.mp h;cases h;cases r;cases b with
   |cons r b=>
    obtain⟨g,j⟩:=ih b e;obtain⟨tk,rfl⟩:=r;exact⟨.cons _ _ g,by rw[lC1,lC1,j]⟩
  |_=>cases h
def KE:G1:=λd S=>match et S d with
 |some (M,xs)=>(mo xs).bind λns=>if ns.length+1<scanBound then Z (.ref S.length,S++[.iset (ddI ns)])else Y
 |_=>Y
def Lh:G1:=λd S=>match d with
 | .ref n=>match S[n]? with
  |some (.iset xs)=>Z (.int xs.length,S)
  |_=>fc d S
 |_=>fc d S
noncomputable def oO:G2:=λd e S=>match d,e with
 | .ref n,.int k=>match S[n]? with
  |some (.lst xs)=>if-(2^63)<=k/\k<2^63/\xs.length*k.toNat<=dW then Z (.ref S.length,S++[.lst (aR k.toNat xs).flatten])else Y
  |_=>Y
 |_,_=>Y
theorem eh.rep{K:Fg1}{H:Hp}{mu:List dP}{ds:List D}{vs:List V}(r:eh K H mu ds vs):∀k:Nat,eh K H mu (aR k ds).flatten (aR k vs).flatten
 |0=>.nil
 |k+1=>by rw[aY,aY,aZ,aZ];exact eh.append r (eh.rep r k)
theorem vC:gF X (binaryOp .Mult) (r2 X.K (b2 oO)):=by
 intro ag s σ H x y u w Q I m i h;obtain⟨mu,S,d,e,r,q,g,r2,b,a,hc⟩:=pA h;unfold oO at a;split at a
 ·rename_i n k;split at a
  ·rename_i xs o;split at a
   ·rename_i c;cases a;cases g with
    |ref l=>
     cases r2;obtain⟨vs,j,t⟩:=b.lst o l;refine FZ ag s σ H _ _ u w Q I m i ⟨_,k,vs,O,O,j,c.1,c.2.1,by rw[<- t.length];exact c.2.2,λp f=>?_⟩;exact hc _ _ (mu++[p]) (Ext.new_ f) (.ref (gZ b.len p)) (b.newL (eh.rep t k.toNat) f)
   ·cases a
  ·cases a
 ·cases a
@[elab_as_elim] theorem LW {P:List dM->Prop}{us:List dM}(l:us.length=0)(f:P []):P us:=by
 cases us with
 |nil=>exact f
 |cons _ _=>cases l
@[elab_as_elim] theorem Le {P:List dM->Prop}{us:List dM}(l:us.length=1)(f:∀a,P [a]):P us:=by
 cases us with
 |nil=>cases l
 |cons a us=>exact LW (P:=λus=>P (a::us)) (Nat.succ.inj l) (f a)
@[elab_as_elim] theorem Ld {P:List dM->Prop}{us:List dM}(l:us.length=2)(f:∀a b,P [a,b]):P us:=by
 cases us with
 |nil=>cases l
 |cons a us=>exact Le (P:=λus=>P (a::us)) (Nat.succ.inj l) (f a)
@[elab_as_elim] theorem Lc {P:List dM->Prop}{us:List dM}(l:us.length=3)(f:∀a b c,P [a,b,c]):P us:=by
 cases us with
 |nil=>cases l
 |cons a us=>exact Ld (P:=λus=>P (a::us)) (Nat.succ.inj l) (f a)
@[elab_as_elim] theorem Lb {P:List dM->Prop}{us:List dM}(l:us.length=4)(f:∀a b c d,P [a,b,c,d]):P us:=by
 cases us with
 |nil=>cases l
 |cons a us=>exact Lc (P:=λus=>P (a::us)) (Nat.succ.inj l) (f a)
@[elab_as_elim] theorem Kw {P:List dM->Prop}{us:List dM}(l:us.length=5)(f:∀a b c d e,P [a,b,c,d,e]):P us:=by
 cases us with
 |nil=>cases l
 |cons a us=>exact Lb (P:=λus=>P (a::us)) (Nat.succ.inj l) (f a)
@[elab_as_elim] theorem zl9{n:Nat}{P:List dM->Prop}{us:List dM}(l:us.length=n)(f:∀g:Nat->dM,P ((List.range n).map g)):P us:=by
 subst l;have e:(List.range us.length).map (λi=>us.getD i .none)=us:=by
  refine List.ext_getElem (by simp) λi h1 h2=>?_
  simp [h2]
 exact e ▸ f _
end Mi
namespace HT
open PySem PySem.Spec PyProof.Rows
variable{prog:dQ}{w:dS}{A:dR}{E:dM->dN->Prop}{s:dN}
end HT
namespace Mi
open PySem PySem.Spec PyProof.Rows L2
section
variable{X:Cx}
end
end Mi
namespace HT
open PySem PySem.Spec PyProof.Rows
section
variable{prog:dQ}{w:dS}{A:dR}{R:Result->dN->Prop}{I ax L:dP}{xs:Array dM}
end
section
variable{prog:dQ}{w:dS}{A:dR}{E:dM->dN->Prop}{s:dN}
end
end HT
namespace Mi
open PySem PySem.Spec PyProof.Rows L2
variable{X:Cx}
section
variable{elt tg iter tg2 iter2 tg3 iter3:Expr}{ifs ifs2 ifs3:List Expr}{scope:d3}{pos:Pos}
end
noncomputable def yL(a:Int):List Int->List Int
 |[]=>[a]
 |b::l=>if a<=b then a::b::l else b::yL a l
def kN:List Int->List Int
 |[]=>[]
 |a::l=>yL a (kN l)
theorem mq(a:Int):∀l:List Int,(yL a l).Perm (a::l)
 |[]=>.refl _
 |b::l=>by
  rw[yL];split
  ·exact .refl _
  ·exact((mq a l).cons b).trans (.swap _ _ _)
theorem i5:∀l:List Int,(kN l).Perm l
 |[]=>.refl _
 |a::l=>(mq a _).trans ((i5 l).cons a)
theorem xi{a:Int}:∀{l:List Int},l.Pairwise (· <= ·)->(yL a l).Pairwise (· <= ·)
 |[],_=>List.pairwise_singleton _ _
 |b::l,h=>by
  rw[cf]at h;rw[yL];split
  ·rename_i c;rw [cf,cf];exact ⟨fun x d=>by
    rcases aG.mp d with z|z
    ·lia
    ·have:=h.1 x z;lia,h.1,h.2⟩
  ·rename_i c;rw[cf];refine⟨λx d=>?_,xi h.2⟩;rcases aG.mp ((mq a l).mem_iff.mp d)with z|z
   ·lia
   ·exact h.1 x z
theorem nY:∀l:List Int,(kN l).Pairwise (· <= ·)
 |[]=>.nil
 |a::l=>xi (nY l)
theorem rX:∀{a b:List Int},a.Perm b->a.Pairwise (· <= ·)->b.Pairwise (· <= ·)->a=b
 |[],b,p,_,_=>(List.nil_perm.mp p).symm
 |x::a,[],p,_,_=>absurd p.length_eq (by simp)
 |x::a,y::b,p,h1,h2=>by
  rw[cf]at h1 h2;have e:x=y:=by
   have d:=p.mem_iff.mp (mS1 (a:=x) (l:=a));have f:=p.mem_iff.mpr (mS1 (a:=y) (l:=b));rcases aG.mp d with z|z
   ·exact z
   ·rcases aG.mp f with c|c
    ·exact c.symm
    ·have:=h2.1 x z;have:=h1.1 y c;lia
  subst e;rw[rX (List.perm_cons x |>.mp p) h1.2 h2.2]
noncomputable def qC:List D->Option (List Int)
 |[]=>Z []
 | .int i::l=>(qC l).map λt=>i::t
 |_=>Y
theorem yH{K:Fg1}{H:Hp}{mu:List dP}:∀{ds:List D} {vs:List V} {a:List dM} {ns:List Int},eh K H mu ds vs->eI vs a->qC ds=Z ns->IntsAre a ns:=by
 intro ds
 induction ds with
 |nil=>intro vs a ns r v h;cases r;cases v;cases h;exact .nil
 |cons d ds ih=>
  intro vs a ns r v h;cases r with
  |cons f t=>
   cases v with
   |cons c b=>
    cases f
    case int i=>
     obtain⟨m,e,h⟩:=oM1.mp h;subst h;obtain⟨tk,rfl⟩:=c;exact .cons i tk (ih t b e)
    all_goals cases h
theorem yI:∀{us:List dM} {ns:List Int},IntsAre us ns->eI (ns.map V.int) us:=by
 intro us ns h
 induction h with
 |nil=>exact .nil
 |cons i t _ ih=>exact .cons ⟨t,O⟩ ih
theorem l6(n:Nat):∀ns:List Int,D.unds n (ns.map D.int)=M
 |[]=>rfl
 |_::ns=>by rw[mP1,D.unds,l6 n ns];rfl
theorem gc_same{n:Nat}{d:D}{S:Sto}(h:S.length=n):gc n (d,S)=(d,S):=by
 unfold gc;split
 ·rw[show(d,S).2=S from rfl,<- h,cg]
 ·rfl
theorem zb{n:Nat}{f:FN}{ds:List D}{S S1:Sto}{d:D}(h:f ds []=Z (d,S1))(hn:ds.length=n)(a:D.unds 0 ds=M)(hd:d.und 0=M):d8 n f ds S=Z (d,S):=by
 unfold d8 m7;rw[ak hn,ak a,h,oP1,ak hd]
theorem pf{n:Nat}{f:FN}{ds:List D}{S S1:Sto}{d:D}(h:f ds []=Z (d,S1))(hn:ds.length=n)(a:D.unds 0 ds=M)(hd:d.und 0=J):d8 n f ds S=Z (d.sh S.length,S++S1.map (Ob.sh S.length)):=by
 unfold d8 m7;rw[ak hn,ak a,h,oP1,aj (by dsimp only;rw[hd];decide)]
theorem rj{n:Nat}{f:FN}{ds:List D}{S S1:Sto}{d:D}(h:f ds S=Z (d,S1))(hn:ds.length=n)(a:D.unds 0 ds=J):d8 n f ds S=Z (gc S.length (d,S1)):=by
 unfold d8 m7;rw[ak hn,aj (by rw[a];decide),h,oP1]
theorem mF{n:Nat}{f:FN}{ds:List D}{S S1:Sto}{d:D}(h:f ds S=Z (d,S1))(hn:ds.length=n)(a:D.unds 0 ds=J)(b:S1.length=S.length):d8 n f ds S=Z (d,S1):=by
 rw[rj h hn a,gc_same b]
theorem qp{i j:Int}(h1: -(2^64)<i)(h2:i<2^64):fi i j=M:=by
 unfold fi;simp only[bU,bA1,am];exact .inl (.inl ⟨h1,h2⟩)
theorem wY{i j:Int}(h1: -(2^64)<j)(h2:j<2^64):fi i j=M:=by
 unfold fi;simp only[bU,bA1,am];exact .inl (.inr ⟨h1,h2⟩)
theorem iy{S:Sto}{n:Nat}{xs:List D}(h:S[n]?=Z (.lst xs)):qo S [(n,xs)]=M:=by
 rw[qo,h];simp[D.sames_refl,qo]
noncomputable def kn(n:Nat):Nat->List D
 |0=>[]
 |k+1=>.ref n::kn (n+1) k
theorem uh:∀{n:Nat} {lo:Int} {d:D},d∈hU lo n -> ∃k:Int,d = .int k/\lo<=k/\k<lo+n
 |0,lo,d,h=>by simp[hU]at h
 |n+1,lo,d,h=>by
  rw[hU]at h;rcases aG.mp h with h|h
  ·exact⟨lo,h,Int.le_refl _,by lia⟩
  ·obtain⟨k,e,h1,h2⟩:=uh h;exact⟨k,e,by lia,by lia⟩
theorem hH{n:Nat}:∀{xs:List D} {x:D},D.unds n xs=M->x∈xs->x.und n=M
 |y::ys,x,h,hx=>by
  rw[D.unds,bA1]at h;rcases aG.mp hx with e|e
  ·rw[e];exact h.1
  ·exact hH h.2 e
theorem jS{S:Sto}{d:D}(h:d.und 0=M):et S d=et [] d:=by
 cases d with
 |ref n=>simp[D.und]at h
 |_=>rfl
theorem i6{S:Sto}{d:D}(h:d.und 0=M){p:Bool×List D}(e:et S d=Z p):D.unds 0 p.2=M:=by
 cases d with
 |ref n=>simp[D.und]at h
 |tup xs=>cases e;simpa[D.und]using h
 |rol xs=>cases e;simpa[D.und]using h
 |_=>cases e
theorem q9{f f':D->D->Option Bool}:∀{xs ys:List D},(∀x∈xs,∀y∈ys,f x y=f' x y)->oT f xs ys=oT f' xs ys
 |[],[],_=>rfl
 |[],_::_,_=>rfl
 |_::_,[],_=>rfl
 |x::xs,y::ys,h=>by
  rw[oT,oT,h x mS1 y mS1,q9 λa c b d=>h a (mC1 _ c) b (mC1 _ d)]
theorem xz{S:Sto}:∀{n:Nat} {d e:D},d.und 0=M->e.und 0=M->gI S n d e=gI [] n d e
 |0,_,_,_,_=>rfl
 |n+1,d,e,hd,he=>by
  rw[gI,gI,jS hd,jS he];cases h1:et [] d with
  |none=>cases et [] e<;>rfl
  |some p=>
   cases h2:et [] e with
   |none=>rfl
   |some q=>
    dsimp only;have b:=i6 hd h1;have c:=i6 he h2;rw[q9 (f:=gI S n) (f':=gI [] n) λx a y g=>xz (hH b a) (hH c g)]
theorem qt{f f' g g':D->D->Option Bool}:∀{xs ys:List D},(∀x∈xs,∀y∈ys,f x y=f' x y)->(∀x∈xs,∀y∈ys,g x y=g' x y)->pM f g xs ys=pM f' g' xs ys
 |[],[],_,_=>rfl
 |[],_::_,_,_=>rfl
 |_::_,[],_,_=>rfl
 |x::xs,y::ys,h,k=>by
  rw[pM,pM,h x mS1 y mS1,k x mS1 y mS1,qt (λa c b d=>h a (mC1 _ c) b (mC1 _ d)) λa c b d=>k a (mC1 _ c) b (mC1 _ d)]
theorem w4{S:Sto}:∀{n:Nat} {d e:D},d.und 0=M->e.und 0=M->kE S n d e=kE [] n d e
 |0,_,_,_,_=>rfl
 |n + 1,d,e,i,j=>by
  rw[kE,kE,jS i,jS j];cases JL d e with
  |some b=>rfl
  |none=>
   cases h1:et [] d with
   |none=>rfl
   |some p=>
    cases h2:et [] e with
    |none=>rfl
    |some q=>
     dsimp only;have k:=i6 i h1;have h:=i6 j h2;rw[qt (f:=gI S n) (f':=gI [] n) (g:=kE S n) (g':=kE [] n) (λx c y a=>xz (hH k c) (hH h a)) λx c y a=>w4 (hH k c) (hH h a)]
open Classical in
noncomputable def rkV(ws:List dM)(x:dM):Nat:=ws.findIdx λy=>decide (y=x)
theorem z9{ws:List dM}{x:dM}(h:x∈ws):ws[rkV ws x]?=Z x:=by
 have a:rkV ws x<ws.length:=List.findIdx_lt_length_of_exists ⟨x,h,by simp⟩;rw[gG1 a];have:=List.findIdx_getElem (w:=a);have e:ws[rkV ws x]=x:=of_decide_eq_true this;rw[e]
def kR(ws:List dM)(xs:Array Keyed)(i:Nat):Nat:=(xs[i]?.map λp=>rkV ws p.1).getD 0
theorem lC{ws:List dM}{xs ys:Array Keyed}{i j:Nat}(h:xs[i]?=ys[j]?):kR ws xs i=kR ws ys j:=by unfold kR;rw[h]
def Up(ws:List dM)(xs:Array Keyed)(k:Nat):Prop:=∀i j,i<j->j<k->kR ws xs i<kR ws xs j
structure mG (prog:dQ)(w:dS)(A:dR)(s:dN)(κ:SortKind)(ws:List dM)(a₀:Array Keyed):Prop where
 nd:ws.Nodup
 keys:(a₀.toList.map (·.1)).Perm ws
 lt:∀(x y:dM) (i j:Nat),ws[i]?=some x->ws[j]?=some y->i≠j -> ∀(E:dM->dN->Prop) (Q:Bool->dN->Prop),Q (decide (i<j)) s->dX (model prog w) A (keyLt' κ x y) Q E s
variable{prog:dQ}{w:dS}{A:dR}{E:dM->dN->Prop}{s:dN}
section
variable{κ:SortKind}{ws:List dM}{a₀:Array Keyed}
theorem mG.at_(C:mG prog w A s κ ws a₀){xs:Array Keyed}(p:xs.Perm a₀){i:Nat}(hi:i<a₀.size):∃x q,xs[i]?=Z (x,q)/\ws[kR ws xs i]?=Z x:=by
 have a:i<xs.size:=by rw[p.size_eq];exact hi
 refine⟨xs[i].1,xs[i].2,aG1 a,?_⟩;have b:xs[i]∈a₀.toList:=(ci.mp p).mem_iff.mp (by simp);have:=z9 (C.keys.mem_iff.mp (cj.mpr ⟨_,b,O⟩));unfold kR;rw[aG1 a];exact this
theorem mG.inj(C:mG prog w A s κ ws a₀){xs:Array Keyed}(p:xs.Perm a₀){i j:Nat}(hi:i<a₀.size)(c:j<a₀.size)(h:kR ws xs i=kR ws xs j):i=j:=by
 obtain⟨x,q,d,b⟩:=C.at_ p hi;obtain⟨y,r,g,f⟩:=C.at_ p c;rw[h,f]at b;cases b;have nd:(xs.toList.map (·.1)).Nodup:=(((ci.mp p).map (·.1)).trans C.keys).nodup_iff.mpr C.nd;have a:(xs.toList.map (·.1))[i]?=Z x:=by rw[gP1,aT1,d];rfl
 have e:(xs.toList.map (·.1))[j]?=Z x:=by rw[gP1,aT1,g];rfl
 exact(List.getElem?_inj (gE1.mp a).1 nd).mp (a.trans e.symm)
theorem Fd(C:mG prog w A s κ ws (pairsOf vs)){xs:Array Keyed}(p:xs.Perm (pairsOf vs))(u:Up ws xs (pairsOf vs).size):xs.map (·.2)=ws.toArray:=by
 have m:ws.length=(pairsOf vs).size:=by rw[<- C.keys.length_eq,lM1];simp
 have b:∀i,i<(pairsOf vs).size->i<=kR ws xs i:=by
  intro i
  induction i with
  |zero=>intro _;lia
  |succ i ih=>intro h;have:=ih (by lia);have:=u i (i+1) (by lia) h;lia
 have a:∀d i,i+d+1=(pairsOf vs).size->kR ws xs i<=i:=by
  intro d
  induction d with
  |zero=>
   intro i h;obtain⟨x,q,_,f⟩:=C.at_ p (i:=i) (by lia);have:=(gE1.mp f).1;lia
  |succ d ih=>
   intro i h;have:=ih (i+1) (by lia);have:=u i (i+1) (by lia) (by lia);lia
 apply Array.ext
 ·rw[Array.size_map,p.size_eq,<- m];simp
 ·intro i h1 h2;rw[Array.size_map,p.size_eq]at h1;have k:kR ws xs i=i:=Nat.le_antisymm (a ((pairsOf vs).size-1-i) i (by lia)) (b i h1);obtain⟨x,q,e,f⟩:=C.at_ p h1;rw[k]at f;have j:(x,q)∈(pairsOf vs).toList:=(ci.mp p).mem_iff.mp (aO.mpr (ck e));rw[pairsOf_toList]at j;have l:x=q:=(mem_zip_self j).1;have c:(xs.map (·.2))[i]?=Z q:=by rw[Array.getElem?_map,e];rfl
  have g:ws.toArray[i]?=Z x:=by rw[cm];exact f
  rw[aG1 (by rw[Array.size_map,p.size_eq];exact h1)]at c;rw[aG1 h2]at g;rw[Option.some.inj c,Option.some.inj g,l]
end
theorem Au{p q:dM}{b:Bool}{Q:Bool->dN->Prop}(r:BX A.in1 s p q b)(h:Q b s):dX (model prog w) A (oneLt' J p q) Q E s:=by
 rw[oneLt'_eq];simp only[bF1,if_false];exact wB1 (wpAny_of_in1 (r prog w E _ (wpAny_truthy_bool h)))
theorem jf(f:Bool)(x y:dM):keyLt' (tuples' f) x y=(do
  let xs<-Builtin.List.listItems x
  let ys<-Builtin.List.listItems y
  for ((p,q),i) in (xs.toList.zip ys.toList).zipIdx do
   if !(<- eqBool p q)then return<-oneLt' (f&&i == 0) p q
  return decide (xs.size<ys.size)):=rfl
theorem GI{a b:dP}{f zs:List dM}{k:Bool}{Q:Bool->dN->Prop}(ha:IsTup s.heap a f.toArray)(hb:IsTup s.heap b zs.toArray)(L:uX A s f zs k)(h:Q k s):
  dX (model prog w) A (keyLt' (tuples' J) (.ref a) (.ref b)) Q E s:=by
 rw[jf];obtain⟨o,m,B,_,r⟩:=ha;obtain⟨y,u,v,_,n⟩:=hb;refine wB1 (listItems_at m r (wB1 (listItems_at u n ?_)));simp only[Bool.false_and];refine wB1 (wpAny_mono (wpAny_forIn_list _ (λrest c s'=>s'=s/\c=(Y,()) /\ ∃(i:Nat) (vs ws:List dM),rest=(vs.zip ws).zipIdx i/\uX A s vs ws k/\vs.length+zs.length=ws.length+f.length)
  (λc s'=>s'=s/\(c=(Z k,())\/(c=(Y,())/\k=decide (f.length<zs.length)))) ?_ ?_ _ _ ⟨O,O,0,f,zs,O,L,by lia⟩) ?_ λ_ _ e=>e)
 ·rintro x rest c s' ⟨rfl,rfl,i,vs,ws,d,j,g⟩;cases j with
  |nn=>simp at d
  |nc _ _=>simp at d
  |cn _ _=>simp at d
  | @eq p q ps l _ e t=>
   rw[bZ,bQ]at d;cases d;refine wB1 (e.of_in1 prog w E _ ?_);simp only[b9,bF1,if_false];exact wP1 ⟨O,O,i+1,ps,l,O,t,by simp at g;lia⟩
  | @lt p q ps l _ e t=>
   rw[bZ,bQ]at d;cases d;refine wB1 (e.of_in1 prog w E _ ?_);simp only[cp,if_true];exact wB1 (Au t (wP1 ⟨O,.inl O⟩))
 ·rintro c s' ⟨rfl,rfl,i,vs,ws,d,j,g⟩;refine⟨O,.inr ⟨O,?_⟩⟩;cases j with
  |nn=>simp at g;rw[ai (by lia)]
  |nc _ _=>simp at g;rw[ah (by lia)]
  |cn _ _=>simp at g;rw[ai (by lia)]
  |eq _ _=>simp at d
  |lt _ _=>simp at d
 ·rintro c s' ⟨rfl,z⟩;rcases z with rfl|⟨rfl,z⟩
  ·exact wP1 h
  ·refine wP1 ?_;rw[sT1,sT1,<- z];exact h
theorem lj{aq:Model}{α β:Type}{f:α->Sem β}{P:α->β->Prop}:∀ {l:List α} {Q:List β->dN->Prop},(∀ v∈l,∃ r,P v r /\ ∀ Q:β->dN->Prop,Q r s->dX aq A (f v) Q E s) ->
  (∀rs,rs.length=l.length->(∀r∈rs,∃v∈l,P v r)->Q rs s)->dX aq A (l.mapM f) Q E s
 |[],Q,_,q=>by rw[List.mapM_nil];exact wP1 (q [] rfl λr a=>by cases a)
 |v::l,Q,h,q=>by
  rw[List.mapM_cons];obtain⟨r,p,a⟩:=h v mS1;refine wB1 (a _ ?_);refine wB1 (lj (λv g=>h v (mC1 _ g)) λrs c b=>?_);refine wP1 (q (r::rs) (by rw[lC1,lC1,c]) λx d=>?_);rcases aG.mp d with z|z
  ·exact⟨v,mS1,by rw[z];exact p⟩
  ·obtain⟨e,h1,h2⟩:=b x z;exact⟨e,mC1 _ h1,h2⟩
theorem uE(v:dM):firstOfTuple' v=(do
  if(<- typeOf v) != .type "tuple" then return Y
  return (<- Builtin.List.listItems v)[0]?):=rfl
theorem GK{vs:List dM}{Q:SortKind->dN->Prop}(i:vs≠[])(h:∀ v∈vs,∃ a p ps b c,v = .ref a/\IsTup s.heap a (p::ps).toArray/\p = .ref b/\IsTup s.heap b c)(q:Q (tuples' false) s):
  dX (model prog w) A (keyKind' vs.toArray) Q E s:=by
 rw[keyKind'_eq,cq,<- bind_pure_comp];refine wB1 (wB1 (lj (P:=λ_ r=>∃b c,r=Z (.ref b)/\IsTup s.heap b c) (λv m=>?_) λrs C j=>wP1 ?_))
 ·obtain⟨a,p,ps,b,c,rfl,⟨o,g,k,_,H⟩,rfl,n⟩:=h v m;refine⟨Z (.ref b),⟨b,c,O,n⟩,λQ q=>?_⟩;rw[uE];refine wB1 (wpAny_typeOf (T:="tuple") ⟨o,g,k⟩ ?_);rw[aj (by decide)];refine wB1 (listItems_at g H (wP1 ?_));simpa using q
 ·have B:rs.toArray.all (·.isSome)=true:=by
   rw[cr,bI];intro r l;obtain⟨v,_,b,c,e,_⟩:=j r l;rw[e];rfl
  rw[ak B];refine wB1 (wpAny_rule ?_);rw[oneTypeOnly'_eq];have D:rs.toArray.filterMap id=(rs.filterMap id).toArray:=by simp
  rw[D,cq,<- bind_pure_comp];refine wB1 (wB1 (wB1 (lj (P:=λ_ t=>t=Value.type "tuple") (λv m=>?_) λf d n=>wP1 ?_)))
  ·obtain⟨r,l,e⟩:=aM.mp m;obtain⟨I,_,b,c,y,⟨o,g,k,_⟩⟩:=j r l;rw[y]at e;cases e;exact⟨_,O,λQ q=>wpAny_typeOf (T:="tuple") ⟨o,g,k⟩ q⟩
  ·cases f with
   |nil=>
    exfalso;cases rs with
    |nil=>exact i (cu.mp C.symm)
    |cons r rs=>
     obtain⟨_,_,b,_,e,_⟩:=j r mS1;rw[e]at d;simp at d
   |cons t f=>
    have all:∀x∈t::f,x=Value.type "tuple":=λx u=>by obtain⟨_,_,z⟩:=n x u;exact z
    have G:=all t mS1;subst G;have F:((Value.type "tuple"::f).toArray.all λx=>x == Value.type "tuple")=M:=by
     rw[cr,bI];intro x u;rw[all x u];rfl
    show dX _ _ (pure (if((Value.type "tuple"::f).toArray.all λx=>x == Value.type "tuple")=M then Z (Value.type "tuple")else Y)) _ _ _;rw[ak F];exact wP1 (wP1 q)
section
variable{prog:dQ}{w:dS}{A:dR}{E:dM->dN->Prop}{R:Result->dN->Prop}
end
mutual
theorem vg{n:Nat}:∀k:TK,(tkD k).und n=M
 | .non=>rfl
 | .int _=>rfl
 | .tup xs=>by rw[tkD,D.und];exact wm xs
theorem wm{n:Nat}:∀ks:List TK,D.unds n (iE ks)=M
 |[]=>rfl
 |k::ks=>by rw[iE,D.unds,vg k,wm ks];rfl
end
structure Pr where
 k:TK
 d:D
 ka:dP
 u:dM
 vv:V
 a:dP
def Ht(H:Hp)(a:dP):Prop:=(∃kvs,H a=Z (.dK kvs)) \/ ∃xs,H a=Z (.ext (gG a xs))
theorem Dw{ag:List (dP×Obj)}{σ:L2.St}{H:Hp}{s:dN}{a:dP}(I:Inv X ag σ H s)(h:Ht H a):(a == sysModules)=J /\ ∃o,s.heap.get? a=Z o/\o.ExactDict:=by
 rcases h with⟨kvs,e⟩|⟨xs,e⟩
 ·obtain⟨_,b,vs,_,o,es,ep,h1,h2,_⟩:=I.hok a _ e;exact⟨b,o,h1,h2⟩
 ·obtain⟨⟨b,_,o,es,ep,h1,h2,_⟩,_⟩:=(show eY X.prog X.w H s.heap a (.ext (gG a xs))from I.hok a _ e);exact⟨b,o,h1,h2⟩
abbrev zk(h:dY)(it d:dP)(i n ep:Nat):Prop:=h.get? it=Z {cls:=.type "dict_keyiterator",dict:=Y,data:=.fields #[.ref d,.int i 0,.int n 0,.int ep 0],slots:= #[]}
theorem Dj{it d:dP}{i ep:Nat}{es:Array DictEntry}{o:Obj}{Q:Option dM->dN->Prop}(g:zk s.heap it d i es.size ep)(hd:s.heap.get? d=Z o)(h:o.data = .dict es ep)(hi:i<es.size)(q:∀h',zk h' it d (i+1) es.size ep->Heap.SameBut it s.heap h'->Q (Z es[i].key) {s with heap:=h'}):dX (model prog w) A (pyNext (.ref it)) Q E s:=by
 have j:s.TypeIs (.ref it) "dict_keyiterator":=⟨_,g,O⟩;unfold pyNext;refine wB1 (wpAny_attempt (wpAny_callSpecial?_slot (name:=Str.ofString "__next__") j PySem.F.slot_dict_keyiterator_next
  (wE1 PySem.F.slot_dict_keyiterator_next j PySem.F.entry_dict_keyiterator_next ?_ (PySem.F.args_dict_keyiterator_next_1 _))))
 refine wB1 (wP1 (wB1 (wB1 (wB1 (wpAny_typeNameOfWhole_keyiter j (wP1 ?_))))));refine wB1 (wpAny_fieldsOf g O ?_);have k:Builtin.Dict_items.ownsTuple "dict_keyiterator"=J:=by decide
 simp only[k,bF1,if_false];show dX _ _ (if(Value.ref d == Value.none)=M then _ else _) _ _ s;rw[aj (show¬ ((Value.ref d == Value.none)=M)from aL)];refine wB1 (wP1 (wB1 (wpAny_dictEntries hd h ?_)));rw[aj (by simp)];refine wB1 (wP1 (wB1 (wpAny_dictEpoch hd h ?_)));rw[aj (by simp)];refine wP1 ?_;simp only[show¬ ((i:Int)<0)from by lia,if_false,Int.toNat_natCast,aG1 hi];refine wB1 (wB1 (wpAny_typeNameOfWhole_keyiter j (wP1 ?_)));refine wB1 (wpAny_isOneOf_keyiter j ?_);show dX _ _ (setField (.ref it) 1 (rawInt ((i:Int)+1)) >>= _) _ _ s;refine wB1 (wS1 g (by simp) λb a c=>?_);replace a:zk b it d (i+1) es.size ep:=by
  have e:((i+1:Nat):Int)=(i:Int)+1:=by lia
  unfold zk;rw[e];simpa[rawInt]using a
 have f:Shared.TypeIs {s with heap:=b} (.ref it) "dict_keyiterator":=⟨_,a,O⟩;refine wB1 (wpAny_holding (wB1 (wpAny_isOneOf_keyiter f ?_)));show dX _ _ (pure es[i].key) _ _ _;exact wP1 (wP1 ⟨_,O,wP1 (q b a c)⟩)
theorem GH{it d:dP}{i ep:Nat}{es:Array DictEntry}{o:Obj}{Q:Option dM->dN->Prop}(n:A.handled=Y)(f:zk s.heap it d i es.size ep)(hd:s.heap.get? d=Z o)(g:o.data = .dict es ep)(hi:es.size<=i)(q:∀h',(∀b o,b≠it->s.heap.get? b=Z o->h'.get? b=Z o)->Q Y {s with heap:=h'}):dX (model prog w) A (pyNext (.ref it)) Q E s:=by
 have j:s.TypeIs (.ref it) "dict_keyiterator":=⟨_,f,O⟩;unfold pyNext;refine wB1 (wpAny_attempt (wpAny_callSpecial?_slot (name:=Str.ofString "__next__") j PySem.F.slot_dict_keyiterator_next
  (wE1 PySem.F.slot_dict_keyiterator_next j PySem.F.entry_dict_keyiterator_next ?_ (PySem.F.args_dict_keyiterator_next_1 _))))
 refine wB1 (wP1 (wB1 (wB1 (wB1 (wpAny_typeNameOfWhole_keyiter j (wP1 ?_))))));refine wB1 (wpAny_fieldsOf f O ?_);have h:Builtin.Dict_items.ownsTuple "dict_keyiterator"=J:=by decide
 simp only[h,bF1,if_false];show dX _ _ (if(Value.ref d == Value.none)=M then _ else _) _ _ s;rw[aj (show¬ ((Value.ref d == Value.none)=M)from aL)];refine wB1 (wP1 (wB1 (wpAny_dictEntries hd g ?_)));rw[aj (by simp)];refine wB1 (wP1 (wB1 (wpAny_dictEpoch hd g ?_)));rw[aj (by simp)];refine wP1 ?_;simp only[show¬ ((i:Int)<0)from by lia,if_false,Int.toNat_natCast,cv hi];refine wB1 (wB1 (wpAny_typeNameOfWhole_keyiter j (wP1 ?_)));show dX _ _ (setField (.ref it) 0 .none >>= _) _ _ s;refine wB1 (wS1 f (by simp) λl k c=>?_);show dX _ _ (newExc (.type "StopIteration") [] >>= _) _ _ _;refine wB1 ?_;simp only[newExc,newTuple];refine wB1 (wO1 ?_ (by size_fits));refine wB1 (m:=firstArgMember _ _) (wpAny_of_eq (a:=Value.none) (by first|rfl|(simp only[firstArgMember];rfl)) ?_);refine wO1 ?_ (by size_fits);simp only[raiseNew];refine wB1 (wpAny_handled ?_);rw[show A.in1.handled=Y from n];refine wB1 (wP1 (wpAny_throw ?_));refine wB1 (wpAny_isInstance (T:="StopIteration") (b:=M) ⟨_,hS1 _ O,O⟩ isSubtype_stop ?_);exact wP1 (q _ λb o p e=>hP1 _ (hP1 _ (c.extBut b o p e)))
theorem Dk {d:dP}{es:Array DictEntry}{ep:Nat}{o:Obj}{Q:dM->dN->Prop}(hm:(d == sysModules)=false)(hd:s.heap.get? d=some o)(hc:o.cls = .type "dict")(a:o.data = .dict es ep)(hn:es.size<=dW)
  (q:Q (.ref s.heap.objs.size) {s with heap:=s.heap.push {cls:=.type "dict_keyiterator",data:=.fields #[.ref d,.int 0 0,.int es.size 0,.int ep 0]}}):dX (model prog w) A (pyIter (.ref d)) Q E s:=by
 have b:s.TypeIs (.ref d) "dict":=⟨o,hd,hc⟩;refine wpAny_pyIter_slot b PySem.F.slot_dict_iter (wE1 PySem.F.slot_dict_iter b PySem.F.entry_dict_iter ?_ (PySem.F.args_dict_iter_1 _));unfold Builtin.«dict.__iter__»;refine wB1 ?_;unfold Builtin.Dict.dictSlotNone;refine wB1 (wpAny_notOrdered_dict b ?_);show dX _ _ (pure (Value.ref d)) _ _ s;refine wP1 ?_;show dX _ _ (Builtin.Dict.showsAll d >>= _) _ _ s;unfold Builtin.Dict.showsAll;rw[aj (by rw[hm];exact aL)];refine wB1 (wP1 (wB1 (wpAny_dictEntries hd a (wB1 (wpAny_dictEpoch hd a (wB1 ?_))))));refine wO1 (wP1 ⟨_,O,"dict_keyiterator",_,⟨_,hS1 _ O,O⟩,PySem.F.slot_dict_keyiterator_next.lookup,?_⟩);simpa[rawInt]using q
section
variable{prog:dQ}{w:dS}{A:dR}{E:dM->dN->Prop}{R:Result->dN->Prop}
end
theorem KT.keys{K:Fg1}{H:Hp}{mu:List dP}:∀{ks:List (TK×D)} {ws:List (TK×dP×dM)},KT K H mu ks ws->eh K H mu (ks.map λp=>tkD p.1) (ws.map λx=>V.ref x.2.1)
 |_,_,.nil=>.nil
 |_,_,.cons ⟨z,d,k,_⟩ t=>.cons k (KT.keys t)
noncomputable def Kf(X:Cx)(td ty tx:TE):TE:=fun σ H Q=>td σ H λx H1=>∃a,x = .ref a/\Ht H1 a/\ty σ H1 λy H2=>tx σ H2 λz H3=>
 ∀ag s u r,Inv X ag σ H3 s->ew y u->ew z r->dX (model X.prog X.w) X.A (call (.builtin "dict.get") [.ref a,u,r]) (EP X ag σ Q) X.xe s
theorem FW {o e f:Expr}{apos cpos:Pos}{td ty tx:TE}(ho:PE X o td)(he:PE X e ty)(hf:PE X f tx)(m:M2 X o "get" apos e f cpos):PE X (.Call (.Attribute o "get" apos) [e,f] [] cpos) (Kf X td ty tx):=by
 intro ag s σ H Q I h;refine wpAny_Call_method m.base m.few m.line PySem.F.plainAttrs_dict PySem.F.slot_dict_get PySem.F.type_dict_get (fO (ho ag s σ H _ I h) λu r ⟨x,H1,j,C,a,ex,d,n⟩=>?_);subst ex;obtain rfl:u=Value.ref a:=C;obtain⟨_,o',i,c⟩:=Dw j d;refine⟨⟨o',i,c.1⟩,λb k=>by cases k;exact⟨o',i,c.2.1⟩,?_⟩;rw[m.trees];refine Calls.callWith_builtin O (Calls.evalArgs_plain (Calls.spliced_cons (fO (he ag r σ H1 _ j n) λv t ⟨y,H2,l,p,B⟩=>
  Calls.spliced_cons (fO (hf ag t σ H2 _ l B) λw q ⟨z,E,A,D,g⟩=>Calls.spliced_nil ?_))))
 exact g ag q v w A p D
noncomputable def yY(S:Sto)(n:Nat):Option (List (TK×D)):=match S[n]? with
 |some (.dcT kvs)=>Z kvs
 |some (.dct [])=>Z []
 |_=>Y
theorem xF{H:Hp}{mu:List dP}{S:Sto}{n:Nat}{a:dP}{kvs:List (TK×D)}(hs:Sim X.K H mu S)(hn:mu[n]? = some a)(h:yY S n=some kvs):
  Ht H a /\ ∃xs,KT X.K H mu kvs xs /\ ∀ag σ s,Inv X ag σ H s->(a == sysModules)=J/\s.heap.DictOfH (gk X.prog X.w) a xs:=by
 unfold yY at h;split at h
 ·rename_i ks d;cases h;obtain⟨xs,h1,h2,l⟩:=hs.dcT d hn;exact⟨.inr ⟨xs,h1⟩,xs,h2,λag σ s I=>uM I h1 h2⟩
 ·rename_i d;cases h;obtain⟨ws,h1,h2⟩:=hs.dct d hn;cases h2;refine⟨.inl ⟨[],h1⟩,[],.nil,λag σ s I=>?_⟩;obtain⟨_,c,vs,k,o,es,ep,g,i,e,f⟩:=I.hok a _ h1;cases k;have b:es.toList=[]:=cu.mp (by have:=f.2.1.length;simpa using this);exact⟨c,o,es,ep,g,i,e,b,λx j=>(by cases j),bw⟩
 ·cases h
def sC(m a b:FE):FE:=λr S=>(m r S).bind λp=>match p.1 with
 | .ref n=>(yY p.2 n).bind λ_=>(a r p.2).bind λq=>(b r q.2).bind λt=>(yY t.2 n).bind λkvs=>(keyT q.1).map λk=>((ej kvs k).getD t.1,t.2)
 |_=>Y
theorem xZ {o e f:Expr}{apos cpos:Pos}{m a b:FE}(L:X.A.units+64<cLine)(ho:XE X o m)(he:XE X e a)(hf:XE X f b)(hm:M2 X o "get" apos e f cpos:=by exact⟨O,O,O,O⟩):XE X (.Call (.Attribute o "get" apos) [e,f] [] cpos) (sC m a b):=
 ⟨fE (FW ho.h he.h hf.h hm) <| by
  rintro σ H Q ⟨r,mu,S,d,S',he,aq,hm,hc⟩;obtain⟨⟨d1,E⟩,e1,hm⟩:=oB1.mp hm;refine⟨r,mu,S,d1,E,he,aq,e1,λv1 H1 mu1 l wq ao=>?_⟩;dsimp only at hm;split at hm
  ·rename_i n;obtain⟨kv0,t,hm⟩:=oB1.mp hm;cases wq with
   | @ref _ C F=>
    refine⟨C,O,(xF ao F t).1,?_⟩;obtain⟨⟨d2,K⟩,T,hm⟩:=oB1.mp hm;obtain⟨⟨au,S3⟩,e3,hm⟩:=oB1.mp hm;refine⟨r,mu1,E,d2,K,he.ext l,ao,T,λv2 H2 y j r2 V=>?_⟩;refine⟨r,y,K,au,S3,(he.ext l).ext j,V,e3,λv3 h g i r3 q=>?_⟩;obtain⟨kvs,P,hm⟩:=oB1.mp hm;obtain⟨k,R,hm⟩:=oM1.mp hm;cases hm;intro ag s u w I W A;obtain⟨_,xs,D,hd⟩:=xF q (i.at (j.at F)) P;obtain⟨B,G⟩:=hd ag σ s I;obtain⟨b,rfl,rfl,_,_,hi⟩:=jD I (r2.ext i) W R;refine call_meetsIn PySem.F.slot_dict_get G.typeIs PySem.F.entry_dict_get (PySem.F.args_dict_get_3 _ _ _) (meetsH_dict_get_default (gk X.prog X.w) C b B w) ⟨i7 L,k,xs,hi,G,?_⟩;show EP X ag σ Q (((atKey xs k).map (·.2)).getD w) _;cases ez:ej kvs k with
    |none=>
     have c:=(D.look (k:=k)).2;rw[ez]at c hc;have x:atKey xs k=Y:=by
      cases x:atKey xs k with
      |none=>rfl
      |some _=>rw[x]at c;cases c
     rw[x];exact⟨v3,h,I.tok _,A,hc _ h g ((l.trans j).trans i) r3 q⟩
    |some z=>
     obtain⟨p,v,N,av,U⟩:=D.look.1 z ez;rw[ez]at hc;rw[N];exact⟨v,h,I.tok _,av,hc _ h g ((l.trans j).trans i) U q⟩
  ·cases hm⟩
def NF(X:Cx)(a:dP):Prop:=(∀xs,X.H₀ a≠Z (.tup xs))/\(∀o v,X.H₀ a≠Z (.frz o v)) /\ ∀ps,X.H₀ a≠Z (.tbl ps)
section
variable{ag:List (dP×Obj)}{σ:L2.St}{H:Hp}{s:dN}{a:dP}{u v:HO}
theorem ut(I:Inv X ag σ H s)(e:H a=Z u)(d:NF X a)(h1:∀c,u ≠ .own c)(h2:∀xs,u ≠ .tup xs)(new:eY X.prog X.w H s.heap a v):Inv X ag σ (upd H a v) s:=by
 have ne:∀{b:dP},H b=Y->b≠a:=λ{b} z=>by rintro rfl;rw[e]at z;cases z
 have h:∀b c,H b=Z (.own c)->upd H a v b=Z (.own c):=λb c z=>by
  rw[d9 (by rintro rfl;rw[e]at z;cases z;exact h1 _ O)];exact z
 have f:∀b xs,H b=Z (.tup xs)->upd H a v b=Z (.tup xs):=λb xs z=>by
  rw[d9 (by rintro rfl;rw[e]at z;cases z;exact h2 _ O)];exact z
 refine⟨I.ok,I.os,I.bare,⟨I.base.keep,I.base.slot,λb o q n l=>?_,I.base.there,λb xs q=>?_,λb o w q=>?_,λb ps q=>?_⟩,I.loc,I.cell,?_,λx c q=>?_,λp i=>?_,λb w q=>?_,I.len⟩
 ·have z:=I.base.free b o q n l;rw[d9 (ne z)];exact z
 ·rw[d9 (by rintro rfl;exact d.1 _ q)];exact I.base.tups b xs q
 ·rw[d9 (by rintro rfl;exact d.2.1 _ _ q)];exact I.base.frzs b o w q
 ·rw[d9 (by rintro rfl;exact d.2.2 _ q)];exact I.base.tbls b ps q
 ·rw[d9 (ne I.free)];exact I.free
 ·rw[d9 (ne (I.freeC x c q))];exact I.freeC x c q
 ·obtain⟨k,p2,j⟩:=I.pin p i;exact⟨k,by rw[d9 (ne p2)];exact p2,j⟩
 ·by_cases g:b=a
  ·subst g;rw[eF]at q;cases q;exact new.stay (λc o _ z=>z) (λc z=>h c _ z) λc xs z=>f c xs z
  ·rw[d9 g]at q;exact(I.hok b w q).stay (λc o _ z=>z) (λc z=>h c _ z) λc xs z=>f c xs z
end
inductive zl (a:dP):List (TK×dP×dM)->HO->Prop
 |ext (xs:List (TK×dP×dM)):zl a xs (.ext (gG a xs))
 |dK:zl a [] (.dK [])
noncomputable def ItD(a:dP)(o:Obj)(xs:List (TK×dP×dM)):It:=
 ⟨λi H=>(∃u,H a=Z (.frz o u))/\i<xs.length,λi H x H'=>H'=H /\ ∃q,xs[i]?=Z q/\x = .ref q.2.1,λi H=>(∃u,H a=Z (.frz o u))/\xs.length<=i⟩
theorem x9{P:dQ}{w:dS}{K:Fg1}{tg:Expr}{a it:dP}{o:Obj}{xs:List (TK×dP×dM)}{es:Array DictEntry}{ep:Nat}(hd:o.data = .dict es ep)(c:es.toList=xs.map fun x=>(⟨x.1.hash,.ref x.2.1,x.2.2⟩:DictEntry)):
  uW P w K tg (ItD a o xs) [it] it (λi h=>zk h it a i es.size ep) where
 mem:=by simp
 obj:=λi h st b d=>by
  have e:b=it:=by simpa using d
  subst e;exact⟨_,st,λv z=>by cases z⟩
 keep:=λi h h' st k=>k it (by simp) _ st
 item:=by
  intro X A B m hc i ag s σ H E I f st t;subst A B m;obtain⟨⟨u,g⟩,hi⟩:=t;obtain⟨q,_⟩:=(show eY X.prog X.w H s.heap a (.frz o u)from I.hok a _ g);have n:es.size=xs.length:=by rw[<- aK,c,lM1]
  obtain⟨j,r,D,y,p,l⟩:=f it (by simp);refine Dj st q hd (by omega) λh' st' ao=>?_;have G:Inv X ag σ H {s with heap:=h'}:=I.turned (t':=s.toks) (λb o d e=>(ao.2 b d).trans e) j r y p l;have C:es[i].key = .ref (xs[i]).2.1:=by
   have:es.toList[i]?=(xs.map λx=>(⟨x.1.hash,.ref x.2.1,x.2.2⟩:DictEntry))[i]?:=by rw[c]
   rw[aT1,aG1 (by omega),gP1,gG1 hi]at this;have:=Option.some.inj this;rw[this]
  refine⟨_,O,xl (s:={s with heap:=h'}) st' O O (by decide) ⟨.ref (xs[i]).2.1,H,G,C,⟨O,_,gG1 hi,O⟩,st',λb d=>(f b d).1⟩⟩
 done:=by
  intro X A B m hc i ag s σ H E I f st t;subst A B m;obtain⟨⟨u,g⟩,hi⟩:=t;obtain⟨q,_⟩:=(show eY X.prog X.w H s.heap a (.frz o u)from I.hok a _ g);have n:es.size=xs.length:=by rw[<- aK,c,lM1]
  obtain⟨j,r,D,y,p,l⟩:=f it (by simp);exact GH (I.ok.hd hc) st q hd (by omega) λh' F=>⟨O,I.turned (t':=s.toks) (λb o d e=>F b o d e) j r y p l⟩
 self:=λ_ _ _ _ _ st h=>wpAny_pyIter_keyiter ⟨_,st,O,O⟩ h
def IV(X:Cx)(tl:TE):TI:=fun σ H R=>tl σ H λx H1=>∃a xs u,x = .ref a/\H1 a=Z u/\zl a xs u/\xs.length<=dW /\ ∀o,xW a xs o->NF X a->R (ItD a o xs) (upd H1 a (.frz o u))
theorem G6{X:Cx}{ag:List (dP×Obj)}{σ:L2.St}{H:Hp}{s:dN}{a:dP}{u:HO}{xs:List (TK×dP×dM)}(I:Inv X ag σ H s)(e:H a=Z u)(h:zl a xs u):∃o,s.heap.get? a=Z o/\xW a xs o:=by
 cases h with
 |ext xs=>
  obtain⟨⟨h1,h2,o,es,ep,b,d,f,c⟩,_⟩:=(show eY X.prog X.w H s.heap a (.ext (gG a xs))from I.hok a _ e);exact⟨o,b,h1,h2,d,es,ep,f,c⟩
 |dK=>
  obtain⟨_,h1,vs,h2,b⟩:=(show eY X.prog X.w H s.heap a (.dK [])from I.hok a _ e);cases h2;obtain⟨o,es,ep,b,d,f,c,_⟩:=oV b;exact⟨o,b,h1,bw,d,es,ep,f,c⟩
theorem G5{X:Cx}{ag:List (dP×Obj)}{σ:L2.St}{H:Hp}{s:dN}{a:dP}{u:HO}{xs:List (TK×dP×dM)}(I:Inv X ag σ H s)(e:H a=Z u)(h:zl a xs u):NF X a:=by
 refine⟨λys q=>?_,λo v q=>?_,λps q=>?_⟩
 ·have:=I.base.tups a ys q;rw[e]at this;cases this;cases h
 ·have:=I.base.frzs a o v q;rw[e]at this;cases this;cases h
 ·obtain⟨m,z⟩:=I.base.tbls a ps q;rw[e]at z;cases z;cases h
theorem FJ{X:Cx}{tg l:Expr}{tl:TE}(B:PE X l tl):PI X tg l (IV X tl):=by
 intro ag s σ H R I h;refine fO (B ag s σ H _ I h) λv s1 ⟨x,H1,d,w,t⟩=>?_;obtain⟨a,xs,u,e,f,g,E,q⟩:=t;subst e;cases w;obtain⟨o,k,m⟩:=G6 d f g;have j:=G5 d f g;have q:=q o m j;obtain⟨r,D,A,es,ep,n,p⟩:=m;have C:es.size=xs.length:=by rw[<- aK,p,lM1]
 refine Dk r k A.1 n (by lia) ?_;have i:Inv X ag σ (upd H1 a (.frz o u)) s1:=ut d f j (λc z=>by subst z;cases g) (λc z=>by subst z;cases g) ⟨k,d.hok a _ f⟩;refine⟨s1.heap.objs.size,[s1.heap.objs.size],_,_,_,O,i.kept (t':=s1.toks) λb o e=>hP1 _ e,x9 n p,hS1 _ O,λb y=>?_,q⟩;have e:b=s1.heap.objs.size:=by simpa using y
 subst e;exact d.fpOk (nR1 _) (i.hok.fresh (nR1 _))
noncomputable def A3:Ob->Option (List (TK×D))
 | .dcT kvs=>Z kvs
 | .dct []=>Z []
 |_=>Y
def my(k:Nat)(keep:List Nat)(m:FE)(g:FG)(t:FT)(b:FV):FE:=λr S=>(m r S).bind λp=>match p.1 with
 | .ref n=>(p.2[n]?).bind fun ob=>(A3 ob).bind fun kvs=>(gh [] g t b (kvs.map fun q=>tkD q.1) (oK k keep r) (p.2.set n (.dcF kvs))).bind fun q=>
   if q.1.length<=dW then Z (.ref q.2.2.length,q.2.2.set n ob++[.lst q.1])else Y
 |_=>Y
section
variable{K:Fg1}{H H':Hp}{mu mu':List dP}{S:Sto}{n:Nat}{a:dP}{o:Obj}{u:HO}
theorem kC.exv{b:dP}(e:zu mu mu' H H')(h:∀o,H b=Z o->H' b=Z o):∀{o:Ob},kC K H mu b o->kC K H' mu' b o
 | .lst _,⟨vs,q,r⟩=>⟨vs,h _ q,r.exv e⟩
 | .dct _,⟨ws,q,r⟩=>⟨ws,h _ q,Paired.mapP r λ_ _ z=>⟨z.1,z.2.exv e⟩⟩
 | .dcT _,⟨ws,q,r,l⟩=>⟨ws,h _ q,Paired.mapP r λ_ _ ⟨z,d,k,v,a,r⟩=>⟨z,d,k.exv e,v,a,r.exv e⟩,l⟩
 | .iset _,q=>⟨h _ q.1,q.2⟩
 | .dcF _,⟨ws,⟨o,u,f,c⟩,r,l⟩=>⟨ws,⟨o,u,h _ f,c⟩,Paired.mapP r λ_ _ ⟨z,d,k,v,a,r⟩=>⟨z,d,k.exv e,v,a,r.exv e⟩,l⟩
 | .tst _,⟨ws,q,r⟩=>⟨ws,h _ q,Paired.mapP r λ_ _ ⟨z,d,k,v,a,r⟩=>⟨z,d,k.exv e,v,a,r.exv e⟩⟩
theorem tz(e:H a=Z (.frz o u))(h1:∀xs,u ≠ .tup xs)(h2:∀xs,u ≠ .lst xs):zu mu mu H (upd H a u) where
 pre:=bv
 tup:=λb xs h=>by
  have ne:b≠a:=by
   rintro rfl;rcases h with h|⟨_,h⟩<;>(rw[e]at h;cases h)
   exact h1 _ O
  rcases h with h|⟨c,h⟩
  ·exact .inl (by rw[d9 ne];exact h)
  ·exact .inr ⟨c,by rw[d9 ne];exact h⟩
 frl:=λb c xs h=>by
  rw[d9 (by rintro rfl;rw[e]at h;cases h;exact h2 _ O)];exact h
theorem Sim.thaw(s:Sim K H mu S){c:Ob}(hn:mu[n]?=Z a)(x:zu mu mu H (upd H a u))(ho:kC K (upd H a u) mu a c):Sim K (upd H a u) mu (S.set n c):=by
 refine⟨by rw[aX];exact s.len,s.nd,λk o' b h1 h2=>?_⟩;by_cases d:n=k
 ·subst d;have g:n<S.length:=by
   have:=(gE1.mp h1).1
   rwa [aX]at this
  rw[aJ g]at h1;cases h1;rw[hn]at h2;cases h2;exact ho
 ·rw [gS1 d] at h1;have ne:b≠a:=fun e=>by
   subst e;obtain⟨j,f⟩:=gE1.mp hn;obtain⟨i,h⟩:=gE1.mp h2;exact d ((List.getElem_inj s.nd).mp (f.trans h.symm))
  exact(s.ob k o' b h1 h2).exv x λc e=>by rw[d9 ne];exact e
theorem Dr(s:Sim K H mu S){ob:Ob}{kvs:List (TK×D)}(h:S[n]? = some ob)(hk:A3 ob=some kvs)(hn:mu[n]? = some a):
  ∃xs u,H a=Z u/\zl a xs u/\KT K H mu kvs xs/\xs.length<=dW /\ ∀H' mu',zu mu mu' H H'->H' a=Z u->kC K H' mu' a ob:=by
 cases ob with
 |dcT ks=>
  cases hk;obtain⟨xs,e,r,l⟩:=s.dcT h hn;exact⟨xs,_,e,.ext xs,r,l,λH' mu' x b=>⟨xs,b,Paired.mapP r λ_ _ ⟨z,d,k,v,c,r⟩=>⟨z,d,k.exv x,v,c,r.exv x⟩,l⟩⟩
 |dct ks=>
  cases ks with
  |nil=>
   cases hk;obtain⟨ws,e,r⟩:=s.dct h hn;cases r;exact⟨[],_,e,.dK,.nil,br _,λH' mu' x b=>⟨[],b,.nil⟩⟩
  |cons _ _=>cases hk
 |_=>cases hk
end
theorem KT.keyOf{K:Fg1}{H:Hp}{mu:List dP}{ks:List (TK×D)}{ws:List (TK×dP×dM)}(h:KT K H mu ks ws){i:Nat}{d:D}(e:(ks.map λq=>tkD q.1)[i]?=Z d){q:TK×dP×dM}(c:ws[i]?=Z q):eX K H mu d (.ref q.2.1):=by
 obtain⟨v,a,b⟩:=h.keys.get e;rw[gP1,c]at a;cases a;exact b
theorem BB{X:Cx}{K:Fg1}{k:Nat}{keep:List Nat}{m:FE}{g:FG}{t:FT}{b:FV}{tb:dP->TS}(hb:∀ a E σ H,HQ K a b E σ H->tb a E σ H){σ:L2.St}{H:Hp}{Q:VK}(h:tM K (my k keep m g t b) σ H Q):
  wy k keep (IV X (tM K m)) (E6 K g) (zS K t) tb σ H (λv H'=>∃a o u,H' a=Z (.frz o u)/\(∀xs,u ≠ .tup xs)/\NF X a/\Q v (upd H' a u)):=by
 obtain⟨r,mu,S,d,S',he,hs,s,hc⟩:=h;obtain⟨⟨d1,S1⟩,e1,s⟩:=oB1.mp s;cases d1 with
 |ref n=>
  obtain⟨x,eo,s⟩:=oB1.mp s;obtain⟨kvs,ek,s⟩:=oB1.mp s;obtain⟨⟨ys,r2,L⟩,e2,s⟩:=oB1.mp s;dsimp only at s;split at s
  ·rename_i hl;cases s;refine⟨r,mu,S,.ref n,S1,he,hs,e1,λv H1 mu1 x1 r1 s1=>?_⟩;cases r1 with
   | @ref _ a D=>
   obtain⟨xs,u,aq,A,C,hz,back⟩:=Dr s1 eo ek D;refine⟨a,xs,u,O,aq,A,hz,λo hO nf p f=>?_⟩;have mt:Mut (Z u):=by cases A<;>trivial
   have put:Ext mu1 mu1 H1 (upd H1 a (.frz o u)):=Ext.put aq mt (gM1 D);have sf:Sim K (upd H1 a (.frz o u)) mu1 (S1.set n (.dcF kvs)):=s1.put D aq mt ⟨xs,⟨o,u,eF,hO⟩,KT.ext put C,hz⟩;have l:p≠a:=by rintro rfl;rw[eF]at f;cases f
   have R:Ext mu1 mu1 (upd H1 a (.frz o u)) (upd (upd H1 a (.frz o u)) p (.lst [])):=Ext.fresh f;have hlen:kvs.length=xs.length:=by have:=C.keys.length;simpa using this
   have J1:ItR K (ItD a o xs) ⟨kvs.map λq=>tkD q.1,[]⟩ mu1 (upd H1 a (.frz o u)):=by
    intro i H2 mu2 L x2 s2 _;have hf:=x2.frz a o u eF;refine⟨λd A=>?_,λh=>⟨⟨u,hf⟩,by rw[lM1]at h;lia⟩⟩;have hi:i<xs.length:=by have:=(gE1.mp A).1;rw[lM1]at this;lia
    refine⟨⟨⟨u,hf⟩,hi⟩,?_⟩;rintro y H3 ⟨rfl,q,eq,rfl⟩;exact⟨.refl _ _,s2,((KT.ext put C).keyOf A eq).exw x2⟩
   refine uk (hb p) J1 R.w eF (sf.notin f) .nil ((Ey k keep (he.ext (x1.trans put))).ext R) (sf.fresh f) e2 (by simpa using hl) fun σ' H' mu' G ao U W V he' s'=>?_;have F:H' a=Z (.frz o u):=ao.frz a o u (by rw[d9 l.symm];exact eF);have h1:∀xs,u ≠ .tup xs:=λxs z=>by subst z;cases A
   have h2:∀xs,u ≠ .lst xs:=λxs z=>by subst z;cases A
   refine⟨a,o,u,F,h1,nf,?_⟩;have B:=(b6.mp ao.pre).2;have na:mu'[n]?=Z a:=by
    obtain⟨t,rfl⟩:=B;rw[gL1 (gE1.mp D).1];exact D
   have ne1:∀{b:dP},H1 b=Y->b≠a:=λ{b} z=>by rintro rfl;rw[aq]at z;cases z
   have y:Ext mu1 (mu'++[p]) H1 (upd H' a u):=by
    refine⟨B.trans (bE _ _),λb w e nb=>?_,λb ys e=>?_,λb x w e=>?_,λb wq=>?_⟩
    ·have T:b≠a:=λz=>nb (by rw[z];exact gM1 D);have bp:b≠p:=by rintro rfl;rw[d9 l,e]at f;cases f
     rw[d9 T];exact ao.old b w (by rw[d9 bp,d9 T];exact e) λz=>by
      rcases aG.mp z with z|z
      ·exact bp z
      ·exact nb z
    ·exact(tz (mu:=mu') F h1 h2).tup b ys (ao.tup b ys (R.tup b ys (put.tup b ys e)))
    ·have T:b≠a:=by rintro rfl;rw[aq]at e;cases e;cases A
     rw[d9 T];exact ao.frz b x w (R.frz b x w (put.frz b x w e))
    ·rcases aH.mp wq with z|z
     ·rcases ao.new b (mC1 _ z)with q|q
      ·rcases aG.mp q with q|q
       ·exact .inr (by rw[q];rw[d9 l]at f;exact f)
       ·exact .inl q
      ·by_cases av:b=p
       ·exact .inr (by rw[av];rw[d9 l]at f;exact f)
       ·rw[d9 av]at q;by_cases P:b=a
        ·exact .inl (by rw[P];exact gM1 D)
        ·rw[d9 P]at q;exact .inr q
     ·have:b=p:=by simpa using z
      exact .inr (by rw[this];rw[d9 l]at f;exact f)
   have tx:=tz (mu:=mu') F h1 h2;have I:Sim K (upd H' a u) mu' (L.set n x):=s'.thaw na tx (back _ _ ⟨B,y.tup,λb x w e=>y.frz b x _ e⟩ eF);have N:upd H' a u p=Z (.lst G):=by rw[d9 l];exact U
   refine hc _ _ (mu'++[p]) (x1.trans y) (by rw[show L.length=(L.set n x).length by simp];exact .ref (gZ I.len p)) ⟨by rw[lA1,lA1,I.len];rfl,?_,λj w b h1 h2=>?_⟩
   ·rw[bG];refine⟨I.nd,by simp,λb hb c hc e=>?_⟩;have:c=p:=by simpa using hc
    subst this;subst e;exact W hb
   ·by_cases C:j<(L.set n x).length
    ·rw[gL1 C]at h1;rw[gL1 (by rw[I.len];exact C)]at h2;exact(I.ob j w b h1 h2).mor [p]
    ·have au:j=(L.set n x).length:=by
      have:=(gE1.mp h1).1;rw[lA1]at this;simp at this C;simp;lia
     subst au;rw[gR1 (nR1 _)]at h1;rw[<- I.len,gR1 (nR1 _)]at h2;simp at h1 h2;subst h1;subst h2;exact⟨G,N,((by simpa using V:eh K H' mu' ys G).exv tx).mor [p]⟩
  ·cases s
 |_=>cases s
theorem pZ{X:Cx}{elt tg iter:Expr}{ifs:List Expr}{scope:d3}{pos:Pos}{T:List Str}{keep:List Nat}{l:List (Str×dP)}{m:FE}{g:FG}{t:FT}{e:FE}(hc:X.calm=M)(C:HB X scope T keep)(d:jH X.env.cells scope.names []=Z l)(hi:XE X iter m)(hb:∀s H b,JT (cxC X scope l T keep s H b) X.K tg ifs elt g t e)(hs:autoParam (∀x,foldedSetIterable iter X.env x=pure x) du0):XE X (.ListComp elt [⟨tg,iter,ifs,0⟩] scope pos) (my T.length keep m g t (eQ e)):=by
 refine⟨λag s σ H Q I h=>?_⟩;have n:=wN (g:=E6 X.K g) (ti:=zS X.K t) (emit:=rg elt) (tb:=λp=>tE p (tM X.K e)) hc (λit i f=>vj elt tg iter ifs scope pos it i f) C d (FJ (tg:=tg) hi.h) (λs H b p=>⟨(hb s H b).g.h,(hb s H b).t.h,rY (hb s H b).e.h p⟩) hs;refine wpAny_mono (n ag s σ H _ I (BB (λa E σ H q=>oW q) h)) ?_ λ_ _ x=>x;rintro v y ⟨x,H2,j,r2,a,o,u,k,w,r,q⟩;exact⟨x,upd H2 a u,ut j k r (λc z=>by cases z) (λc z=>by cases z) (j.hok a _ k).2,r2,q⟩
theorem v9.lt{xs:Array Nat}(h:v9 xs){a b u v:Nat}(e:a<b)(d:xs[a]?=Z u)(c:xs[b]?=Z v):u<v:=by
 rw[<- aT1]at d c;obtain⟨g,d⟩:=gE1.mp d;obtain⟨f,c⟩:=gE1.mp c;have:=cw.mp h a b g f e;rw[d,c]at this;exact this
structure Bs (xs:Array Nat)(j i:Nat):Prop where
 le:i<=xs.size
 lo:∀k v,xs[k]?=some v->k<i->v<j
 hi:∀k v,xs[k]?=some v->i<=k->j<=v
theorem Bs.uniq{xs:Array Nat}{j i i':Nat}(h:Bs xs j i)(h':Bs xs j i'):i=i':=by
 rcases Nat.lt_trichotomy i i' with z|z|z
 ·have a:i<xs.size:=nL1 z h'.le;have e:=aG1 a;have:=h.hi _ _ e (nR1 _);have:=h'.lo _ _ e z;lia
 ·exact z
 ·have a:i'<xs.size:=nL1 z h.le;have e:=aG1 a;have:=h'.hi _ _ e (nR1 _);have:=h.lo _ _ e z;lia
theorem BK{xs:Array Nat}{j:Nat}(hr:v9 xs):∀n lo hi:Nat,lo<=hi->hi<=xs.size->hi-lo<=n->(∀k v,xs[k]?=Z v->k<lo->v<j)->(∀k v,xs[k]?=Z v->hi<=k->j<=v)->Bs xs j (SetTable.below.go xs j n lo hi)
 |0,lo,hi,h1,h2,g,b,c=>by
  have:lo=hi:=by lia
  subst this;exact⟨h2,b,c⟩
 |n + 1,lo,hi,h1,h2,g,b,c=>by
  rw[SetTable.below.go];by_cases f:lo<hi
  ·rw[ak f];have d:(lo+hi)/2<xs.size:=by lia
   have a:=aG1 d;have i:xs.getD ((lo+hi)/2) j=xs[(lo+hi)/2]:=by simp[Array.getD,d]
   dsimp only;rw[i];by_cases hc:xs[(lo+hi)/2]<j
   ·rw[ak hc];refine BK hr n _ _ (by lia) h2 (by lia) (λk v e h=>?_) c;rcases b5 k ((lo+hi)/2)with z|z
    ·have:=hr.lt z e a;lia
    ·have:k=(lo+hi)/2:=by lia
     subst this;rw[a]at e;cases e;exact hc
   ·rw[aj hc];refine BK hr n _ _ (by lia) (by lia) (by lia) b λk v e h=>?_;rcases b5 ((lo+hi)/2) k with z|z
    ·have:=hr.lt z a e;lia
    ·have:k=(lo+hi)/2:=by lia
     subst this;rw[a]at e;cases e;lia
  ·rw[aj f];have:lo=hi:=by lia
   subst this;exact⟨h2,b,c⟩
theorem ph{xs:Array Nat}(hr:v9 xs)(j:Nat):Bs xs j (SetTable.below xs j):=
 BK hr _ 0 _ (br _) (nR1 _) (by lia) (λ_ _ _ h=>absurd h (bF _)) λk v e h=>by
  have:=(Array.getElem?_eq_some_iff.mp e).1;lia
theorem ux{α:Type}(xs:Array α)(p:Nat)(x:α):(SetTable.insertAt xs p x).toList=xs.toList.take p++x::xs.toList.drop p:=by
 unfold SetTable.insertAt;rw[cy,cA,cB,cB];simp[List.extract_eq_drop_take];rw[cc (by simp)]
theorem Cm{xs:Array Nat}(hr:v9 xs){j:Nat}(hn:xs[SetTable.below xs j]? ≠ Z j):v9 (SetTable.insertAt xs (SetTable.below xs j) j):=by
 have b:=ph hr j;unfold v9;rw[ux,cC,cf];have lo:∀v∈xs.toList.take (SetTable.below xs j),v<j:=λv h=>by
  obtain⟨k,d⟩:=bA h;rw[List.getElem?_take]at d;split at d
  ·rename_i g;exact b.lo k v (by rw[<- aT1];exact d) g
  ·cases d
 have hi:∀v∈xs.toList.drop (SetTable.below xs j),j<v:=λv h=>by
  obtain⟨k,d⟩:=bA h;rw[cD,aT1]at d;have h1:=b.hi _ v d (bB _ _);rcases b5 j v with z|z
  ·exact z
  ·exfalso;have f:v=j:=by lia
   subst f;cases k with
   |zero=>exact hn d
   |succ k=>
    have l:SetTable.below xs v<xs.size:=by have:=(Array.getElem?_eq_some_iff.mp d).1;lia
    have e:=aG1 l;have:=b.hi _ _ e (nR1 _);have:=hr.lt (by lia) e d;lia
 refine⟨hr.sublist (aW _ _),⟨hi,hr.sublist (cE _ _)⟩,λa i c hc=>?_⟩;rcases aG.mp hc with z|z
 ·rw[z];exact lo a i
 ·exact bq (lo a i) (hi c z)
structure TS (l:Bool)(t:SetTable):Prop where
 up:v9 t.place
 du:t.dummies = #[]
 ld:t.led=l
theorem ue{t:SetTable}(hd:t.dummies = #[])(j:Nat):SetTable.has t.dummies j=J:=by rw[hd];rfl
theorem p9{t:SetTable}(hd:t.dummies = #[]){f:Nat->Int}{h:Int}:∀(n:Nat) (p:SetTable.Probe) (j:Nat) (d:Option Nat),p.dummy=Y->SetTable.probe.go t f h n p=Z (.empty j d)->d=Y/\t.place[SetTable.below t.place j]? ≠ Z j
 |0,p,j,d,_,e=>by rw[SetTable.probe.go]at e;cases e
 |n+1,p,j,d,hp,e=>by
  have a:(t.advance p).dummy=Y:=by
   unfold SetTable.advance;split
   ·exact hp
   ·dsimp only;exact hp
  rw[SetTable.probe.go]at e;unfold SetTable.slot at e;dsimp only at e;rw[ue hd]at e;by_cases hc:(t.place[SetTable.below t.place p.j]? == Z p.j)=M
  ·rw[ak hc]at e;dsimp only at e;split at e
   ·cases e
   ·exact p9 hd n _ j d a e
  ·rw[aj hc,aj (by decide)]at e;dsimp only at e;cases e;refine⟨hp,λz=>hc ?_⟩;rw[z];simp
theorem DR{t:SetTable}(hd:t.dummies = #[]){h:Int}{j:Nat}{b:Bool}(e:t.freeSlot h=Z (j,b)):t.place[SetTable.below t.place j]? ≠ Z j:=by
 unfold SetTable.freeSlot at e;split at e
 ·rename_i c d ep;obtain⟨rfl,a⟩:=p9 hd _ _ _ _ O ep;cases e;exact a
 ·cases e
theorem kK{l:Bool}{t:SetTable}(h:TS l t)(n:Nat):TS l (t.standIn n):=by
 refine⟨?_,O,h.ld⟩;show(Array.range n).toList.Pairwise (· < ·);rw[Array.toList_range];exact cF
theorem HF{l:Bool}{t:SetTable}(h:TS l t)(n:Nat):TS l (t.orStandIn n):=by
 unfold SetTable.orStandIn;split
 ·exact h
 ·exact kK h n
theorem EX{l:Bool}{t:SetTable}(ht:TS l t)(es:Array (Int×dM))(h:Int)(x:dM):TS l (layNew t es h x).2.1:=by
 unfold layNew;split
 ·rename_i j b e;show TS l ((t.put j).1.orStandIn _);refine HF (t:=(t.put j).1) ⟨?_,?_,ht.ld⟩ _
  ·exact Cm ht.up (DR ht.du e)
  ·show(if SetTable.has t.dummies j=M then _ else t.dummies) = #[];rw[ue ht.du,aj (by decide)];exact ht.du
 ·exact kK ht _
theorem sM{α:Type}(f:Nat->Option α):∀l:List Nat,((l.filterMap λj=>(f j).map (j,·)).map (·.1)).Sublist l
 |[]=>.slnil
 |a::l=>by
  rw[aF];cases f a with
  |none=>exact(sM f l).cons a
  |some x=>exact(sM f l).cons₂ a
theorem Cg{l p:Bool}{m c b:Nat}{hs:Array Int}{t:SetTable}{a:Array Nat}(e:SetTable.laid m c b l p hs=Z (t,a)):TS l t:=by
 unfold SetTable.laid at e;obtain⟨d,_,e⟩:=oB1.mp e;cases e;refine⟨?_,O,O⟩;unfold v9;dsimp only;exact List.pairwise_lt_range.sublist (by simpa using sM (λj=>d.getD j Y) (af (m+1)))
theorem zJ{l:Bool}{t:SetTable}(ht:TS l t)(es:Array (Int×dM))(n:Nat):TS l (relayAll t es n).2.1:=by
 unfold relayAll;split
 ·rename_i b a e;dsimp only;split
  ·have:=Cg e;rw[ht.ld]at this;exact this
  ·exact kK ht _
 ·exact kK ht _
theorem zK(l:Bool):TS l (SetTable.fresh 0 0 l):=⟨List.Pairwise.nil,O,O⟩
theorem D6{xs:Array Nat}(hr:v9 xs){i:Nat}(hi:i<xs.size):SetTable.below xs (xs[i]+1)=i+1:=by
 refine(ph hr _).uniq ⟨hi,λk v e a=>?_,λk v e a=>?_⟩
 ·rcases b5 k i with z|z
  ·have:=hr.lt z e (aG1 hi);lia
  ·have:k=i:=by lia
   subst this;rw[aG1 hi]at e;cases e;lia
 ·have:=hr.lt (show i<k by lia) (aG1 hi) e;lia
theorem BJ{xs:Array Nat}(hr:v9 xs):SetTable.below xs 0=0:=
 (ph hr _).uniq ⟨br _,λk v e a=>absurd a (bF _),λk v e a=>br _⟩
noncomputable def Kz(e:Int×dM):Int:=match e.2 with
 | .int k _=>k
 |_=>0
structure Els (es:Array (Int×dM))(ns:List Int):Prop where
 el:∀e∈es.toList,∃k t,e=(hashInt k,Value.int k t)
 pm:(es.toList.map Kz).Perm ns
theorem Els.of{P:dQ}{w:dS}{es:Array (Int×dM)}{ns:List Int}(h:Els es ns):ElemsOf (intKind P w) es.toList:=λe a=>by
 obtain⟨k,t,rfl⟩:=h.el e a;exact⟨⟨k,intKind_is _ _ _ _,O⟩,O⟩
theorem Els.size{es:Array (Int×dM)}{ns:List Int}(h:Els es ns):es.size=ns.length:=by
 have:=h.pm.length_eq;rw[lM1,aK]at this;exact this
theorem Els.perm{es fs:Array (Int×dM)}{ns:List Int}(h:Els es ns)(p:fs.toList.Perm es.toList):Els fs ns:=
 ⟨λe a=>h.el e (p.mem_iff.mp a),(p.map _).trans h.pm⟩
theorem Els.add{es fs:Array (Int×dM)}{ns:List Int}(h:Els es ns){k:Int}{t:Tok}(p:fs.toList.Perm (es.push (hashInt k,.int k t)).toList):Els fs (ns++[k]):=by
 rw[cA]at p;refine⟨λe a=>?_,?_⟩
 ·rcases aH.mp (p.mem_iff.mp a)with z|z
  ·exact h.el e z
  ·simp at z;exact⟨k,t,z⟩
 ·refine(p.map _).trans ?_;rw[cG];exact h.pm.append (.refl _)
def jO(b:Bool)(p:dP)(ns:List Int)(h:dY):Prop:=∃es ep t l,h.get? p=Z (stO es ep t)/\Els es ns/\es.size<scanBound/\t.fits es.size=M/\TS l t/\(b=J->l=M)
section
variable{P:dQ}{w:dS}{A:dR}{E:dM->dN->Prop}{s:dN}{b:Bool}{p:dP}{ns:List Int}
theorem Ad{es fs:Array (Int×dM)}{ep:Nat}{t u:SetTable}{h:dY}(e:h.get? p=Z (stO es ep t)):(h.update p (Obj.putSet fs u)).get? p=Z (stO fs (ep+1) u):=by
 have:=hW1 (Obj.putSet fs u) e (by rw[putSet_of fs u O];rfl);rw[putSet_of fs u O]at this;exact this
theorem gw{c:Bool}{Q:Unit->dN->Prop}(q:Q () s):dX (model P w) A (match c with
  |true=>rule "set.scan.the-table-gave-way"
  |false=>pure ()) Q E s:=by cases c<;>first|exact wP1 q|exact wpAny_rule q
theorem KL{k:Int}{tk:Tok}{Q:Bool->dN->Prop}(wq:jO b p ns s.heap)(hr:ns.length+1<scanBound)(q:∀c h',Heap.SameBut p s.heap h'->jO b p (step_dedup ns k) h'->Q c {s with heap:=h'}):dX (model P w) A (setAddHashed p (.int k tk) (hashInt k)) Q E s:=by
 obtain⟨es,ep,t,l,h,a,N,G,U,D⟩:=wq;have hz:=a.size;have av:ElemsOf (intKind P w) es.toList:=a.of;unfold setAddHashed setAddHashedIn;refine wpAny_holding (wB1 (wpAny_setState_of h O G ?_));dsimp only;rw[byScan_of (knd:=intKind P w) O N av,ak O];unfold setAddByScan;refine wB1 (wB1 (wpAny_rule (wB1 (wpAny_setScan_of (knd:=intKind P w) (k:=k) (intKind_is _ _ _ _) h O G av ?_))));cases hx:List.findIdx? (λe=>(intKind P w).is k e.2) es.toList with
 |some j=>
  obtain⟨aq,m,_⟩:=ca.mp hx;have B:k∈ns:=by
   refine a.pm.mem_iff.mp (cj.mpr ⟨_,bY aq,?_⟩);obtain⟨k',X,e⟩:=a.el _ (bY aq);rw[e]at m ⊢;exact((intKind P w).inj _ _ _ m (intKind_is P w k' X)).symm
  have ao:step_dedup ns k=ns:=by unfold step_dedup;rw[ak (bX.mpr ⟨k,B,by simp⟩)]
  rw[ao]at q;exact wP1 (wP1 (q _ s.heap (Heap.SameBut.refl p s.heap) ⟨es,ep,t,l,h,a,N,G,U,D⟩))
 |none=>
  have ao:step_dedup ns k=ns++[k]:=by
   unfold step_dedup;rw[aj λz=>?_];obtain⟨k',B,e⟩:=bX.mp z;have e:=beq_iff_eq.mp e;subst e;obtain⟨x,i,f⟩:=cj.mp (a.pm.mem_iff.mpr B);obtain⟨n,g,rfl⟩:=a.el x i;have f:n=k':=f;subst f;have:=List.findIdx?_eq_none_iff.mp hx _ i;rw[show(intKind P w).is n (hashInt n,Value.int n g).2=M from intKind_is _ _ _ _]at this;cases this
  rw[ao]at q;have K:=layNew_perm t es (hashInt k) (.int k tk);have I:=layNew_fits t es (hashInt k) (.int k tk);have o:=EX U es (hashInt k) (.int k tk);dsimp only;generalize layNew t es (hashInt k) (.int k tk)=L at K I o ⊢;obtain⟨fs,u,W,gv⟩:=L;dsimp only at K I o ⊢;have y:Els fs (ns++[k]):=a.add K;have H:fs.size<scanBound:=by rw[y.size,lA1];exact hr
  refine wB1 (gw ?_);have tail:∀ (c:Bool),dX (model P w) A (do
    storeSet p fs u
    if (!W&&u.tooFull)=true then do
      (match (relayAll u fs (SetTable.grown fs.size)).2.2 with
       |true=>rule "set.scan.the-table-gave-way"
       |false=>pure ())
      storeSet p (relayAll u fs (SetTable.grown fs.size)).1 (relayAll u fs (SetTable.grown fs.size)).2.1
      pure (Z M)
     else pure (Z M)) (λr s'=>dX (model P w) A (match r with
      |some d=>pure d
      |none=>setAddHashedIn p (.int k tk) (hashInt k) 99999) Q E s') E s:=λ_=>by
   refine wB1 (wpAny_storeSet_of h O ?_ (fits_of_scanBound H));have C:=Ad (fs:=fs) (u:=u) h;have V:=Heap.SameBut.update s.heap p (Obj.putSet fs u);split
   ·have p2:=relayAll_perm u fs (SetTable.grown fs.size);have F:=relayAll_fits u fs (SetTable.grown fs.size);have g:=zJ o fs (SetTable.grown fs.size);generalize relayAll u fs (SetTable.grown fs.size)=L2 at p2 F g ⊢;obtain⟨T,v,au⟩:=L2;dsimp only at p2 F g ⊢;have R:=y.perm p2;have S:T.size<scanBound:=by rw[R.size,<- y.size];exact H
    refine wB1 (gw (wB1 (wpAny_storeSet_of C O ?_ (fits_of_scanBound S))));exact wP1 (wP1 (q _ _ (V.trans (Heap.SameBut.update _ p _)) ⟨T,_,v,l,Ad C,R,S,F,g,D⟩))
   ·exact wP1 (wP1 (q _ _ V ⟨fs,_,u,l,C,y,H,I,o,D⟩))
  split
  ·refine wB1 (wP1 ?_);exact tail M
  ·refine wB1 (wP1 ?_);exact tail M
end
section
variable{P:dQ}{w:dS}{A:dR}{E:dM->dN->Prop}{s:dN}
noncomputable def byT(w:dS):Bool:=w.params.followText "set-order"
theorem CU(x:dM){G:dM->dN->Prop}(q:G (.ref s.heap.objs.size) {s with heap:=s.heap.push (stO #[] 0 (.fresh 0 0 (!byT w)))}):
  codeAny (model P w) A (.call (.builtin "set.__new__") ⟨[.type "set",x],[]⟩) (wants G E) s:=by
 refine codeAny_of_tree (?_:dX _ A.in1 (do checkBuiltinCall "set.__new__" ⟨[.type "set",x],[]⟩;again (.builtin "set.__new__" ⟨[.type "set",x],[]⟩)) _ _ s);refine wB1 (wpAny_of_eq (PySem.F.newCall_set_1 x) (wP1 ⟨plainId_quiet PySem.F.plain_set_new _,wD1 PySem.F.entry_set_new (?_:_)⟩));rw[Around.under_plainId PySem.F.plain_set_new _];unfold Builtin.«set.__new__» Builtin.Frozenset.newClass;have a:=sub_set_self;obtain⟨b,g,d,tk,c⟩:=s;dsimp only
 wp_walk
 refine wpAny_askSetting (wP1 (?_:_));dsimp only;simp only[newObj];exact wB1 (wpAny_alloc (wP1 (wP1 q)))
set_option maxHeartbeats 3200000 in
theorem vZ {l:dP}{its:Array dM}{Q:dM->dN->Prop}(v:s.heap.IsList l its)
  (d:∀j:dR,j.handled=A.handled->j.units<=A.units+2 -> ∀R:Result->dN->Prop,(∀s',Q (.ref s.heap.objs.size) s'->R (.ok (.ret .none)) s') ->
   codeAny (model P w) j (.builtin "set.update.loop" ⟨[.ref s.heap.objs.size,.ref (s.heap.objs.size+1)],[]⟩) R {s with heap:=(s.heap.push (stO #[] 0 (.fresh 0 0 (!byT w)))).push {cls:=.type "list_iterator",data:=.fields #[.ref l,.int 0 0]}}):
  dX (model P w) A (call (.type "set") [.ref l]) Q E s:=by
 obtain⟨T,av,p⟩:=PySem.F.called_set.mro;have f:=PySem.F.called_set.made;have k:=PySem.F.called_set.sub
 refine wpAny_call (codeAny_of_tree (?_:dX _ _ (callAny (.type "set") _) _ _ _));refine wP1 ⟨Code.quiet_builtin _ (by decide+kernel),wD1 PySem.F.entry_type_call (?_:_)⟩;rw[Around.under_plain (weight_type_call_type "set" [.ref l] []) O];have K:=PySem.F.called_set.notType;have S:=PySem.F.called_set.canCreate;have X:=PySem.F.typeCall_set_1 (.ref l)
 repeat(any_goals (first|wp_step|assumption))
 refine codeAny_mono (CU (.ref l) (E:=E) (G:=λx o=>x = .ref s.heap.objs.size/\o={s with heap:=s.heap.push (stO #[] 0 (.fresh 0 0 (!byT w)))}) ⟨O,O⟩) λr o g=>?_;cases r with
 |error e=>exact g
 |ok u=>
  cases u with
  |ret x=>
   obtain⟨rfl,rfl⟩:=g;have t:(s.heap.push (stO #[] 0 (.fresh 0 0 (!byT w)))).get? s.heap.objs.size=Z (stO #[] 0 (.fresh 0 0 (!byT w))):=hS1 _ O;have I:Shared.TypeIs {s with heap:=s.heap.push (stO #[] 0 (.fresh 0 0 (!byT w)))} (.ref s.heap.objs.size) "set":=⟨_,t,O⟩;have N:=PySem.F.called_set.init.lookup;have L:=PySem.F.called_set.init.bind (.ref s.heap.objs.size)
   repeat(any_goals (first|wp_step|assumption))
   refine codeAny_mono (codeAny_call_builtin (R:=wants (λr n=>r = .none/\Q (.ref s.heap.objs.size) n) E) PySem.F.called_set.init.plain PySem.F.entry_set_init (check_set_init_1 I (?_:_))) λr2 n a=>?_
   ·obtain⟨F,i,b,m,c⟩:=v;obtain⟨U,H,W,D⟩:=F;simp only at b c;subst b;subst c;have C:(s.heap.push (stO #[] 0 (.fresh 0 0 (!byT w)))).get? l=Z {cls:=.type "list",dict:=H,data:=.seq its m,slots:=D}:=hP1 _ i;have ao:=PySem.F.sub_list_set;have aq:=PySem.F.sub_list_frozenset;have V:(Value.type "list" == Value.type "dict")=J:=by decide
    have y:(s.heap.push (stO #[] 0 (.fresh 0 0 (!byT w)))).IsList l its:=⟨_,C,O,m,O⟩;have B:(s.heap.push (stO #[] 0 (.fresh 0 0 (!byT w)))).get? s.heap.objs.size=Z {cls:=.type "set",dict:=Y,data:=.set #[] 0 (.fresh 0 0 (!byT w)),slots:= #[]}:=t;unfold Builtin.«set.__init__» noKeywords Builtin.Frozenset.updateFrom;generalize h:pyIter=PI
    wp_walk
    subst h;refine wpAny_pyIter_list y (wB1 (wpAny_runValue (?_:_)));dsimp only;rw[show(s.heap.push (stO #[] 0 (.fresh 0 0 (!byT w)))).objs.size=s.heap.objs.size+1 from by rw[hZ1]];refine d A.in1.in1 (by simp) (nR1 _) _ λs' q=>?_;exact wP1 (wP1 ⟨O,q⟩)
   ·cases r2 with
    |error e=>exact a
    |ok z=>
     cases z with
     |ret r=>
      obtain⟨rfl,q⟩:=a
      repeat(any_goals (first|wp_step|assumption))
     |_=>exact a.elim
  |_=>exact g.elim
theorem zd {l:dP}{its:Array dM}{Q:dM->dN->Prop}(c:s.heap.IsList l its)
  (b:∀a:dR,a.handled=A.handled -> ∀R:Result->dN->Prop,(∀s',Q (.ref s.heap.objs.size) s'->R (.ok (.ret .none)) s') ->
   codeAny (model P w) a (.builtin "set.update.loop" ⟨[.ref s.heap.objs.size,.ref (s.heap.objs.size+1)],[]⟩) R {s with heap:=(s.heap.push (stO #[] 0 (.fresh 0 0 (!byT w)))).push {cls:=.type "list_iterator",data:=.fields #[.ref l,.int 0 0]}}):
  dX (model P w) A (call (.type "set") [.ref l]) Q E s:=vZ c λa h _=>b a h
end
section
variable{P:dQ}{w:dS}{A:dR}{E:dM->dN->Prop}{b:Bool}
theorem jO.old{p:dP}{ns:List Int}{h h':dY}(x:jO b p ns h)(k:∀o,h.get? p=Z o->h'.get? p=Z o):jO b p ns h':=by
 obtain⟨es,ep,t,l,e,r⟩:=x;exact⟨es,ep,t,l,k _ e,r⟩
theorem oQ:∀(ns acc:List Int),(ns.foldl step_dedup acc).length<=acc.length+ns.length
 |[],acc=>by simp
 |n::ns,acc=>by
  rw[bd];have h1:=oQ ns (step_dedup acc n);have h2:(step_dedup acc n).length<=acc.length+1:=by unfold step_dedup;split<;>simp
  rw[lC1];lia
theorem zZ{p l it:dP}{its:Array dM}{ns:List Int}{R:Result->dN->Prop}(K:A.handled=none)(x:IntsAre its.toList ns)(hb:ns.length+1<scanBound)(E:p≠l)(m:p≠it)(L:it≠l):
  ∀(k i:Nat) (s:dN),its.size-i=k->i<=its.size->s.heap.IsListIter it l i->s.heap.IsList l its->jO b p ((ns.take i).foldl step_dedup []) s.heap ->
  (∀h' tk,(∀c o,c≠p->c≠it->s.heap.get? c=Z o->h'.get? c=Z o)->jO b p (ddI ns) h'->R (.ok (.ret .none)) {s with heap:=h',toks:=tk})->codeAny (model P w) A (.builtin "set.update.loop" ⟨[.ref p,.ref it],[]⟩) R s:=by
 have d:its.size=ns.length:=by rw[<- aK];exact x.length
 intro k
 induction k with
 |zero=>
  intro i s F hi st h v q;have e:i=its.size:=by lia
  subst e;refine wD1 PyProof.Rows.F.entry_set_update_loop (?_:_);rw[Around.under_plainId PyProof.Rows.F.plain_set_update_loop _];show dX _ A.in1 (pyNext (.ref it) >>= _) _ _ s;refine wB1 (wpAny_pyNext_list_end (by simpa using K) st h (by simp) λh' y=>wP1 ?_);refine q h' s.toks (λc o _ hc e=>y c o hc e) ?_;have:=v.old (h':=h') λo e=>y p o m e;rw[d,cg]at this;exact this
 |succ k ih=>
  intro i s F hi st h v q;have g:i<its.size:=by lia
  have C:=aG1 g;obtain⟨t,aq⟩:=PyProof.Rows.IntsAre.int_at x i its[i] (by rw[aT1];exact C);refine wD1 PyProof.Rows.F.entry_set_update_loop (?_:_);rw[Around.under_plainId PyProof.Rows.F.plain_set_update_loop _];show dX _ A.in1 (pyNext (.ref it) >>= _) _ _ s;refine wB1 (wpAny_pyNext_list_item st h C λh' st' B=>?_);rw[aq];show dX _ A.in1 (holding [Value.int (ns.getD i 0) t] (setAdd p (.int (ns.getD i 0) t)) >>= _) _ _ _;refine wB1 (wpAny_holding ?_);unfold setAdd;refine wpAny_holding (wB1 (wpAny_pyHash_int ?_));have u:jO b p ((ns.take i).foldl step_dedup []) h':=v.old λo e=>by rw[B.2 p m];exact e
  have n:=oQ (ns.take i) [];refine KL (s:={s with heap:=h',toks:=s.toks+1}) (k:=ns.getD i 0) u (by rw[aT,bn]at n;lia) λc h2 a f=>?_;have I:ns[i]?=Z (ns.getD i 0):=by rw[gG1 (by lia)];simp[List.getD,show i<ns.length by lia]
  have H:step_dedup ((ns.take i).foldl step_dedup []) (ns.getD i 0)=(ns.take (i+1)).foldl step_dedup []:=by
   rw[cH,I,cI];rfl
  rw[H]at f;have z:∀c o,c≠p->c≠it->s.heap.get? c=Z o->h2.get? c=Z o:=λc o h1 j e=>by rw[a.2 c h1];show h'.get? c=_;rw[B.2 c j];exact e
  have keepIt:∀o,h'.get? it=Z o->h2.get? it=Z o:=λo e=>by rw[a.2 it (Ne.symm m)];exact e
  refine wP1 ⟨plainId_quiet PyProof.Rows.F.plain_set_update_loop _,ih (i+1) {s with heap:=h2,toks:=s.toks+1} (by lia) g (st'.at keepIt) ?_ f λj tk ao G=>?_⟩
  ·obtain⟨o,e,r⟩:=h;exact⟨o,z l o (Ne.symm E) (Ne.symm L) e,r⟩
  ·exact q j tk (λc o h1 D e=>ao c o h1 D (z c o h1 D e)) G
theorem ze{s:dN}{l:dP}{its:Array dM}{ns:List Int}{Q:dM->dN->Prop}(f:A.handled=Y)(d:s.heap.IsList l its)(p:IntsAre its.toList ns)(hb:ns.length+1<scanBound)(q:∀h' tk,(∀c o,s.heap.get? c=Z o->h'.get? c=Z o)->jO (byT w) s.heap.objs.size (ddI ns) h'->Q (.ref s.heap.objs.size) {s with heap:=h',toks:=tk}):dX (model P w) A (call (.type "set") [.ref l]) Q E s:=by
 have a:l<s.heap.objs.size:=by obtain⟨o,e,_⟩:=d;exact hL1 e
 refine zd d λt j R i=>?_;have n:(s.heap.push (stO #[] 0 (.fresh 0 0 (!byT w)))).objs.size=s.heap.objs.size+1:=by rw[hZ1]
 have g:(s.heap.push (stO #[] 0 (.fresh 0 0 (!byT w)))).get? s.heap.objs.size=Z (stO #[] 0 (.fresh 0 0 (!byT w))):=hS1 _ O;refine zZ (its:=its) (ns:=ns) (b:=byT w) (j.trans f) p hb (nG1 a) (nN1 (bJ _)) (nG1 (cJ a)) _ 0 _ O (br _) ?_ ?_ ?_ λh' tk k x=>i _ (q h' tk (λc o e=>k c o (nN1 (hL1 e)) (nN1 (cJ (hL1 e))) (hP1 _ (hP1 _ e))) x)
 ·refine⟨{cls:=.type "list_iterator",data:=.fields #[.ref l,.int 0 0]},?_,O,O⟩;have this:((s.heap.push (stO #[] 0 (.fresh 0 0 (!byT w)))).push {cls:=.type "list_iterator",data:=.fields #[.ref l,.int 0 0]}).get? (s.heap.push (stO #[] 0 (.fresh 0 0 (!byT w)))).objs.size=Z {cls:=.type "list_iterator",data:=.fields #[.ref l,.int 0 0]}:=hS1 _ O;rw[n]at this;exact this
 ·obtain⟨o,e,r⟩:=d;exact⟨o,hP1 _ (hP1 _ e),r⟩
 ·refine⟨#[],0,_,!byT w,hP1 _ g,⟨λe m=>by simp at m,.refl _⟩,by decide,O,zK _,λh=>by rw[h];rfl⟩
end
theorem jv:Slot "set_iterator" "__next__" "set_iterator.__next__":=
 .of (owner:="set_iterator") (n:="__next__") (by rw[typeLookup_type,builtinLookup_eq_fast];kernel_rfl) (by decide+kernel) (by decide+kernel) (by decide+kernel) (by first|exact .inl (by decide+kernel)|exact .inr (by decide+kernel)) (by rw[isSubtype_type];kernel_rfl)
theorem re:entryFor table "set_iterator.__next__"=Z Builtin.«set_iterator.__next__» :=entryFor_of_tree (by kernel_rfl)
theorem uT(x:dM):argsOk "set_iterator.__next__" ⟨[x],[]⟩:=by unfold argsOk;kernel_rfl
theorem uH:entryFor table "set.__iter__"=Z Builtin.«frozenset.__iter__» :=entryFor_alias (id':="frozenset.__iter__") (by kernel_rfl) O (by decide+kernel) (by kernel_rfl)
abbrev Hq(h:dY)(it a:dP)(f:dM)(i n ep:Nat):Prop:=h.get? it=Z {cls:=.type "set_iterator",dict:=Y,data:=.fields #[f,.int i 0,.ref a,.int n 0,.int ep 0],slots:= #[]}
noncomputable def l7(t:SetTable)(i:Nat):Nat:=match i with
 |0=>0
 |i+1=>t.place.getD i 0+1
inductive uU (w:dS)(h:dY)(a:dP)(es:Array (Int×dM))(ep:Nat)(t:SetTable):dM->Nat->List dM->Prop
 |txt (b:byT w=true) (i:Nat) (sl:Nat):uU w h a es ep t (.int sl 0) i ((pickOrder (w.params.setOrder a ep) es).toList.map (·.2))
 |drw (b:byT w=false) (d:(!t.plain&&decide (es.size>1))=true) (i:Nat) (tp:dP) (ps:List Nat) (e:h.get? tp=some {cls:=.type "tuple",data:=.seq (ps.map λj=>Value.int (j:Nat) 0).toArray}) (pm:ps.Perm (af es.size)):uU w h a es ep t (.ref tp) i (ps.map λj=>(es[j]?.map (·.2)).getD .none)
 |plc (b:byT w=false) (d:(!t.plain&&decide (es.size>1))=false) (ld:t.led=true) (up:v9 t.place) (i:Nat):uU w h a es ep t (.int (l7 t i) 0) i (es.toList.map (·.2))
theorem qi{α:Type}(f:Nat->Nat):∀(n k:Nat) (l:List α) (out:Array α),l.length=n->(pickOrder.go f n k l out).toList.Perm (out.toList++l)
 |0,k,l,out,h=>by
  rw[pickOrder.go,cu.mp h,aP]
 |n+1,k,l,out,h=>by
  have b:f k%l.length<l.length:=Nat.mod_lt _ (by lia);rw[pickOrder.go,gG1 b];refine(qi f n (k+1) _ _ (by rw[cK b];lia)).trans ?_;rw[cA,bc];refine List.Perm.append_left _ ?_;have c:l=l.take (f k%l.length)++l[f k%l.length]::l.drop (f k%l.length+1):=by rw[List.getElem_cons_drop,cM]
  rw[cN];refine List.Perm.trans ?_ (List.Perm.of_eq c.symm);exact(List.perm_middle (l₁:=l.take (f k%l.length)) (l₂:=l.drop (f k%l.length+1)) (a:=l[f k%l.length])).symm
theorem uU.perm{w:dS}{h:dY}{a:dP}{es:Array (Int×dM)}{ep:Nat}{t:SetTable}{f:dM}{i:Nat}{pl:List dM}(y:uU w h a es ep t f i pl):pl.Perm (es.toList.map (·.2)):=by
 cases y with
 |txt=>exact(qi _ _ _ _ _ O).map _
 |drw _ _ _ d ps e c=>
  refine(c.map _).trans ?_;have:(af es.size).map (λj=>(es[j]?.map (·.2)).getD .none)=es.toList.map (·.2):=by
   apply b7;intro j;rw[gP1,gP1,aT1 (xs:=es)];by_cases b:j<es.size
   ·rw[cO b,oP1,aG1 b];rfl
   ·rw[b8 (by simpa using b),cv (by lia)];rfl
  rw[this]
 |plc=>exact .refl _
theorem uU.len{w:dS}{h:dY}{a:dP}{es:Array (Int×dM)}{ep:Nat}{t:SetTable}{f:dM}{i:Nat}{pl:List dM}(y:uU w h a es ep t f i pl):pl.length=es.size:=by
 rw[y.perm.length_eq,lM1,aK]
section
variable{P:dQ}{w:dS}{A:dR}{E:dM->dN->Prop}{s:dN}{it a:dP}{f:dM}{i ep:Nat}{es:Array (Int×dM)}{t:SetTable}{pl:List dM}
theorem rH{Q:Bool->dN->Prop}(q:Q (byT w) s):dX (model P w) A setsByText Q E s:=by unfold setsByText;exact wB1 (wpAny_askSetting (wP1 q))
theorem zW{sl:Nat}{Q:Option (dM×Nat)->dN->Prop}(b:byT w=M)(ho:s.heap.get? a=Z (stO es ep t))(hf:t.fits es.size=M)(q:Q (((pickOrder (w.params.setOrder a ep) es)[i]?).map λe=>(e.2,sl)) s):dX (model P w) A (setNext a sl i ep) Q E s:=by
 unfold setNext;refine wB1 (wpAny_setState_of ho O hf (wB1 (rH ?_)));rw[b,ak O,aj (by simp)];refine wB1 ?_;unfold setWalk;refine wB1 (wpAny_setState_of ho O hf (wB1 (rH ?_)));rw[b,ak O];exact wB1 (wpAny_askSetting (wP1 (wP1 q)))
theorem D7(a:v9 t.place)(hi:i<=t.place.size):SetTable.below t.place (l7 t i)=i:=by
 cases i with
 |zero=>exact BJ a
 |succ j=>
  have b:j<t.place.size:=hi;show SetTable.below t.place (t.place.getD j 0+1)=j+1;rw[show t.place.getD j 0=t.place[j]from by simp[Array.getD,b]];exact D6 a b
theorem zX{Q:Option (dM×Nat)->dN->Prop}(b:byT w=J)(d:(!t.plain&&decide (es.size>1))=J)(h:t.led=M)(j:v9 t.place)(ho:s.heap.get? a=Z (stO es ep t))(hf:t.fits es.size=M)(hi:i<=es.size)(q:Q ((es[i]?).map λe=>(e.2,l7 t (i+1))) s):dX (model P w) A (setNext a (l7 t i) i ep) Q E s:=by
 have k:t.place.size=es.size:=by
  unfold SetTable.fits at hf;rw[bA1,beq_iff_eq]at hf;exact hf.1
 unfold setNext;refine wB1 (wpAny_setState_of ho O hf (wB1 (rH ?_)));rw[b,aj (by decide)];rw[aj (λz=>by have f:(!t.plain&&decide (es.size>1))=M:=z;rw[d]at f;cases f)];refine wB1 ?_;show dX _ _ (if(!t.led && !es.isEmpty)=M then _ else _) _ _ _;rw[aj (by rw[h];simp)];refine wP1 ?_;dsimp only;rw[D7 j (by omega)];by_cases c:i<es.size
 ·rw [aG1 c] at q ⊢;rw [aG1 (show i<t.place.size by omega)];have g:l7 t (i+1)=t.place[i]+1:=by
   show t.place.getD i 0+1=_;rw[show t.place.getD i 0=t.place[i]from by simp[Array.getD,show i<t.place.size by omega]]
  rw[g]at q;exact wP1 q
 ·rw[cv (by omega)]at q ⊢;exact wP1 q
theorem B9{Q:Option dM->dN->Prop}(k:Hq s.heap it a f i es.size ep)(ho:s.heap.get? a=Z (stO es ep t))(hf:t.fits es.size=M)(y:uU w s.heap a es ep t f i pl){x:dM}(hx:pl[i]? = Z x)(N:∀ g,f = .ref g->g≠it)(q:∀h' h,Hq h' it a h (i+1) es.size ep->(∀c o,c≠it->s.heap.get? c=Z o->h'.get? c=Z o)->uU w h' a es ep t h (i+1) pl->(∀g,h = .ref g->f = .ref g)->Q (Z x) {s with heap:=h'}):dX (model P w) A (pyNext (.ref it)) Q E s:=by
 have K:s.TypeIs (.ref it) "set_iterator":=⟨_,k,O⟩;unfold pyNext;refine wB1 (wpAny_attempt (wpAny_callSpecial?_slot (name:=Str.ofString "__next__") K jv (wE1 jv K re ?_ (uT _))));refine wB1 (wP1 (wB1 (wpAny_fieldsOf k O ?_)));dsimp only;refine wB1 (wpAny_setEntries_of ho O hf ?_);rw[aj (by simp)];have av:i<es.size:=by have:=(gE1.mp hx).1;rw[y.len]at this;exact this
 have two:∀ (h:dM),(∀ g,h = .ref g->f = .ref g)->(∀ h',(∀ c o,c≠it->s.heap.get? c=some o->h'.get? c=some o)->uU w h' a es ep t h (i+1) pl) ->
   dX (model P w) A.in1 (setField (.ref it) 0 h >>= fun _=>setField (.ref it) 1 (rawInt ((i:Int)+1)) >>= fun _=>ret x) (fun p s'=>∃ v,p=Fin.done (Flow.ret v)/\dX (model P w) A (pure (some v)) Q E s') (fun e s'=>dX (model P w) A (do
     let y<-isInstance e (.type "StopIteration")
     if y=M then pure Y else throw e) Q E s') s:=λh aq R=>by
  refine wB1 (wS1 k (by simp) λh1 L r=>wB1 (wS1 (s:={s with heap:=h1}) L (by simp) λh2 C l=>wP1 ⟨_,O,wP1 ?_⟩));have m:∀c o,c≠it->s.heap.get? c=Z o->h2.get? c=Z o:=λc o hc e=>l.extBut c o hc (r.extBut c o hc e);refine q h2 h ?_ m (R h2 m) aq;have e:((i+1:Nat):Int)=(i:Int)+1:=by lia
  unfold Hq;rw[e];simpa[rawInt]using C
 cases y with
 |txt b _ u=>
  refine wB1 (zW (i:=i) (sl:=u) (ep:=ep) b ho hf ?_);rw[gP1,aT1]at hx;obtain⟨e,D,rfl⟩:=oM1.mp hx;rw[D];exact two (.int u 0) (λg z=>by cases z) λh' _=>.txt b _ u
 |plc b d I ao _=>
  refine wB1 (zX (i:=i) b d I ao ho hf (by lia) ?_);rw[gP1,aT1]at hx;obtain⟨e,D,rfl⟩:=oM1.mp hx;rw[D];exact two (.int (l7 t (i+1)) 0) (λg z=>by cases z) λh' _=>.plc b d I ao _
 |drw b d _ g ps e F=>
  rw[gP1]at hx;obtain⟨j,G,rfl⟩:=oM1.mp hx;have n:j<es.size:=by have:=F.mem_iff.mp (gM1 G);simpa using this
  refine wB1 (wpAny_seqItems e O ?_);have B:((ps.map λj=>Value.int (j:Nat) 0).toArray)[((i:Int)).toNat]?=Z (.int (j:Nat) 0):=by
   rw[Int.toNat_natCast,cm,gP1,G];rfl
  dsimp only;rw[B];dsimp only;refine wB1 ?_;unfold setNextDrawn;refine wB1 (wpAny_setState_of ho O hf ?_);dsimp only;rw[aj (by simp),Int.toNat_natCast,aG1 n];refine wP1 (wB1 (wS1 k (by simp) λh2 C l=>wP1 ⟨_,O,wP1 ?_⟩));have m:∀c o,c≠it->s.heap.get? c=Z o->h2.get? c=Z o:=λc o hc e=>l.extBut c o hc e;have H:=q h2 (.ref g) ?_ m (.drw b d _ g ps (m g _ (N g O) e) F) λ_ z=>z
  ·rw[aG1 n]at H;exact H
  ·have e:((i+1:Nat):Int)=(i:Int)+1:=by lia
   unfold Hq;rw[e];simpa[rawInt]using C
theorem vl{Q:Option dM->dN->Prop}{G:Fin->dN->Prop}(d:A.handled=none)(q:∀ h',(∀ c o,s.heap.get? c=some o->h'.get? c=some o)->Q none {s with heap:=h'}):
  dX (model P w) A.in1 (newExc (.type "StopIteration") [] >>= fun e=>raiseNew e) G (fun e s'=>dX (model P w) A (do
     let y<-isInstance e (.type "StopIteration")
     if y=M then pure Y else throw e) Q E s') s:=by
 refine wB1 ?_;simp only[newExc,newTuple];refine wB1 (wO1 ?_ (by size_fits));refine wB1 (m:=firstArgMember _ _) (wpAny_of_eq (a:=Value.none) (by first|rfl|(simp only[firstArgMember];rfl)) ?_);refine wO1 ?_ (by size_fits);simp only[raiseNew];refine wB1 (wpAny_handled ?_);rw[show A.in1.handled=Y from d];refine wB1 (wP1 (wpAny_throw (?_:_)));refine wB1 (wpAny_isInstance (b:=M) (T:="StopIteration") ⟨_,hS1 _ O,O⟩ isSubtype_stop (?_:_));exact wP1 (q _ λb o e=>hP1 _ (hP1 _ e))
theorem EN{Q:Option dM->dN->Prop}(n:A.handled=Y)(g:Hq s.heap it a f es.size es.size ep)(ho:s.heap.get? a=Z (stO es ep t))(hf:t.fits es.size=M)(y:uU w s.heap a es ep t f es.size pl)(q:∀h',(∀c o,c≠it->s.heap.get? c=Z o->h'.get? c=Z o)->Q Y {s with heap:=h'}):dX (model P w) A (pyNext (.ref it)) Q E s:=by
 have u:s.TypeIs (.ref it) "set_iterator":=⟨_,g,O⟩;unfold pyNext;refine wB1 (wpAny_attempt (wpAny_callSpecial?_slot (name:=Str.ofString "__next__") u jv (wE1 jv u re ?_ (uT _))));refine wB1 (wP1 (wB1 (wpAny_fieldsOf g O ?_)));dsimp only;refine wB1 (wpAny_setEntries_of ho O hf ?_);rw[aj (by simp)];have l:=y.len;cases y with
 |txt b _ z=>
  refine wB1 (zW (i:=es.size) (sl:=z) (ep:=ep) b ho hf ?_);rw[cv (by rw[lM1,aK]at l;lia)];refine wB1 (wS1 g (by simp) λh1 m h=>?_);exact vl (s:={s with heap:=h1}) n λh' k=>q h' λc o hc e=>k c o (h.extBut c o hc e)
 |plc b d v x _=>
  refine wB1 (zX (i:=es.size) (ep:=ep) b d v x ho hf (nR1 _) ?_);rw[cv (nR1 _)];refine wB1 (wS1 g (by simp) λh1 m h=>?_);exact vl (s:={s with heap:=h1}) n λh' k=>q h' λc o hc e=>k c o (h.extBut c o hc e)
 |drw b d _ D ps e B=>
  refine wB1 (wpAny_seqItems e O ?_);have r:((ps.map λj=>Value.int (j:Nat) 0).toArray)[((es.size:Int)).toNat]?=Y:=by
   rw[Int.toNat_natCast,cm,b8 (by rw[lM1]at l ⊢;lia)]
  dsimp only;rw[r];dsimp only;refine wB1 (wS1 g (by simp) λh1 m h=>?_);refine wB1 (wS1 (s:={s with heap:=h1}) m (by simp) λh2 C p=>?_);exact vl (s:={s with heap:=h2}) n λh' k=>q h' λc o hc e=>k c o (p.extBut c o hc (h.extBut c o hc e))
theorem BE{b:Source}{n:Nat}{Q:Nat->dN->Prop}(hn:n≠0)(q:∀i c,i<n->Q i {s with drawn:=c}):dX (model P w) A (choose b n) Q E s:=fun Γ p a=>by
 unfold choose;rw[Sem.wp_choose];refine⟨hn,?_⟩;exact wP1 (A:=A) (E:=E) (q _ _ (Nat.mod_lt _ (Nat.pos_of_ne_zero hn))) Γ p a
theorem Bw{α:Type}:∀(n:Nat) (xs:List α) (s:dN) (Q:List α->dN->Prop),xs.length=n->(∀ys b,ys.Perm xs->Q ys {s with drawn:=b})->dX (model P w) A (drawOrder n xs) Q E s
 |0,xs,s,Q,h,q=>by
  have:=cu.mp h;subst this;exact wP1 (q [] s.drawn (.refl _))
 |n+1,[],s,Q,h,q=>by simp at h
 |n+1,x::xs,s,Q,h,q=>by
  rw[drawOrder];refine wB1 (BE (by simp) λi b hi=>?_);rw[gG1 hi];dsimp only;refine wB1 (Bw n _ _ _ (by rw[cK hi];lia) λys a c=>wP1 (q _ a ?_));refine(c.cons _).trans ?_;have d:x::xs=(x::xs).take i++(x::xs)[i]::(x::xs).drop (i+1):=by rw[List.getElem_cons_drop,cM]
  rw[cN];refine List.Perm.trans ?_ (List.Perm.of_eq d.symm);exact List.perm_middle.symm
  all_goals simp
theorem Cb{l:Bool}{Q:dM->dN->Prop}(ho:s.heap.get? a=some (stO es ep t))(hf:t.fits es.size=true)(G:es.size<scanBound)(B:TS l t)(H:byT w=false->l=true)(q:∀it h' h f pl,(∀c o,s.heap.get? c=some o->h'.get? c=some o)->s.heap.objs.size<=it->Hq h' it a f 0 es.size ep->uU w h' a es ep t f 0 pl->(∀b,f = .ref b->b≠it/\s.heap.objs.size<=b)->Q (.ref it) {s with heap:=h',drawn:=h}):
  dX (model P w) A (pyIter (.ref a)) Q E s:=by
 have C:s.TypeIs (.ref a) "set":=⟨_,ho,rfl⟩;refine wpAny_pyIter_slot C PySem.F.slot_set_iter (wE1 PySem.F.slot_set_iter C uH ?_ (PySem.F.args_set_iter_1 _));unfold Builtin.«frozenset.__iter__»;refine wB1 (m:=Builtin.Frozenset.slot0 _ _) (wP1 ?_);unfold Builtin.Frozenset.sizeOf;refine wB1 (wB1 (wpAny_setEntries_of ho rfl hf (wP1 ?_)));unfold setDrawn;refine wB1 (wB1 (wpAny_setState_of ho rfl hf (wB1 (rH (wP1 ?_)))));show dX _ _ (if (!byT w&&(!t.plain&&decide (es.size>1)))=true then _ else _) _ _ _;have d:∀ (h1:dY) (h:Drawn) (f:dM) (pl:List dM),(∀ c o,s.heap.get? c=some o->h1.get? c=some o)->s.heap.objs.size<=h1.objs.size->(∀ b,f = .ref b->b<h1.objs.size/\s.heap.objs.size<=b)->(∀ h',(∀ c o,h1.get? c=some o->h'.get? c=some o)->uU w h' a es ep t f 0 pl) ->
   dX (model P w) A.in1 (setEpoch a >>= λe=>newFields "set_iterator" [f,rawInt 0,.ref a,rawInt es.size,rawInt e] >>= λr=>ret r) (λd s'=>∃r,d=Fin.done (Flow.ret r) /\ ∃T g,s'.TypeIs r T/\typeLookup (.type T) "__next__"=pure (Z g)/\Q r s') E {s with heap:=h1,drawn:=h}:=by
  intro h1 h f pl D x u F;refine wB1 (wpAny_setEpoch_of (D a _ ho) O hf (wB1 (wO1 (wP1 ⟨_,O,"set_iterator",_,⟨_,hS1 _ O,O⟩,jv.lookup,?_⟩) (by size_fits))));refine q h1.objs.size _ h f pl (λc o e=>hP1 _ (D c o e)) x ?_ (F _ λc o e=>hP1 _ e) λb e=>⟨nN1 (u b e).1,(u b e).2⟩;have:=hS1 h1 (o:={cls:=.type "set_iterator",data:=.fields #[f,.int 0 0,.ref a,.int es.size 0,.int ep 0]}) O;exact this
 by_cases n:byT w=M
 ·rw[aj (by rw[n];simp)];refine wB1 (wP1 ?_);exact d s.heap s.drawn _ _ (λ_ _ e=>e) (nR1 _) (λb z=>by cases z) λh' _=>.txt n 0 0
 ·have n:byT w=J:=by simpa using n
  by_cases p:(!t.plain&&decide (es.size>1))=M
  ·rw[ak (by rw[n,p];rfl)];refine wB1 (Bw es.size (af es.size) s _ (by simp) λys h y=>?_);refine wB1 (m:=newTuple _) (wO1 (s:={s with drawn:=h}) ?_ ?_)
   ·refine d (s.heap.push {cls:=.type "tuple",data:=.seq (ys.map λ(i:Nat)=>rawInt i).toArray}) h (.ref s.heap.objs.size) (ys.map λj=>(es[j]?.map (·.2)).getD .none) (λc o e=>hP1 _ e) (by rw[hZ1];exact a0 _) (λb z=>by cases z;exact⟨by rw[hZ1];exact bJ _,nR1 _⟩) λh' k=>?_;exact .drw n p 0 _ ys (k _ _ (hS1 _ O)) y
   ·have:=y.length_eq;have v:=fits_of_scanBound G;simp[sizeOk,this,v]
  ·have p:(!t.plain&&decide (es.size>1))=J:=by simpa using p
   rw[aj (by rw[p];simp)];refine wB1 (wP1 ?_);exact d s.heap s.drawn _ _ (λ_ _ e=>e) (nR1 _) (λb z=>by cases z) λh' _=>.plc n p (by rw[B.ld];exact H n) B.up 0
end
theorem uU.keep{w:dS}{h h':dY}{a:dP}{es:Array (Int×dM)}{ep:Nat}{t:SetTable}{f:dM}{i:Nat}{pl:List dM}(y:uU w h a es ep t f i pl)(k:∀c o,f = .ref c->h.get? c=Z o->h'.get? c=Z o):uU w h' a es ep t f i pl:=by
 cases y with
 |txt b _ m=>exact .txt b _ m
 |drw b d _ c ps e g=>exact .drw b d _ c ps (k c _ O e) g
 |plc b d j l _=>exact .plc b d j l _
section
variable{P:dQ}{w:dS}{A:dR}{E:dM->dN->Prop}
theorem Ca{it a S:dP}{ep:Nat}{es:Array (Int×dM)}{t:SetTable}{pl:List dM}{v:dM}{R:Result->dN->Prop}(T:A.handled=none)(hf:t.fits es.size=true)(h1:it≠a)(h2:S≠a)(F:S≠it)(hn:es.size<=dW):
  ∀(k i:Nat) (s:dN) (f:dM) (acc:Array dM) (c:Nat),es.size-i=k->i<=es.size->Hq s.heap it a f i es.size ep->s.heap.get? a=Z (stO es ep t)->uU w s.heap a es ep t f i pl->(∀g,f = .ref g->g≠it/\g≠S) ->
  s.heap.get? S=Z {cls:=.type "list",dict:=Y,data:=.seq acc c,slots:= #[]}->acc.toList=pl.take i ->
  (∀h' d K,(∀b u,b≠it->b≠S->s.heap.get? b=Z u->h'.get? b=Z u)->h'.get? S=Z {cls:=.type "list",dict:=Y,data:=.seq d K,slots:= #[]}->d.toList=pl->R (.ok (.ret v)) {s with heap:=h'}) ->
  codeAny (model P w) A (.builtin "list.extend.loop" ⟨[.ref S,.ref it,v],[]⟩) R s:=by
 intro k
 induction k with
 |zero=>
  intro i s f acc c Q hi m D y E aq C G;have e:i=es.size:=by lia
  subst e;have j:=y.len;refine wD1 PySem.F.entry_extend_loop (?_:_);rw[Around.under_plainId PySem.F.plain_extend_loop _];show dX _ A.in1 (pyNext (.ref it) >>= _) _ _ s;refine wB1 (EN T m D hf y λh' keep=>wP1 ?_);exact G h' acc c (λb u n _ e=>keep b u n e) (keep S _ F aq) (by rw[C,<- j,cg])
 |succ k ih=>
  intro i s f acc c Q hi m D y E aq C G;have ao:i<es.size:=by lia
  have j:=y.len;obtain⟨x,av⟩:∃x,pl[i]?=some x:=⟨_,gG1 (by lia)⟩;have z:acc.size=i:=by rw[<- aK,C,aT];lia
  refine wD1 PySem.F.entry_extend_loop (?_:_);rw[Around.under_plainId PySem.F.plain_extend_loop _];show dX _ A.in1 (pyNext (.ref it) >>= _) _ _ s;refine wB1 (B9 m D hf y av (λg e=>(E g e).1) λh' U r keep V N=>?_);have B:=keep S _ F aq;show dX _ A.in1 (updateSeq S (·.push x) >>= _) _ _ _;refine wB1 (wpAny_updateSeq (s:={s with heap:=h'}) B O ?_ (by rw[z];lia) (by show(acc.push _).size<=dW+1;rw[Array.size_push,z];lia));have h:∀b u,b≠S->h'.get? b=Z u->(h'.update S (Obj.mapSeq (·.push x))).get? b=Z u:=λb u n e=>by rw[hU1 _ _ _ _ n];exact e
  refine wP1 ⟨plainId_quiet PySem.F.plain_extend_loop _,ih (i+1) {s with heap:=h'.update S (Obj.mapSeq (·.push x))} U (acc.push x) _ (by lia) ao (h it _ (Ne.symm F) r) (h a _ (Ne.symm h2) (keep a _ (Ne.symm h1) D)) (V.keep λg o e q=>h g o (E g (N g e)).2 q) (λg e=>E g (N g e)) (hW1 _ B O) ?_ ?_⟩
  ·rw[cA,C,cH,av];rfl
  ·intro L d K l I H;exact G L d K (λb u n p e=>l b u n p (h b u p (keep b u n e))) I H
theorem z7:typeLookup (.type "set") "__len__"=pure (Z (.builtin "set.__len__")):=by rw[typeLookup_type,builtinLookup_eq_fast];kernel_rfl
theorem Cc {s:dN}{v:dP}{Q:Bool->dN->Prop}(c:s.TypeIs (.ref v) "set")(q:Q J s):dX (model P w) A (Builtin.List.listLengthHint (.ref v)) Q E s:=by
 unfold Builtin.List.listLengthHint;refine wB1 (wpAny_specialOf c z7 (?_:_));generalize a:("set.__len__":String)=id0
 wp_delta
 rw[show splitId id0=Z ("set","__len__")from by subst a;decide+kernel];subst a;refine wB1 (wpAny_isInstance (b:=M) c (by rw[isSubtype_type];kernel_rfl) (?_:_));rw[aj (by decide)];dsimp only;rw[ak (by decide+kernel)];exact wB1 (wpAny_typeOf c (wP1 q))
theorem ve{s:dN}{a:dP}{ns:List Int}{Q:List dM->dN->Prop}(au:A.handled=Y)(hx:jO (byT w) a ns s.heap)(q:∀h' p vs S,(∀b u,s.heap.get? b=Z u->h'.get? b=Z u)->s.heap.objs.size<=h'.objs.size->IntsAre vs S->S.Perm ns->Q vs {s with heap:=h',drawn:=p}):dX (model P w) A (collect (.ref a)) Q E s:=by
 obtain⟨es,ep,t,l,F,R,N,av,wq,W⟩:=hx;have m:a<s.heap.objs.size:=hL1 F;unfold collect;refine wB1 (wpAny_runValue (wD1 PySem.F.entry_proto_collect (?_:_)));rw[Around.under_plainId PySem.F.plain_proto_collect _];show dX _ A.in1 (newList [] >>= λl=>again (.builtin "list.__iadd__" ⟨[l,.ref a],[]⟩)) _ _ s;refine wB1 (wO1 (?_:_));refine wP1 ⟨plainId_quiet PySem.F.plain_list_iadd _,wD1 PySem.F.entry_list_iadd (?_:_)⟩;rw[Around.under_plainId PySem.F.plain_list_iadd _];have r:(s.heap.push {cls:=.type "list",data:=.seq ([]:List dM).toArray}).get? s.heap.objs.size=Z {cls:=.type "list",data:=.seq ([]:List dM).toArray}:=hS1 _ O;have g:∀b u,s.heap.get? b=Z u->(s.heap.push {cls:=.type "list",data:=.seq ([]:List dM).toArray}).get? b=Z u:=λb u e=>hP1 _ e;have x:(s.heap.push {cls:=.type "list",data:=.seq ([]:List dM).toArray}).objs.size=s.heap.objs.size+1:=by rw[hZ1]
 have K:s.heap.objs.size≠a:=nG1 m;have h1:Builtin.List.listSameRef (.ref s.heap.objs.size) (.ref a)=J:=by simp[Builtin.List.listSameRef,K]
 show dX _ A.in1 (Builtin.List.listExtendWith (.ref s.heap.objs.size) (.ref a) (.ref s.heap.objs.size)) _ _ {s with heap:=s.heap.push {cls:=.type "list",data:=.seq ([]:List dM).toArray}};generalize s.heap.push {cls:=.type "list",data:=.seq ([]:List dM).toArray}=h₁ at *
 unfold Builtin.List.listExtendWith;refine wB1 (wpAny_typeOf (T:="set") ⟨_,g a _ F,O⟩ ?_);rw[aj (by rw[h1];decide)];refine wB1 (Cb (s:={s with heap:=h₁}) (g a _ F) av N wq W λit c p f pl h d L y G=>?_);dsimp only at h d G;have j:=h _ _ r;have B:Shared.TypeIs {s with heap:=c,drawn:=p} (.ref a) "set":=⟨_,h _ _ (g a _ F),O⟩;refine wB1 (wpAny_holding (Cc B ?_));rw[ak (by decide+kernel)];refine wB1 (wpAny_rule (wB1 ?_));show dX _ A.in1 (updateSeq s.heap.objs.size (·.push .none) >>= λ_=>updateSeq s.heap.objs.size (·.pop)) _ _ _;refine wB1 (wpAny_updateSeq (s:={s with heap:=c,drawn:=p}) j O ?_);have i:=hW1 (Obj.mapSeq (·.push Value.none)) j O;refine wpAny_updateSeq (s:={s with heap:=c.update s.heap.objs.size (Obj.mapSeq (·.push Value.none)),drawn:=p}) i O ?_;have z:=hW1 (Obj.mapSeq (·.pop)) i O;have n:∀b u,b≠s.heap.objs.size->c.get? b=Z u->((c.update s.heap.objs.size (Obj.mapSeq (·.push Value.none))).update s.heap.objs.size (Obj.mapSeq (·.pop))).get? b=Z u:=λb u C e=>by
  rw[hU1 _ _ _ _ C,hU1 _ _ _ _ C];exact e
 rw[x]at d G;have aq:=y.perm;refine wP1 ⟨plainId_quiet PySem.F.plain_extend_loop _,Ca (it:=it) (pl:=pl) au av (nG1 (bq m d)) (nG1 m) (nN1 d) (fits_of_scanBound N) es.size 0
  {s with heap:=(c.update s.heap.objs.size (Obj.mapSeq (·.push Value.none))).update s.heap.objs.size (Obj.mapSeq (·.pop)),drawn:=p} f _ _ O (br _) (n _ _ (nG1 d) L) (n a _ (nN1 m) (h _ _ (g a _ F))) (y.keep λD o e q=>n D o (nG1 (G D e).2) q) (λD e=>⟨(G D e).1,nG1 (G D e).2⟩) z O λh' I c' keep H U=>?_⟩
 show dX _ A (load s.heap.objs.size >>= _) _ _ {s with heap:=h',drawn:=p};refine wB1 (wpAny_load H ?_);have X:∀v∈pl,∃k t,v=Value.int k t:=λv ao=>by
  obtain⟨e,he,rfl⟩:=cj.mp (aq.mem_iff.mp ao);obtain⟨k,t,rfl⟩:=R.el e he;exact⟨k,t,O⟩
 have all:∀vs:List dM,(∀v∈vs,∃k t,v=Value.int k t)->IntsAre vs (vs.map λv=>Kz (0,v)):=by
  intro vs
  induction vs with
  |nil=>intro _;exact .nil
  |cons v vs ih=>
   intro ao;obtain⟨k,t,rfl⟩:=ao v mS1;exact .cons k t (ih λu V=>ao u (mC1 _ V))
 refine wP1 (q h' p I.toList (pl.map λv=>Kz (0,v)) (λb u e=>?_) (aE (hL1 H)) (by rw[U];exact all pl X) ?_)
 ·have C:=hL1 e;exact keep b u (nN1 (bq C d)) (nN1 C) (n b u (nN1 C) (h _ _ (g b u e)))
 ·refine(aq.map _).trans ?_;rw[bD];exact R.pm
theorem tH {s:dN}{a:dP}{ns:List Int}{Q:dM->dN->Prop}(o:A.handled=none)(hx:jO (byT w) a ns s.heap)(i:ns.length<64)
  (q:∀h' d L n out,(∀b u,s.heap.get? b=Z u->h'.get? b=Z u)->s.heap.objs.size<=L->h'.get? L=Z (seqObj "list" out n)->IntsAre out.toList (kN ns)->Q (.ref L) {s with heap:=h',drawn:=d}):
  dX (model P w) A (call (.builtin "sorted") [.ref a]) Q E s:=by
 refine Calls.call_function_entry kind_sorted plain_sorted entry_sorted (args_sorted1 _) (?_:_);unfold Builtin.«sorted»;refine wB1 (m:=checkCount "sorted" 1 1 _) (wP1 (wB1 (ve o hx λh' d vs t keep p l k=>?_)));have f:vs.length<64:=by rw[l.length,k.length_eq];exact i
 refine wB1 (wpAny_newList (hsz:=by rw[sizeLine_eq];lia) ?_);have c:(h'.push (seqObj "list" vs.toArray 0)).get? h'.objs.size=Z (seqObj "list" vs.toArray 0):=hS1 _ O;show dX _ _ _ _ _ {s with heap:=h'.push (seqObj "list" vs.toArray 0),drawn:=d};refine wB1 (wpAny_holding (wE1 slot_list_sort ⟨_,c,O⟩ entry_list_sort (list_sort_tree (s:={s with heap:=h'.push (seqObj "list" vs.toArray 0),drawn:=d}) c l f λout h a1 a2 a3=>⟨_,O,?_⟩) (args_list_sort _)));have r:h=kN ns:=rX (a2.trans (k.trans (i5 ns).symm)) a3 (nY ns);subst r;obtain⟨n,j⟩:=sortedHeap_at (out:=out) c;refine wP1 ⟨_,O,q _ d h'.objs.size n out (λb u e=>?_) p j a1⟩;have g:=keep b u e;show(sortedHeap (h'.push (seqObj "list" vs.toArray 0)) h'.objs.size vs out).get? b=Z u;rw[sortedHeap_old (nN1 (hL1 g)) (by rw[hZ1];exact cJ (hL1 g))];exact hP1 _ g
end
def jF:G1:=λd S=>match et S d with
 |some (M,xs)=>(mo xs).bind λns=>if ns.length<64 then Z (.ref S.length,S++[.lst ((kN (ddI ns)).map D.int)])else Y
 |_=>Y
def Ia(X:Cx)(vs:List V)(H:Hp)(Q:VK):Prop:=∃a xs ns,vs=[.ref a]/\nL X.K H a xs/\(∀us,eI xs us->IntsAre us ns)/\ns.length+1<scanBound /\ ∀p,H p=Y->Q (.ref p) (upd H p (.ext (jO (byT X.w) p (ddI ns))))
def Fn(X:Cx)(vs:List V)(H:Hp)(Q:VK):Prop:=∃a ns,vs=[.ref a]/\H a=Z (.ext (jO (byT X.w) a ns))/\ns.length<64 /\ ∀p,H p=Y->Q (.ref p) (upd H p (.lst ((kN ns).map V.int)))
theorem yG{ag:List (dP×Obj)}{σ:L2.St}{H:Hp}{s:dN}(I:Inv X ag σ H s)(d:Drawn):Inv X ag σ H {s with drawn:=d}:=⟨I.ok,I.os,I.bare,I.base,I.loc,I.cell,I.free,I.freeC,I.pin,I.hok,I.len⟩
theorem Hd(hc:X.calm=M):fH X (.type "set") (Ia X):=by
 intro ag s σ H xs m Q I r h;obtain⟨a,vs,ns,rfl,g,hi,f,q⟩:=h;obtain⟨u,rfl,r2⟩:=jr r;cases r2;obtain⟨c,j,p,n⟩:=I.list g;have i:=hi c j;refine ze (I.ok.hd hc) p.isList (by simpa using i) f λh' tk keep d=>?_;have b:=I.hok.fresh (nR1 s.heap.objs.size);refine⟨.ref s.heap.objs.size,_,I.laid (t':=tk) (o:=.ext (jO (byT X.w) s.heap.objs.size (ddI ns))) keep (nR1 _) ⟨d,?_,λh1 h2 x k=>x.old k⟩,O,q _ b⟩;obtain⟨es,ep,t,l,e,_⟩:=d;exact⟨_,e⟩
theorem D2(hc:X.calm=M):fH X (.builtin "sorted") (Fn X):=by
 intro ag s σ H xs k Q I r h;obtain⟨a,ns,rfl,f,g,q⟩:=h;obtain⟨u,rfl,r2⟩:=jr r;cases r2;obtain⟨j,_⟩:=(show eY X.prog X.w H s.heap a (.ext (jO (byT X.w) a ns))from I.hok a _ f);refine tH (I.ok.hd hc) j g λh' e L n out keep d c i=>?_;have b:=I.hok.fresh d;refine⟨.ref L,_,yG (I.laid (t':=s.toks) (o:=.lst ((kN ns).map V.int)) keep d ⟨?_,out.toList,n,yI i,by rw[Array.toArray_toList];exact c⟩) e,O,q _ b⟩;rw[lM1,(i5 ns).length_eq,sizeLine_eq];lia
theorem Jj(ns:List Int):(ddI ns).length<=ns.length:=by
 have:=oQ ns [];unfold ddI;simpa using this
theorem xY (hc:X.calm=true){o:Expr}{m:FE}{p p2 pos b:Pos}(hg:Gl X "sorted")(hm:X.mg "sorted"=none)(hg2:Gl X "set")(hm2:X.mg "set"=none)(ho:XE X o m)
  (he:autoParam (dV [.Call (.Name "set" p2) [o] [] b] X.env=[(J,eval (.Call (.Name "set" p2) [o] [] b) X.env)]) au0) (e:autoParam (dV [o] X.env=[(J,eval o X.env)]) au0):XE X (.Call (.Name "sorted" p) [.Call (.Name "set" p2) [o] [] b] [] pos) (mN (b1 jF) (d4 m d5)):=
 ⟨fE (ow (D2 hc) hg hm (by decide+kernel) (jU (me (Hd hc) hg2 hm2 (by decide+kernel) (jU ho.h oy e) (he:=e)) oy he) (he:=he)) <| by
  rintro σ H Q ⟨r,mu,S,d,C,he,l,hm,g⟩;obtain⟨⟨ds,D⟩,f,hm⟩:=oB1.mp hm;obtain⟨⟨B,F⟩,s,f⟩:=oB1.mp f;cases f;dsimp only[b1,jF]at hm;split at hm
  ·rename_i xs n;obtain⟨ns,z,hm⟩:=oB1.mp hm;split at hm
   ·rename_i i;cases hm;refine⟨r,mu,S,B,_,he,l,s,λv H1 mu1 x y k=>?_⟩;obtain⟨a,vs,rfl,q,t⟩:=eB y k n;refine⟨a,vs,ns,O,q,λE A=>(yJ t A z).1,bq (Nat.succ_lt_succ i) (by decide),λp h=>?_⟩;refine⟨p,ddI ns,O,eF,bN (Jj ns) i,λp2 c=>?_⟩;have w:Ext mu1 mu1 H1 (upd H1 p (.ext (jO (byT X.w) p (ddI ns)))):=Ext.fresh h;have j:=k.fresh (u:=.ext (jO (byT X.w) p (ddI ns))) h;exact g _ _ (mu1++[p2]) (x.trans (w.trans (Ext.new_ c))) (.ref (gZ j.len _)) (j.newL (l9 _) c)
   ·cases hm
  ·cases hm⟩
section
variable{ag:List (dP×Obj)}{σ:L2.St}{H:Hp}{s:dN}{a:dP}{kvs:List (Key×V)}{k:Key}{v:V}{u r:dM}{A:dR}{E:dM->dN->Prop}
end
open AutoSeq1 (wpAny_loadPart')
section
variable{P:dQ}{w:dS}{A:dR}{E:dM->dN->Prop}{s:dN}
end
section
variable{a b:Expr}{rest:List Expr}{pos:Pos}{ta tb:TE}{f g:FE}
end
def Ez:G1:=λd S=>match d with
 | .ref n=>match S[n]? with
  |some (.dct kvs)=>Z (.int kvs.length,S)
  |_=>fc d S
 |_=>fc d S
section
variable{P:dQ}{w:dS}{A:dR}{E:dM->dN->Prop}{b:Bool}
end
theorem vM:∀{a:List dM} {ns:List Int},IntsAre a ns -> ∃xs:Array (Int×Tok),a.toArray=intItems xs/\xs.toList.map (·.1)=ns:=by
 intro a ns h
 induction h with
 |nil=>exact⟨#[],by simp[intItems],O⟩
 |cons n t _ ih=>
  obtain⟨xs,d,c⟩:=ih;refine⟨((n,t)::xs.toList).toArray,?_,by rw[mP1,c]⟩;have b:=congrArg Array.toList d;unfold intItems at b ⊢;rw[Array.toList_map]at b;rw[List.map_toArray,mP1]
  congr 1
  rw[<- b]
noncomputable def vF:List Int->Int
 |[]=>0
 |[x]=>x
 |x::y::l=>let m:=vF (y::l);if x<m then m else x
noncomputable def pJ:List Int->Int
 |[]=>0
 |[x]=>x
 |x::y::l=>let m:=pJ (y::l);if m<x then m else x
theorem Dc:∀{l:List Int},l≠[]->vF l∈l /\ ∀a∈l,a<=vF l
 |[],h=>(h O).elim
 |[x],_=>⟨by simp[vF],λa h=>by simp at h;subst h;simp[vF]⟩
 |x::y::l,_=>by
  obtain⟨h1,h2⟩:=Dc (l:=y::l) (by simp);rw[vF];split
  ·refine⟨mC1 _ h1,λa b=>?_⟩;rcases aG.mp b with rfl|b
   ·lia
   ·exact h2 a b
  ·refine⟨mS1,λa b=>?_⟩;rcases aG.mp b with rfl|b
   ·exact Int.le_refl _
   ·have:=h2 a b;lia
theorem sB:∀{l:List Int},l≠[]->pJ l∈l /\ ∀a∈l,pJ l<=a
 |[],h=>(h O).elim
 |[x],_=>⟨by simp[pJ],λa h=>by simp at h;subst h;simp[pJ]⟩
 |x::y::l,_=>by
  obtain⟨h1,h2⟩:=sB (l:=y::l) (by simp);rw[pJ];split
  ·refine⟨mC1 _ h1,λa b=>?_⟩;rcases aG.mp b with rfl|b
   ·lia
   ·exact h2 a b
  ·refine⟨mS1,λa b=>?_⟩;rcases aG.mp b with rfl|b
   ·exact Int.le_refl _
   ·have:=h2 a b;lia
theorem CT{xs:Array (Int×Tok)}{ns:List Int}(e:xs.toList.map (·.1)=ns){j:Nat}(a:j<ns.length):numAt xs j∈ns:=by
 rw[numAt_eq,e,bP,gG1 a];exact bY a
theorem C9{xs:Array (Int×Tok)}{ns:List Int}(e:xs.toList.map (·.1)=ns){a:Int}(h:a∈ns):∃j,j<ns.length/\numAt xs j=a:=by
 obtain⟨j,b,rfl⟩:=List.getElem_of_mem h;exact⟨j,b,by rw[numAt_eq,e,bP,gG1 b];rfl⟩
def Lg:G1:=λd S=>match et S d with
 |some (M,xs)=>(qC xs).bind λns=>if ns=[]then Y else Z (.int (vF ns),S)
 |_=>Y
def uB:G1:=λd S=>match et S d with
 |some (M,xs)=>(qC xs).bind λns=>if ns=[]then Y else Z (.int (pJ ns),S)
 |_=>Y
theorem He(e:X.calm=M):fH X (.builtin "min") (rN X.K (b1 uB)):=by
 intro ag s σ H xs aq Q I r h;obtain⟨x,mu,S,d,K,L,rfl,p,g,b,hc⟩:=Ep h;unfold uB at b;split at b
 ·rename_i ds n;obtain⟨ns,C,b⟩:=oB1.mp b;split at b
  ·cases b
  ·rename_i c;cases b;obtain⟨a,vs,rfl,q,t⟩:=eB p g n;obtain⟨u,rfl,r2⟩:=jr r;cases r2;obtain⟨E,m,B,N⟩:=I.list q;have l:=yH t m C;obtain⟨xs,o,f⟩:=vM l;have k:xs.size=ns.length:=by rw[<- aK,<- f,lM1]
   have F:0<ns.length:=cP.mpr c;refine min_intList (I.ok.hd e) (by rw[<- o];exact B.isList) (by lia) λv h' tk A keep=>?_;obtain⟨w,rfl⟩:=intItems_at A;obtain⟨G,D⟩:=argBest_lt (numAt xs) (xs.size-1);have y:numAt xs (argBest (λi j=>decide (numAt xs i<numAt xs j)) (xs.size-1))=pJ ns:=by
    obtain⟨m1,m2⟩:=sB c;obtain⟨j,ao,z⟩:=C9 f m1;have h1:=D j (by lia);have h2:=m2 _ (CT f (j:=argBest (λi j=>decide (numAt xs i<numAt xs j)) (xs.size-1)) (by lia));rw[z]at h1;exact Int.le_antisymm h1 h2
   rw[y];exact⟨.int (pJ ns),H,I.kept keep,⟨_,O⟩,hc.now (.int _) g⟩
 ·cases b
theorem GJ{a b:dP}{k l:Int}{t u:Tok}{f zs:List dM}{Q:Bool->dN->Prop}(ha:IsTup s.heap a (Value.int k t::f).toArray)(hb:IsTup s.heap b (Value.int l u::zs).toArray)(c:k≠l)(h:Q (decide (k<l)) s):
  dX (model prog w) A (keyLt' (tuples' M) (.ref a) (.ref b)) Q E s:=by
 rw[jf];obtain⟨o,d,n,_,g⟩:=ha;obtain⟨m,i,j,_,e⟩:=hb;refine wB1 (listItems_at d g (wB1 (listItems_at i e ?_)));rw[bZ,bQ,bL];refine wB1 (wB1 ?_);dsimp only;refine wB1 (wpAny_eqBool_int ?_);rw[beq_false_of_ne c];simp only[cp,if_true];exact wB1 (oneLt_int (wP1 (wP1 (wP1 h))))
theorem GL{vs:List dM}{Q:SortKind->dN->Prop}(d:vs≠[])(h:∀ v∈vs,∃ a k t ps,v = .ref a/\IsTup s.heap a (Value.int k t::ps).toArray)(q:Q (tuples' true) s):
  dX (model prog w) A (keyKind' vs.toArray) Q E s:=by
 rw[keyKind'_eq,cq,<- bind_pure_comp];refine wB1 (wB1 (lj (P:=λ_ r=>∃k t,r=Z (Value.int k t)) (λv j=>?_) λrs D g=>wP1 ?_))
 ·obtain⟨a,k,t,ps,rfl,⟨o,l,C,_,F⟩⟩:=h v j;refine⟨Z (.int k t),⟨k,t,O⟩,λQ q=>?_⟩;rw[uE];refine wB1 (wpAny_typeOf (T:="tuple") ⟨o,l,C⟩ ?_);rw[aj (by decide)];refine wB1 (listItems_at l F (wP1 ?_));simpa using q
 ·have p:rs.toArray.all (·.isSome)=true:=by
   rw[cr,bI];intro r f;obtain⟨v,_,k,t,e⟩:=g r f;rw[e];rfl
  rw[ak p];refine wB1 (wpAny_rule ?_);rw[oneTypeOnly'_eq];have y:rs.toArray.filterMap id=(rs.filterMap id).toArray:=by simp
  rw[y,cq,<- bind_pure_comp];refine wB1 (wB1 (wB1 (lj (P:=λ_ t=>t=Value.type "int") (λv j=>?_) λb c n=>wP1 ?_)))
  ·obtain⟨r,f,e⟩:=aM.mp j;obtain⟨G,_,k,t,m⟩:=g r f;rw[m]at e;cases e;exact⟨_,O,λQ q=>wpAny_typeOf (T:="int") (typeIs_int s k t) q⟩
  ·cases b with
   |nil=>
    exfalso;cases rs with
    |nil=>exact d (cu.mp D.symm)
    |cons r rs=>
     obtain⟨_,_,k,t,e⟩:=g r mS1;rw[e]at c;simp at c
   |cons t b=>
    have all:∀x∈t::b,x=Value.type "int":=λx i=>by obtain⟨_,_,z⟩:=n x i;exact z
    have u:=all t mS1;subst u;have B:((Value.type "int"::b).toArray.all λx=>x == Value.type "int")=M:=by
     rw[cr,bI];intro x i;rw[all x i];rfl
    show dX _ _ (pure (if((Value.type "int"::b).toArray.all λx=>x == Value.type "int")=M then Z (Value.type "int")else Y)) _ _ _;rw[ak B];exact wP1 (wP1 q)
section
variable{ag:List (dP×Obj)}{σ:L2.St}{H:Hp}{s:dN}{mu:List dP}
end
section
variable{f:dP}{fd:dZ}{ps:List Str}{k n:Nat}{sp:Sp}{dvs:List V}{ds:List dM}{CX:zn}{E:XK}{t:TA}{e:Expr}{es:List Expr}{p pos:Pos}{i:Nat}{v x:Str}
end
section
variable{prog:dQ}{w:dS}{K:Type} [DecidableEq K] {knd:HeapKind prog w K}{A:dR}{E:dM->dN->Prop}{s:dN}
end
def Li:G1:=λd S=>match d with
 | .ref n=>match S[n]? with
  |some (.dcT kvs)=>Z (.int kvs.length,S)
  |_=>Ez d S
 |_=>Ez d S
def jX:G2:=λd e S=>match e with
 | .ref n=>match S[n]? with
  |some (.dct [])=>match keyT d with
   |some _=>Z (.bl M,S)
   |none=>fZ d e S
  |_=>fZ d e S
 |_=>fZ d e S
theorem AA(j:X.A.units+64<cLine):gF X (compareOp .NotIn) (r2 X.K (b2 jX)):=by
 intro ag s σ H x y u w Q I p m h;obtain⟨mu,S,d,e,r,o,l,c,g,a,hc⟩:=pA h;have back:fZ d e S=Z (r,o)->dX (model X.prog X.w) X.A (compareOp .NotIn u w) (EP X ag σ Q) X.xe s:=λa=>oC j ag s σ H x y u w Q I p m ⟨mu,S,[d,e],r,o,.cons l (.cons c .nil),g,a,hc⟩;unfold jX at a;split at a
 ·rename_i n;split at a
  ·rename_i C;split at a
   ·rename_i k D;cases a;cases c with
    |ref q=>
     cases m;obtain⟨ws,B,t⟩:=g.dct C q;cases t;obtain⟨z,A,vs,i,v⟩:=xE I.hok B;cases i;obtain⟨b,rfl,rfl,rk,E,hi⟩:=jD I l p D;have f:s.heap.DictOfH (gk X.prog X.w) _ []:=oV v;refine wpAny_notIn_heap (i7 j) hi A f ?_;exact⟨.bl M,H,I.tok _,O,hc.now (.bl _) g⟩
   ·exact back a
  ·exact back a
 ·exact back a
theorem Kk.fits{es:Array (Int×dM)}{t:SetTable}(h:Kk es t):t.fits es.size=M:=by
 unfold SetTable.fits SetTable.fill;rw[h.du,h.sz];have:=h.fl;simp;exact this
theorem mem_ins{α:Type}(a:Array α)(p:Nat)(x y:α):y∈(SetTable.insertAt a p x).toList↔y=x\/y∈a.toList:=by
 rw[ux,aH,aG];have:=cM p a.toList;constructor
 ·rintro(h|h|h)
  ·exact .inr (cQ h)
  ·exact .inl h
  ·exact .inr (cR h)
 ·rintro(h|h)
  ·exact .inr (.inl h)
  ·rw[<- this,aH]at h;rcases h with h|h
   ·exact .inl h
   ·exact .inr (.inr h)
theorem oR{α β:Type}{f g:α->Option β}:∀l:List α,(∀a∈l,f a=g a)->l.filterMap f=l.filterMap g
 |[],_=>rfl
 |a::l,h=>by rw[aF,aF,h a mS1,oR l λb c=>h b (mC1 _ c)]
theorem live_len:∀(l:List (Option Nat)) (s:Nat),((List.range' s l.length).filterMap λj=>(l.getD (j-s) Y).map (j,·)).length=l.countP (·.isSome)
 |[],s=>rfl
 |x::l,s=>by
  rw[lC1,List.range'_succ,aF,List.countP_cons];have ih:=live_len l (s+1);have e:(List.filterMap (λj=>Option.map (λx=>(j,x)) ((x::l).getD (j-s) Y)) (List.range' (s+1) l.length))=List.filterMap (λj=>(l.getD (j-(s+1)) Y).map (j,·)) (List.range' (s+1) l.length):=by
   refine oR _ λj a=>?_;rw[List.mem_range'_1]at a;rw[show j-s=(j-(s+1))+1 by lia];rfl
  rw[e,cS];cases x with
  |none=>simpa using ih
  |some q=>simpa using ih
theorem hE.grows{h h':dY}(hs:∀ a o,h.get? a=some o->h'.get? a=some o):∀ {k:TK} {v:dM},hE h k v->hE h' k v:=fun c=>c.rec (motive_1:=fun k v _=>hE h' k v) (motive_2:=fun k v _=>io h' k v) .non .int
  (λ{a} _ _ _ _ f e d _ ih=>.tup (hs a _ f) e d ih) .nil (λ_ _ a b=>.cons a b)
section
variable{P:dQ}{w:dS}{A:dR}{E:dM->dN->Prop}{s:dN}{p:dP}{xs:List (TK×dP×dM)}
end
section
variable{P:dQ}{w:dS}{A:dR}{E:dM->dN->Prop}
end
section
variable{pos:Pos}
theorem ce{op:CmpOp}{x y:Expr}{f:FN}{a b:FE}(ho:gF X (compareOp op) (r2 X.K f))(hx:XE X x a)(hy:XE X y b)(hm:behindInMarks op y=J:=by exact AC _):XE X (.Compare x [op] [y] pos) (m2 f a b):=B8 ho hx hy hm
theorem ct{op:CmpOp}{x y:Expr}{f:FN}{a b:FE}(ho:gF X (compareOp op) (r2 X.K f))(hx:XE X x a)(hy:XE X y b)(hm:autoParam (behindInMarks op y=J) ce._auto_1):XT X (.Compare x [op] [y] pos) (mB (m2 f a b)):=qX ho hx hy hm
theorem kc{a:d3}{i:Nat}{l:List Nat}(x:Str)(r:∀i∈l,∃x,X.N[i]?=Z x/\a.names.lookup x=Z .free/\(X.env.kindOf x=Z .cell\/X.env.kindOf x=Z .free)/\(x,NameKind.cell)∉a.names)(h1:autoParam (X.N[i]?=Z x) au0)(h2:autoParam (a.names.lookup x=Z .free) au0)(b:autoParam (X.env.kindOf x=Z .cell\/X.env.kindOf x=Z .free) au0)(c:autoParam ((x,NameKind.cell)∉a.names) gu0):∀j∈i::l,∃x,X.N[j]?=Z x/\a.names.lookup x=Z .free/\(X.env.kindOf x=Z .cell\/X.env.kindOf x=Z .free)/\(x,NameKind.cell)∉a.names:=List.forall_mem_cons.mpr ⟨⟨x,h1,h2,b,c⟩,r⟩
end
structure eU (K:Fg1)(x:Str)(st:d0)(f:dP):Prop where
 ns:wN1 K dU x=some (some (.ref f))
 fn:∃fd,zt K x x st f fd
theorem Jc{K:Fg1}{x:Str}{st:d0}{f:dP}{i:dM}{h j:Option dP}{e:Array (Option dM)}{kV d g b ct:dM}(a:wN1 K dU x=Z (Z (.ref f)))(l:K.lookup f=Z ⟨i,h,.func (wF1 x x (iC st) (fK st) (eG st) .none kV d g j b ct),e⟩)(c:wC1 K b x=M)(k:wK1 K (.ref f)=M):eU K x st f:=⟨a,_,Bk l c k⟩
theorem xo{P:dQ}{w:dS}{K:Fg1}{mg:Str->Option dM}{base h:dY}{x:Str}{st:d0}{f:dP}{N ps:List Str}{k n:Nat}{b:FS}(X:K.In h)(G:h.Ns dU mg)(F:eU K x st f)(S:gK N ps (eG st))(hb:∀(kV e j:dM) (l:Option dP) (a ct:dM) (g:List dM),g.length=ps.length->bindArgs (wF1 x x (iC st) (fK st) (eG st) .none kV e j l a ct) ⟨g,[]⟩=pure (ps.zip g))(d:∀(f:dP) (a:dM) (A:dR) (c:List Env) (s:dN) (H:Hp) (E:XK),gi k (A.deeper (envOfC x (eG st) s.heap.objs.size f a)) ->
   v6 (nw uY P w K mg base N x (eG st) f a A c s H E).nox (fK st) b)(hn:autoParam (ps.length=n) au0):fR P w K mg base (k+1) x n (iH N.length b):=by
 obtain⟨fd,i⟩:=F.fn;exact B6 i (i.binds hb) (wM1 X G F.ns) S hn (d f)
section
variable{ag:List (dP×Obj)}{σ:L2.St}{H:Hp}{s:dN}{mu:List dP}
end
section
variable{P:dQ}{w:dS}{A:dR}{E:dM->dN->Prop}{s:dN}{a x:dP}{xs:List (TK×dP×dM)}{k:TK}
end
section
variable{o e:Expr}{es:List Expr}{to:TE}{t:TA}{name:Str}{apos cpos:Pos}{id:String}{r:V->List V->Hp->VK->Prop}
end
section
variable{x y z u:Expr}{pos:Pos}{f g k:FN}{a b c d:FE}{op op' op'':CmpOp}{ta tb tc td:TE}
end
structure Blt (L:List Str)(mg:Str->Option dM):Prop where
 h:∀x∈L,mg x=none
theorem bz{L:List Str}{mg:Str->Option dM}{x:Str}(B:Blt L mg)(h:autoParam (x∈L) bu0):mg x=Y:=B.h x h
theorem sk{N P:List Str}{sc:d3}(h1:autoParam (sc.kind = .function) au0)(h2:autoParam (sc.isCoroutine=J) au0)(a:autoParam (sc.isGenerator=J) au0)(e:autoParam (N.Nodup) gu0)(b:autoParam (N.take P.length=P) au0)(c:autoParam (∀x∈P,sc.names.lookup x=Z .local\/sc.names.lookup x=Z .cell) gu0)(d:autoParam (∀y∈sc.names,y.2 ≠ .free) gu0):gK N P sc:=⟨h1,h2,a,e,b,c,d⟩
def Jy(K:Fg1):List Str->Prop
 |[]=>True
 |x::l=>wN1 K dU x=Z Y/\Jy K l
theorem Jy.blt{K:Fg1}{mg:Str->Option dM}{h:dY}(X:K.In h)(G:h.Ns dU mg):∀{L:List Str},Jy K L->Blt L mg
 |[],_=>⟨λ_ m=>nomatch m⟩
 |_::_,z=>⟨λ_ m=>match m with
  | .head _=>PySem.W.mg_none_of X G z.1
  | .tail _ m=>(Jy.blt X G z.2).h _ m⟩
noncomputable def JJ:List Str->Bool
 |[]=>M
 |x::l=> !l.contains x&&JJ l
theorem g9:∀{l:List Str},JJ l=M->l.Nodup
 |[],_=>bw
 |x::l,h=>by
  obtain⟨a,b⟩:=(bA1 _ _).mp h;exact aQ.mpr ⟨λm=>(by rw[cT.mpr m]at a;cases a),g9 b⟩
section
variable{pos:Pos}{k:Nat}{x:Str}{i:Nat}{e y:Expr}{es:List Expr}{m b:FE}{a:FA}{p:Pos}
theorem xv (hN:autoParam (X.N[i]?=Z x) au0)(hv:autoParam (Vis X.env.scope x) au0)(hd:autoParam ((x == ("__debug__":Str))=J) bu0)(hcd:autoParam ((x == ("__classdict__":Str))=J) bu0):XE X (.Name x pos) (mV i):=Lu i hN hv hd hcd
theorem gq(hN:autoParam (JJ X.N=M) au0)(hi:autoParam (X.N[i]?=Z x) au0)(hx:autoParam (wc X.env.scope x) au0)(hf:autoParam (X.fn x=M\/X.env.scope.names.lookup x=Z .local) au0):XG X (.Name x pos) (gN i):=qO i (g9 hN) hi hx hf
theorem sq(he:XE X e m)(hN:autoParam (JJ X.N=M) au0)(hi:autoParam (X.N[i]?=Z x) au0)(hx:autoParam (wc X.env.scope x) au0)(hs:autoParam (swapsWith e (Z (.Name x p)) pos.line X.env=pure J) au0)(hf:autoParam (X.fn x=M\/X.env.scope.names.lookup x=Z .local) au0):XS X (.Assign [.Name x p] e pos) (eE m (gN i)):=qY i (g9 hN) hi hx he hs hf
theorem jq(hx:XE X e m)(hy:XE X y b)(hr:autoParam (gi k X.A) au0)(hs:nM y:=by intro _ _;rfl):XE X (.Subscript e y pos) (m2 (b2 d6) m b):=qJ (qP hr.units) hx hy hs
theorem oq{av:Prop}(o:X.A.units+64<cLine->av)(hr:autoParam (gi k X.A) au0):av:=o hr.units
theorem wn {k' n:Nat}{f:FN}(h:fR X.prog X.w X.K X.mg X.base k x n f)(ha:XA X (e::es) a)(hr:autoParam (gi k' X.A) au0)(hk:autoParam (k<=k') bu0)(hg:autoParam (Gl X x) au0)(hdb:autoParam ((x == ("__debug__":Str))=J) bu0)(he:autoParam (dV (e::es) X.env=(J,eval e X.env)::dV es X.env) au0)(hpl:autoParam ((backTo pos (dV es X.env)).any (·.1)=J) au0):XE X (.Call (.Name x p) (e::es) [] pos) (mN (d8 n f) a):=qH h hr hk hg ha hdb he hpl
theorem cn {id:String}{f:FN}(hc:fH X (.builtin id) (rN X.K f))(ha:XA X (e::es) a)(hm:X.mg x=Y:=by exact bz ‹_›)(hg:autoParam (Gl X x) au0)(hv:autoParam (bootBuiltins x=Z (.builtin id)) gu0)(hn:autoParam (x≠"__name__") bu0)(hdb:autoParam ((x == ("__debug__":Str))=J) bu0)(he:autoParam (dV (e::es) X.env=(J,eval e X.env)::dV es X.env) au0)(hpl:autoParam ((backTo pos (dV es X.env)).any (·.1)=J) au0):XE X (.Call (.Name x p) (e::es) [] pos) (mN f a):=qD hc hg hm hv ha hn hdb he hpl
theorem cz {T:String}{f:FN}(hc:fH X (.type T) (rN X.K f))(ha:XA X (e::es) a)(hm:autoParam (X.mg x=Y) cn._auto_1)(hg:autoParam (Gl X x) au0)(hv:autoParam (bootBuiltins x=Z (.type T)) gu0)(hn:autoParam (x≠"__name__") bu0)(hdb:autoParam ((x == ("__debug__":Str))=J) bu0)(he:autoParam (dV (e::es) X.env=(J,eval e X.env)::dV es X.env) au0)(hpl:autoParam ((backTo pos (dV es X.env)).any (·.1)=J) au0):XE X (.Call (.Name x p) (e::es) [] pos) (mN f a):=qE hc hg hm hv ha hn hdb he hpl
theorem a1(h:XE X e m)(hs:autoParam (dV [e] X.env=(J,eval e X.env)::dV [] X.env) au0):XA X [e] (d4 m d5):=qA h qN hs
theorem a2(h:XE X e m)(g:XE X y b)(hs:autoParam (dV [e,y] X.env=(J,eval e X.env)::dV [y] X.env) au0)(hs2:autoParam (dV [y] X.env=(J,eval y X.env)::dV [] X.env) au0):XA X [e,y] (d4 m (d4 b d5)):=qA h (a1 g hs2) hs
theorem a3{z:Expr}{c:FE}(h:XE X e m)(g:XE X y b)(l:XE X z c)(hs:autoParam (dV [e,y,z] X.env=(J,eval e X.env)::dV [y,z] X.env) au0)(hs2:autoParam (dV [y,z] X.env=(J,eval y X.env)::dV [z] X.env) au0)(a:autoParam (dV [z] X.env=(J,eval z X.env)::dV [] X.env) au0):XA X [e,y,z] (d4 m (d4 b (d4 c d5))):=qA h (a2 g l hs2 a) hs
theorem ir (ha:XA X [e] a)(hm:autoParam (X.mg "range"=Y) cn._auto_1)(hg:autoParam (Gl X "range") au0)(hs:autoParam (dV [e] X.env=[(J,eval e X.env)]) au0):XI X y (.Call (.Name "range" p) [e] [] pos) (pN a):=vb hg hm ha hs
theorem ie {elts:List Expr}{b:Nat}{tpos:Pos}(ha:XA X [e] a)(hm:autoParam (X.mg "enumerate"=Y) cn._auto_1)(hg:autoParam (Gl X "enumerate") au0)(hs:autoParam (dV [e] X.env=[(J,eval e X.env)]) au0):XI X (.Tuple elts b tpos) (.Call (.Name "enumerate" p) [e] [] pos) (GV a):=zx hg hm ha hs
theorem ii {T:Ty}{p2:Pos}(h:XE X e m)(hm:autoParam (X.mg "isinstance"=Y) cn._auto_1)(hm2:autoParam (X.mg x=Y) cn._auto_1)(hg:autoParam (Gl X "isinstance") au0)(hg2:autoParam (Gl X x) au0)(hv2:autoParam (bootBuiltins x=Z (.type T.nm)) gu0)(hn:autoParam (x≠"__name__") bu0)(hd:autoParam ((x == ("__debug__":Str))=J) bu0)(hs1:autoParam (dV [e,.Name x p2] X.env=(J,eval e X.env)::dV [.Name x p2] X.env) au0)(hs2:autoParam (dV [.Name x p2] X.env=(J,eval (.Name x p2) X.env)::dV [] X.env) au0)(hpl:autoParam ((backTo pos (dV [.Name x p2] X.env)).any (·.1)=J) au0):XE X (.Call (.Name "isinstance" p) [e,.Name x p2] [] pos) (yB T m):=vd T hg hm hg2 hm2 hv2 h hn hd hs1 hs2 hpl
structure Lm (X:Cx)(name:Str)(id:String)(f:FN):Prop where
 s:Slot "list" name id
 t:typeOf (.builtin id)=pure (.type "method_descriptor")
 m:Eg X id (λx xs H Q=>rN X.K f (x::xs) H Q)
theorem ap:Lm X "append" "list.append" (b2 jZ):=⟨PySem.F.slot_list_append,PySem.F.type_list_append,HJ⟩
theorem lq{f:FN}{name:Str}{apos:Pos}{id:String}(s:Lm X name id f)(ho:XE X y m)(ha:XA X (e::es) a)(hbase:autoParam (attributeBase y name X.env (eval y X.env)=eval y X.env) au0)(hfew:autoParam (((backTo pos (dV (e::es) X.env)).all (λx=> !x.1)&&(backToKw pos (keywordEach [] X.env)).all (λx=>x.1.isSome)&&decide ((e::es).length+([]:List Keyword).length+(if([]:List Keyword).isEmpty then 0 else 1)<30))=M) au0)(hline:autoParam ((apos.endLine == pos.line)=M) au0)(hs:autoParam (dV (e::es) X.env=(J,eval e X.env)::dV es X.env) au0)(hplain:autoParam ((backTo pos (dV es X.env)).any (·.1)=J) au0):XS X (.Expr (.Call (.Attribute y name apos) (e::es) [] pos) p) (fF (pL f m a)):=kH (qe s.s s.t s.m ho ha hbase hfew hline hs hplain)
theorem fo{tg iter:Expr}{a:List d0}{m:FI}{g:FG}{b:FS}(hi:XI X tg iter m)(hg:XG X tg g)(hb:v6 X a b)(hp:PassesOwn (model X.prog X.w) X.A X.env X.xe:=by exact PassesOwn.never)(hc:autoParam (X.calm=M) au0)(hs:autoParam (∀x,foldedSetIterable iter X.env x=pure x) du0):XS X (.For tg iter a [] pos) (hC m g b):=qW hp hc hi hg hb hs
theorem tg2{d:Expr}{g h:FG}{a:Nat}(h1:XG X e g)(h2:XG X d h)(hc:autoParam (X.calm=M) au0)(hs:autoParam ((assignEach [e,d] X.env).map (·.2)=assign e X.env::(assignEach [d] X.env).map (·.2)) au0)(hs2:autoParam ((assignEach [d] X.env).map (·.2)=assign d X.env::(assignEach [] X.env).map (·.2)) au0)(hn:autoParam ((assignEach [e,d] X.env).length=2) au0)(hst:autoParam ((assignEach [e,d] X.env).findIdx? (·.1)=Y) au0):XG X (.Tuple [e,d] a pos) (gT 2 (fQ g (fQ h jp))):=iq hc (eH h1 (eH h2 gM hs2) hs) hn hst
noncomputable def JK(x:Str):List (Str×NameKind)->Bool
 |[]=>M
 |(y,.cell)::l=> !(y == x)&&JK x l
 |_::l=>JK x l
omit k i in
theorem AF:∀{l:List (Str×NameKind)},JK x l=M->(x,NameKind.cell)∉l
 |[],_,m=>nomatch m
 |(y,c)::l,h,m=>by
  rcases aG.mp m with e|a
  ·cases e;have h:=((bA1 _ _).mp h).1;rw[beq_self_eq_true]at h;cases h
  ·cases c with
   |cell=>exact AF ((bA1 _ _).mp h).2 a
   |_=>exact AF (l:=l) h a
theorem kz{a:d3}{l:List Nat}(r:∀i∈l,∃x,X.N[i]?=Z x/\a.names.lookup x=Z .free/\(X.env.kindOf x=Z .cell\/X.env.kindOf x=Z .free)/\(x,NameKind.cell)∉a.names)(h1:autoParam (X.N[i]?=Z x) au0)(h2:autoParam (a.names.lookup x=Z .free) au0)(b:autoParam (X.env.kindOf x=Z .cell\/X.env.kindOf x=Z .free) au0)(c:autoParam (JK x a.names=M) au0):∀j∈i::l,∃x,X.N[j]?=Z x/\a.names.lookup x=Z .free/\(X.env.kindOf x=Z .cell\/X.env.kindOf x=Z .free)/\(x,NameKind.cell)∉a.names:=kc x r h1 h2 b (AF c)
def Ln(X:Cx)(sc:d3):List (Str×dP):=(jH X.env.cells sc.names []).getD []
theorem fk{elt tg iter:Expr}{ifs:List Expr}{scope:d3}(T:List Str){keep:List Nat}{m:FI}{g:FG}{t:FT}{e:FE}(hi:XI X tg iter m)(hb:∀ {s H f},JT (cxC X scope (Ln X scope) T keep s H f) X.K tg ifs elt g t e)(c:∀i∈keep,∃x,X.N[i]?=Z x/\scope.names.lookup x=Z .free/\(X.env.kindOf x=Z .cell\/X.env.kindOf x=Z .free)/\(x,NameKind.cell)∉scope.names:=by repeat first|exact cU _|refine kz ?_)(hc:autoParam (X.calm=M) au0)(b:autoParam (scope.kind = .function) au0)(a:autoParam (∀x∈scope.names,x.2 = .local->scope.names.lookup x.1=Z .local) gu0)(d:autoParam (jH X.env.cells scope.names []=Z (Ln X scope)) au0)(hs:autoParam (∀x,foldedSetIterable iter X.env x=pure x) du0):XE X (.ListComp elt [⟨tg,iter,ifs,0⟩] scope pos) (fe T.length keep m g t (eQ e)):=qZ hc ⟨b,a,c⟩ d hi (λ_ _ _=>hb) hs
end
theorem xq{P:dQ}{w:dS}{K:Fg1}{mg:Str->Option dM}{base h:dY}{x:Str}{st:d0}{f:dP}{k n:Nat}{b:FS}(N:List Str)(X:K.In h)(G:h.Ns dU mg)(F:eU K x st f)(d:∀{f:dP} {a:dM} {A:dR} {c:List Env} {s:dN} {H:Hp} {E:XK},gi k (A.deeper (envOfC x (eG st) s.heap.objs.size f a)) ->
   v6 (nw uY P w K mg base N x (eG st) f a A c s H E).nox (fK st) b)(S:gK N (N.take n) (eG st):=by exact sk)(hb:∀(kV i j:dM) (m:Option dP) (a ct:dM) (e:List dM),e.length=(N.take n).length->bindArgs (wF1 x x (iC st) (fK st) (eG st) .none kV i j m a ct) ⟨e,[]⟩=pure ((N.take n).zip e):=by
   intro _ _ _ _ _ _ e g;exact zl9 g λ_=>rfl)(hn:autoParam ((N.take n).length=n) au0):fR P w K mg base (k+1) x n (iH N.length b):=xo X G F S hb (λ_ _ _ _ _ _ _ l=>d l) hn
open AutoSeq1 (wpAny_loadPart')
mutual
noncomputable def pl:D->Bool
 | .non=>M
 | .bl _=>M
 | .int _=>M
 | .str _=>M
 | .tup xs=>nF xs
 |_=>J
noncomputable def nF:List D->Bool
 |[]=>M
 |x::xs=>pl x&&nF xs
end
section
variable{ag:List (dP×Obj)}{σ:L2.St}{H:Hp}{s:dN}{mu:List dP}{S:Sto}
mutual
theorem wG(I:Inv X ag σ H s):∀{d d':D} {v:V},pl d=M->pl d'=M->eX X.K H mu d v->eX X.K H mu d' v->d=d'
 | .non,d',_,_,h,.non,r=>by cases r;rfl
 | .bl b,d',_,_,h,.bl _,r=>by cases r;rfl
 | .int i,d',_,_,h,.int _,r=>by cases r;rfl
 | .str x,d',_,_,h,.str _,r=>by cases r;rfl
 | .tup xs,d',_,g,h,.tup q t,r=>by
  cases r with
  |tup c a=>
   have e:=I.tuple_inj q c;subst e;rw[pl]at g h;rw[tS I g h t a]
  |rol _ _=>cases h
  |ref _=>cases h
  |fn _=>cases h
 | .rol _,_,_,g,_,_,_=>by cases g
 | .ref _,_,_,g,_,_,_=>by cases g
 | .fn _,_,_,g,_,_,_=>by cases g
theorem tS(I:Inv X ag σ H s):∀{ds a:List D} {vs:List V},nF ds=M->nF a=M->eh X.K H mu ds vs->eh X.K H mu a vs->ds=a
 |[],_,_,_,_,.nil,r=>by cases r;rfl
 |d::ds,_,_,g,h,.cons r t,z=>by
  cases z with
  |cons c b=>
   rw[nF,bA1]at g h;rw[wG I g.1 h.1 r c,tS I g.2 h.2 t b]
end
end
noncomputable def jE:D->Option Bool
 | .tup (.int _::_)=>Z M
 | .tup (.tup _::_)=>Z J
 |_=>Y
def Kv(a b:D):Bool:=kE [] 51 a b == Z M
def yM(a:D):List D->List D
 |[]=>[a]
 |b::l=>if Kv a b=M then a::b::l else b::yM a l
def kP:List D->List D
 |[]=>[]
 |a::l=>yM a (kP l)
def qv(a b:D):Bool:=kE [] 51 a b == Z M&&kE [] 51 b a == Z J
def mQ:List D->Bool
 |[]=>M
 |a::l=>l.all (qv a)&&mQ l
theorem k0:∀{l:List D} {i j:Nat} {a b:D},mQ l=M->l[i]?=Z a->l[j]?=Z b->i<j->qv a b=M
 |[],i,j,a,b,_,h,_,_=>by simp at h
 |x::l,0,j+1,a,b,h,h1,h2,_=>by
  rw[mQ,bA1,bI]at h;simp at h1 h2;subst h1;exact h.1 b (gM1 h2)
 |x::l,i+1,j+1,a,b,h,h1,h2,hij=>by
  rw[mQ,bA1]at h;exact k0 h.2 (by simpa using h1) (by simpa using h2) (by lia)
 |x::l,i,0,a,b,_,_,_,hij=>by lia
abbrev Tr:=D×V×dM
def yK(a:Tr):List Tr->List Tr
 |[]=>[a]
 |b::l=>if Kv a.1 b.1=M then a::b::l else b::yK a l
def tI:List Tr->List Tr
 |[]=>[]
 |a::l=>yK a (tI l)
theorem qL(a:Tr):∀l:List Tr,(yK a l).Perm (a::l)
 |[]=>.refl _
 |b::l=>by
  rw[yK];split
  ·exact .refl _
  ·exact((qL a l).cons b).trans (.swap _ _ _)
theorem nX:∀l:List Tr,(tI l).Perm l
 |[]=>.refl _
 |a::l=>(qL a _).trans ((nX l).cons a)
theorem uy(a:Tr):∀l:List Tr,(yK a l).map (·.1)=yM a.1 (l.map (·.1))
 |[]=>rfl
 |b::l=>by
  rw[yK,mP1,yM];split
  ·rfl
  ·rw[mP1,uy a l]
theorem p7:∀l:List Tr,(tI l).map (·.1)=kP (l.map (·.1))
 |[]=>rfl
 |a::l=>by rw[tI,mP1,kP,uy,p7 l]
theorem Dl{a b:dP}{k l:Int}{t u:Tok}{g zs:List dM}{c:Bool}{Q:Bool->dN->Prop}(ha:IsTup s.heap a (Value.int k t::g).toArray)(hb:IsTup s.heap b (Value.int l u::zs).toArray)(f:k≠l/\c=decide (k<l)\/k=l/\uX A s g zs c)(h:Q c s):
  dX (model prog w) A (keyLt' (tuples' M) (.ref a) (.ref b)) Q E s:=by
 rcases f with⟨f,rfl⟩|⟨rfl,L⟩
 ·exact GJ ha hb f h
 rw[jf];obtain⟨o,r,F,_,y⟩:=ha;obtain⟨D,B,C,_,v⟩:=hb;refine wB1 (listItems_at r y (wB1 (listItems_at B v ?_)));rw[bZ,bQ,bL];refine wB1 (wB1 ?_);dsimp only;refine wB1 (wpAny_eqBool_int ?_);simp only[beq_self_eq_true,b9,bF1,if_false];refine wP1 ?_;refine wpAny_mono (wpAny_forIn_list _ (λrest b s'=>s'=s/\b=(Y,()) /\ ∃(i:Nat) (vs ws:List dM),rest=(vs.zip ws).zipIdx (i+1)/\uX A s vs ws c/\vs.length+zs.length=ws.length+g.length)
  (λb s'=>s'=s/\(b=(Z c,())\/(b=(Y,())/\c=decide (g.length<zs.length)))) ?_ ?_ _ _ ⟨O,O,0,g,zs,O,L,by lia⟩) ?_ λ_ _ e=>e
 ·rintro x rest b s' ⟨rfl,rfl,i,vs,ws,d,m,j⟩;cases m with
  |nn=>simp at d
  |nc _ _=>simp at d
  |cn _ _=>simp at d
  | @eq p q ps n _ e t=>
   rw[bZ,bQ]at d;cases d;refine wB1 (e.of_in1 prog w E _ ?_);simp only[b9,bF1,if_false];exact wP1 ⟨O,O,i+1,ps,n,O,t,by simp at j;lia⟩
  | @lt p q ps n _ e t=>
   rw[bZ,bQ]at d;cases d;refine wB1 (e.of_in1 prog w E _ ?_);simp only[cp,if_true];rw[show(M&&(i+1 == 0))=J from rfl];exact wB1 (Au t (wP1 ⟨O,.inl O⟩))
 ·rintro b s' ⟨rfl,rfl,i,vs,ws,d,m,j⟩;refine⟨O,.inr ⟨O,?_⟩⟩;cases m with
  |nn=>simp at j;rw[ai (by lia)]
  |nc _ _=>simp at j;rw[ah (by lia)]
  |cn _ _=>simp at j;rw[ai (by lia)]
  |eq _ _=>simp at d
  |lt _ _=>simp at d
 ·rintro b s' ⟨rfl,z⟩;rcases z with rfl|⟨rfl,z⟩
  ·exact wP1 h
  ·refine wP1 ?_;rw[sT1,sT1,lC1,lC1,show decide (g.length+1<zs.length+1)=c by rw[z];congr 1;simp];exact h
section
variable{ag:List (dP×Obj)}{σ:L2.St}{H:Hp}{s:dN}{mu:List dP}{S:Sto}
theorem GP(I:Inv X ag σ H s)(hs:Sim X.K H mu S){A:dR}(P:A.units+60<cLine){f:Bool}{d e:D}{v w:V}{u z:dM}{b:Bool}(B:eX X.K H mu d v)(y:eX X.K H mu e w)(F:ew v u)(G:ew w z)(hd:jE d=Z f)(he:jE e=Z f)(h:kE S 51 d e=Z b){E:dM->dN->Prop}{Q:Bool->dN->Prop}(q:Q b s):dX (model X.prog X.w) A (keyLt' (tuples' f) u z) Q E s:=by
 have C:∀{xs ys:List D} {vs ws:List V} {us zs:List dM} {b:Bool},eh X.K H mu xs vs->eh X.K H mu ys ws->eI vs us->eI ws zs->pM (gI S 50) (kE S 50) xs ys=Z b->uX A s us zs b:=
  λg i j c h=>AX I hs (A:=A) (n:=50) (by lia) (λaq r2 N K h=>vJ I hs 50 (A:=A.in1) (by show A.units+1+50<cLine;lia) aq r2 N K h) g i j c h
 unfold jE at hd he;split at hd
 ·rename_i k _;cases hd;split at he
  ·rename_i l _;cases B with
   |tup o g=>
   cases y with
   |tup r i=>
   obtain⟨x,j,t,_⟩:=I.tuple o;obtain⟨m,c,p,_⟩:=I.tuple r;cases F;cases G;cases g with
   |cons a1 g=>
   cases i with
   |cons a2 i=>
   cases a1;cases a2;cases j with
   |cons av j=>
   cases c with
   |cons L c=>
   obtain⟨tk,rfl⟩:=av;obtain⟨ao,rfl⟩:=L;refine Dl t p ?_ q;have h:pM (gI S 50) (kE S 50) (.int k::_) (.int l::_)=Z b:=h;rw[pM]at h;by_cases a:k=l
   ·subst a;exact .inr ⟨rfl,C g i j c (by
     have e:gI S 50 (.int k) (.int k)=Z M:=by show Z (decide (k=k))=_;simp
     rw[e]at h;exact h)⟩
   ·refine .inl ⟨a,?_⟩;have e:gI S 50 (.int k) (.int l)=Z J:=by show Z (decide (k=l))=_;simp[a]
    rw[e]at h;have h:Z (decide (k<l))=Z b:=h;exact(Option.some.inj h).symm
  ·cases he
  ·cases he
 ·cases hd;split at he
  ·cases he
  ·cases B with
   |tup o g=>
   cases y with
   |tup r i=>
   obtain⟨x,j,t,_⟩:=I.tuple o;obtain⟨m,c,p,_⟩:=I.tuple r;cases F;cases G;exact GI t p (C g i j c h) q
  ·cases he
 ·cases hd
theorem Fc(I:Inv X ag σ H s)(hs:Sim X.K H mu S){A:dR}(hu:A.units+60<cLine){f:Bool}{ds:List D}{vs:List V}{its:List dM}(r:eh X.K H mu ds vs)(rv:eI vs its)(hp:nF ds=true)(hk:∀d∈ds,jE d=some f)(hr:mQ (kP ds)=true):
  ∃(ao:List V) (ws:List dM),eh X.K H mu (kP ds) ao/\eI ao ws/\its.Perm ws/\ao.length=vs.length /\
   ∀c:dY,(∀b o,s.heap.get? b=Z o->c.get? b=Z o)->mG X.prog X.w A {s with heap:=c} (tuples' f) ws (pairsOf its) /\
    (its≠[] -> ∀(E:dM->dN->Prop) (Q:SortKind->dN->Prop),Q (tuples' f) {s with heap:=c}->dX (model X.prog X.w) A (keyKind' its.toArray) Q E {s with heap:=c}):=by
 have w:∀{l:List D},nF l=M -> ∀d∈l,pl d=M:=by
  intro l
  induction l with
  |nil=>intro _ d h;cases h
  |cons x l ih=>
   intro h d N;rw[nF,bA1]at h;rcases aG.mp N with rfl|z
   ·exact h.1
   ·exact ih h.2 d z
 have und:∀n,(∀d:D,pl d=M->d.und n=M) /\ ∀l:List D,nF l=M->D.unds n l=M:=λn=>by
  refine⟨λd=>?_,λl=>?_⟩
  ·exact D.rec (motive_1:=λd=>pl d=M->d.und n=M) (motive_2:=λl=>nF l=M->D.unds n l=M) (λ_=>rfl) (λ_ _=>rfl) (λ_ _=>rfl) (λ_ _=>rfl) (λxs ih h=>by rw[pl]at h;rw[D.und];exact ih h) (λ_ _ h=>by cases h) (λ_ h=>by cases h) (λ_ h=>by cases h) (λ_=>rfl) (λx xs h1 h2 h=>by rw[nF,bA1]at h;rw[D.unds,h1 h.1,h2 h.2];rfl) d
  ·exact D.rec_1 (motive_1:=λd=>pl d=M->d.und n=M) (motive_2:=λl=>nF l=M->D.unds n l=M) (λ_=>rfl) (λ_ _=>rfl) (λ_ _=>rfl) (λ_ _=>rfl) (λxs ih h=>by rw[pl]at h;rw[D.und];exact ih h) (λ_ _ h=>by cases h) (λ_ h=>by cases h) (λ_ h=>by cases h) (λ_=>rfl) (λx xs h1 h2 h=>by rw[nF,bA1]at h;rw[D.unds,h1 h.1,h2 h.2];rfl) l
 have tri:∃au:List Tr,au.map (·.1)=ds/\au.map (·.2.1)=vs/\au.map (·.2.2)=its /\ ∀y∈au,eX X.K H mu y.1 y.2.1/\ew y.2.1 y.2.2:=by
  clear hk hr hp
  induction ds generalizing vs its with
  |nil=>cases r;cases rv;exact⟨[],O,O,O,λy h=>by cases h⟩
  |cons d ds ih=>
   cases r with
   |cons C t=>
   cases rv with
   |cons aq tt=>
   obtain⟨au,K,G,p,ok⟩:=ih t tt;refine⟨(d,_,_)::au,by rw[mP1,K],by rw[mP1,G],by rw[mP1,p],λy m=>?_⟩;rcases aG.mp m with rfl|z
   ·exact⟨C,aq⟩
   ·exact ok y z
 obtain⟨au,rfl,rfl,rfl,ok⟩:=tri;have L:=nX au;have em:=p7 au;rw[<- em]at hr ⊢;generalize hZ:tI au=wq at *
 have g:∀y∈wq,y∈au:=λy m=>L.mem_iff.mp m;refine⟨wq.map (·.2.1),wq.map (·.2.2),?_,?_,(L.map _).symm,by rw[lM1,lM1,L.length_eq],λc keep=>⟨⟨?_,?_,?_⟩,λP E Q q=>?_⟩⟩
 ·clear hr hZ em L
  induction wq with
  |nil=>exact .nil
  |cons y wq ih=>exact .cons (ok y (g y mS1)).1 (ih λz hz=>g z (mC1 _ hz))
 ·clear hr hZ em L
  induction wq with
  |nil=>exact .nil
  |cons y wq ih=>exact .cons (ok y (g y mS1)).2 (ih λz hz=>g z (mC1 _ hz))
 ·refine cw.mpr fun i j hi hj W e=>?_;rw [lM1] at hi hj;rw [List.getElem_map,List.getElem_map] at e;have B:=g _ (bY hi);have F:=g _ (bY hj);have R:=k0 hr (i:=i) (j:=j) (a:=wq[i].1) (b:=wq[j].1) (by rw [gP1,gG1 hi];rfl) (by rw [gP1,gG1 hj];rfl) W;obtain ⟨C,aq⟩:=ok _ B;obtain ⟨r2,q2⟩:=ok _ F;have h1:=hk wq[i].1 (cj.mpr ⟨_,B,rfl⟩);have h2:=hk wq[j].1 (cj.mpr ⟨_,F,rfl⟩);have isT:∀ {d:D} {v:V} {u:dM},jE d=some f->eX X.K H mu d v->ew v u -> ∃ a,v = .ref a/\u = .ref a:=fun {d v u} N rd ru=>by
   cases rd with
   |tup _ _=>cases ru;exact⟨_,O,O⟩
   |_=>cases N
  obtain⟨a1,K,G⟩:=isT h1 C aq;obtain⟨a2,p,e4⟩:=isT h2 r2 q2;rw[G,e4]at e;cases e;rw[K]at C;rw[p]at r2;have e:=wG I (w hp _ (cj.mpr ⟨_,B,O⟩)) (w hp _ (cj.mpr ⟨_,F,O⟩)) C r2;unfold qv at R;rw[e,bA1,beq_iff_eq,beq_iff_eq]at R;rw[R.1]at R;cases R.2
 ·rw[pairsOf_toList];have:(au.map (·.2.2) |>.zip (au.map (·.2.2))).map (·.1)=au.map (·.2.2):=List.map_fst_zip (nR1 _);rw[this];exact(L.map _).symm
 ·intro x y i j hx m W E Q q;rw[gP1]at hx m;obtain⟨yi,hyi,rfl⟩:=oM1.mp hx;obtain⟨yj,U,rfl⟩:=oM1.mp m;have B:=g _ (gM1 hyi);have F:=g _ (gM1 U);have av:Inv X ag σ H {s with heap:=c}:=I.kept (t':=s.toks) keep;have ki:(wq.map (·.1))[i]?=Z yi.1:=by rw[gP1,hyi];rfl
  have kj:(wq.map (·.1))[j]?=Z yj.1:=by rw[gP1,U];rfl
  have pi:=(und 0).1 _ (w hp _ (cj.mpr ⟨_,B,O⟩));have pj:=(und 0).1 _ (w hp _ (cj.mpr ⟨_,F,O⟩));refine GP av hs hu (ok _ B).1 (ok _ F).1 (ok _ B).2 (ok _ F).2 (hk _ (cj.mpr ⟨_,B,O⟩)) (hk _ (cj.mpr ⟨_,F,O⟩)) ?_ q;rw[w4 pi pj];by_cases z:i<j
  ·have:=k0 hr ki kj z;unfold qv at this;simp only[bA1,beq_iff_eq]at this;rw[ah z];exact this.1
  ·have:=k0 hr kj ki (by lia);unfold qv at this;simp only[bA1,beq_iff_eq]at this;rw[ai z];exact this.2
 ·have av:Inv X ag σ H {s with heap:=c}:=I.kept (t':=s.toks) keep;have N:∀ y∈au,∃ a xs,y.2.2 = .ref a/\IsTup c a xs/\(if f=true then ∃ k t ps,xs=(Value.int k t::ps).toArray else ∃ b ps qs,xs=(Value.ref b::ps).toArray/\IsTup c b qs):=fun y m=>by
   have h1:=hk y.1 (cj.mpr ⟨_,m,O⟩);obtain⟨C,aq⟩:=ok y m;obtain⟨d,v,u⟩:=y;dsimp only at *
   unfold jE at h1;split at h1
   ·cases h1;cases C with
    |tup q t=>
    obtain⟨is,T,i1,_⟩:=av.tuple q;cases t with
    |cons a1 t=>
    cases a1;cases T with
    |cons w1 T=>
    obtain⟨tk,rfl⟩:=w1;cases aq;exact⟨_,_,O,i1,by rw[ak O];exact⟨_,_,_,O⟩⟩
   ·cases h1;cases C with
    |tup q t=>
    obtain⟨is,T,i1,_⟩:=av.tuple q;cases t with
    |cons a1 t=>
    cases a1 with
    |tup q2 t2=>
    obtain⟨is2,v2,i2,_⟩:=av.tuple q2;cases T with
    |cons w1 T=>
    cases w1;cases aq;exact⟨_,_,O,i1,by rw[aj aL];exact⟨_,_,_,O,i2⟩⟩
   ·cases h1
  cases f with
  |true=>
   refine GL P (λv hv=>?_) q;obtain⟨y,m,rfl⟩:=cj.mp hv;obtain⟨a,xs,K,G,p⟩:=N y m;rw[ak O]at p;obtain⟨k,t,ps,rfl⟩:=p;exact⟨a,k,t,ps,K,G⟩
  |false=>
   refine GK P (λv hv=>?_) q;obtain⟨y,m,rfl⟩:=cj.mp hv;obtain⟨a,xs,K,G,p⟩:=N y m;rw[aj aL]at p;obtain⟨b,ps,qs,rfl,e4⟩:=p;exact⟨a,_,ps,b,qs,K,G,O,e4⟩
end
def oM(l:List D):Option Bool:=match l with
 |[]=>Z M
 |d::l=>match jE d with
  |some f=>if(l.all λe=>jE e == Z f)=M then Z f else Y
  |none=>Y
theorem vP:∀{l:List D} {f:Bool},oM l=Z f -> ∀d∈l,jE d=Z f
 |[],_,_,d,h=>by cases h
 |x :: l,f,h,d,hd=>by
  rw[oM]at h;cases hx:jE x with
  |none=>rw[hx]at h;cases h
  |some g=>
   rw[hx]at h;dsimp only at h;split at h
   ·rename_i a;cases h;rcases aG.mp hd with rfl|z
    ·exact hx
    ·have:=bI.mp a d z
     rwa [beq_iff_eq]at this
   ·cases h
mutual
theorem pl_tk:∀k:TK,pl (tkD k)=M
 | .non=>rfl
 | .int _=>rfl
 | .tup xs=>by rw[tkD,pl];exact Aj xs
theorem Aj:∀ks:List TK,nF (iE ks)=M
 |[]=>rfl
 |k::ks=>by rw[iE,nF,pl_tk k,Aj ks];rfl
end
noncomputable def Hy:Bool->Keyed->Array Keyed->Nat->Nat->Nat->StateT SortSt Sem (Option Nat):=sortPriv%PySem.Builtin.gallop
abbrev rk(ws:List dM)(p:Keyed):Nat:=rkV ws p.1
section
variable{κ:SortKind}{ws:List dM}{a₀:Array Keyed}
theorem mG.lt2(C:mG prog w A s κ ws a₀){st:SortSt}{p q:Keyed}{Q:Option Bool->SortSt->Prop}(hk:kindOf st=κ)(hp:p∈a₀)(b:q∈a₀)(a:rk ws p≠rk ws q)(h:Q (Z (decide (rk ws p<rk ws q))) st):wpS (model prog w) A E s (lt' p q) Q st:=by
 have at_:∀{p:Keyed},p∈a₀->ws[rk ws p]?=Z p.1:=λ{p} hp=>z9 (C.keys.mem_iff.mp (cj.mpr ⟨_,aO.mpr hp,O⟩));rw[lt'_eq];refine wpS_bind (wpS_get ?_);rw[hk];exact wpS_bind (wpS_lift (wpAny_attempt (C.lt p.1 q.1 _ _ (at_ hp) (at_ b) a _ _ ⟨O,wpS_pure h⟩)))
noncomputable def bey(l:Bool)(key:Keyed)(arr:Array Keyed)(b i:Nat):StateT SortSt Sem (Option Bool):=elem' arr (b+i) >>= λx=>if l=M then lt' x key else lt' key x >>= λr=>pure (r.map λz=> !z)
theorem Jp(C:mG prog w A s κ ws a₀){st:SortSt}{l:Bool}{key p:Keyed}{arr:Array Keyed}{b i:Nat}{Q:Option Bool->SortSt->Prop}(hk:kindOf st=κ)(a:key∈a₀)(hp:arr[b+i]?=Z p)(hm:p∈a₀)(c:rk ws p≠rk ws key)(q:Q (Z (decide (rk ws p<rk ws key))) st):wpS (model prog w) A E s (bey l key arr b i) Q st:=by
 unfold bey;rw[elem'_eq,hp];refine wpS_bind (wpS_pure ?_);cases l with
 |true=>exact C.lt2 hk hm a c q
 |false=>
  refine wpS_bind (C.lt2 hk a hm (Ne.symm c) (wpS_pure ?_));have e:(!decide (rk ws key<rk ws p))=decide (rk ws p<rk ws key):=by rw[bW];simp;lia
  show Q (Z (!decide (rk ws key<rk ws p))) st;rw[e];exact q
theorem xm(C:mG prog w A s κ ws a₀){st:SortSt}{l:Bool}{key:Keyed}{arr:Array Keyed}{b n h:Nat}{R:Nat->Nat}{Q:Option Nat->SortSt->Prop}(hk:kindOf st=κ)(K:key∈a₀)(P:h<n)(B:∀i,i<n -> ∃p,arr[b+i]?=Z p/\p∈a₀/\rk ws p=R i/\R i≠rk ws key)(a:∀i j,i<j->j<n->R i<R j)(q:∀k,k<=n->(∀i,i<k->R i<rk ws key)->(∀i,k<=i->i<n->rk ws key<R i)->Q (Z k) st):wpS (model prog w) A E s (Hy l key arr b n h) Q st:=by
 have N:∀i,i<n -> ∀{Q:Option Bool->SortSt->Prop},Q (Z (decide (R i<rk ws key))) st->wpS (model prog w) A E s (bey l key arr b i) Q st:=λi hi Q aq=>by
  obtain⟨p,h1,h2,F,y⟩:=B i hi;rw[<- F]at aq y;exact Jp C hk K h1 h2 y aq
 have ne:∀i,i<n->R i≠rk ws key:=λi hi=>by obtain⟨p,_,_,_,h⟩:=B i hi;exact h
 have ao:∀ lo hi,lo<=hi->hi<=n->(∀ i,i<lo->R i<rk ws key)->(∀ i,hi<=i->i<n->rk ws key<R i) -> ∀ {f:Nat->Option (Option Nat)×Nat×Nat->StateT SortSt Sem (ForInStep (Option (Option Nat)×Nat×Nat))} {av:Option (Option Nat)×Nat×Nat->SortSt->Prop},
   (∀x c,f x c=(if c.2.1>=c.2.2 then pure (ForInStep.done (Y,c.2.1,c.2.2))else bey l key arr b (c.2.1+(c.2.2-c.2.1)/2) >>= λr=>match r with
    |some m=>if m=M then pure (ForInStep.yield (Y,c.2.1+(c.2.2-c.2.1)/2+1,c.2.2))else pure (ForInStep.yield (Y,c.2.1,c.2.1+(c.2.2-c.2.1)/2))
    |_=>pure (ForInStep.done (Z Y,c.2.1,c.2.2))))->(∀k c,k<=n->(∀i,i<k->R i<rk ws key)->(∀i,k<=i->i<n->rk ws key<R i)->c.1=Y->c.2.2=k->av c st)->wpS (model prog w) A E s (forIn [0:n] (Y,lo,hi) f) av st:=λlo hi h1 h2 F y f av W aq=>by
  refine wpS_forRange (λx c st'=>st'=st /\ ∃lo hi,c=(Y,lo,hi)/\lo<=hi/\hi<=n/\hi-lo<=n-x/\(∀i,i<lo->R i<rk ws key) /\ ∀i,hi<=i->i<n->rk ws key<R i) ?_ ?_ ⟨O,lo,hi,O,h1,h2,by lia,F,y⟩
  ·rintro x c st' _ T ⟨rfl,lo,hi,rfl,I,g,o,d,D⟩;rw[W];dsimp only;by_cases z:lo>=hi
   ·rw[ak z];have e:lo=hi:=by lia
    subst e;exact wpS_pure (aq lo _ g d D O O)
   ·rw[aj z];have hm:lo+(hi-lo)/2<hi:=by lia
    generalize U:lo+(hi-lo)/2=m at *
    refine wpS_bind (N m (by lia) ?_);by_cases t:R m<rk ws key
    ·simp only[t,decide_true,if_true];refine wpS_pure ⟨O,m+1,hi,O,by lia,g,by lia,λi wq=>?_,D⟩;by_cases v:i=m
     ·rw[v];exact t
     ·exact bq (a i m (by lia) (by lia)) t
    ·simp only[t,decide_false,bF1,if_false];have H:rk ws key<R m:=by have:=ne m (by lia);lia
     refine wpS_pure ⟨O,lo,m,O,by lia,by lia,by lia,d,λi u G=>?_⟩;by_cases v:i=m
     ·rw[v];exact H
     ·exact bq H (a m i (by lia) G)
  ·rintro c st' ⟨rfl,lo,hi,rfl,I,g,o,d,D⟩;have e:lo=hi:=by lia
   subst e;exact aq lo _ g d D O O
 unfold Hy;refine wpS_bind (N h P ?_);by_cases z:R h<rk ws key
 ·simp only[z,decide_true,if_true];refine wpS_bind (wpS_mono (wpS_forRange (λx c st'=>st'=st /\ ∃lo of,c=(Y,lo,of)/\x+1<=of/\lo<of/\h+lo<n/\R (h+lo)<rk ws key) (Q:=λc st'=>st'=st /\ ∃lo of,c=(Y,lo,of)/\lo<of/\h+lo<n/\R (h+lo)<rk ws key /\ ∀i,h+min of (n-h)<=i->i<n->rk ws key<R i) ?_ ?_ ⟨O,0,1,O,by lia,by lia,P,z⟩) ?_)
  ·rintro x c st' _ T ⟨rfl,lo,of,rfl,I,g,o,d⟩;dsimp only;by_cases L:of>=n-h
   ·rw[ak L];exact wpS_pure ⟨O,lo,of,O,g,o,d,λi u G=>by lia⟩
   ·rw[aj L];refine wpS_bind (N (h+of) (by lia) ?_);by_cases t:R (h+of)<rk ws key
    ·simp only[t,decide_true,b9,bF1,if_false];exact wpS_pure ⟨O,of,2*of+1,O,by lia,by lia,by lia,t⟩
    ·simp only[t,decide_false,cp,if_true];have H:rk ws key<R (h+of):=by have:=ne (h+of) (by lia);lia
     refine wpS_pure ⟨O,lo,of,O,g,o,d,λi u G=>?_⟩;by_cases v:i=h+of
     ·rw[v];exact H
     ·exact bq H (a (h+of) i (by lia) G)
  ·rintro c st' ⟨rfl,lo,of,rfl,I,g,o,d⟩;exact⟨O,lo,of,O,g,o,d,λi u G=>by lia⟩
  ·rintro c st' ⟨rfl,lo,of,rfl,g,o,d,D⟩;dsimp only;refine wpS_bind (ao (h+lo+1) (h+min of (n-h)) (by lia) (by lia) (λi hi=>?_) D (λx c=>rfl) λk c h1 h2 F y u=>?_)
   ·by_cases v:i=h+lo
    ·rw[v];exact d
    ·exact bq (a i (h+lo) (by lia) o) d
   ·obtain⟨X,V,S⟩:=c;dsimp only at y u;subst y;subst u;exact wpS_pure (q S h1 h2 F)
 ·simp only[z,decide_false,bF1,if_false];have au:rk ws key<R h:=by have:=ne h P;lia
  refine wpS_bind (wpS_mono (wpS_forRange (λx c st'=>st'=st /\ ∃lo of,c=(Y,lo,of)/\x+1<=of/\lo<of/\lo<=h/\rk ws key<R (h-lo)) (Q:=λc st'=>st'=st /\ ∃lo of,c=(Y,lo,of)/\lo<of/\lo<=h/\rk ws key<R (h-lo) /\ ∀i,i<h+1-min of (h+1)->R i<rk ws key) ?_ ?_ ⟨O,0,1,O,by lia,by lia,by lia,au⟩) ?_)
  ·rintro x c st' _ T ⟨rfl,lo,of,rfl,I,g,o,d⟩;dsimp only;by_cases L:of>=h+1
   ·rw[ak L];exact wpS_pure ⟨O,lo,of,O,g,o,d,λi u=>by lia⟩
   ·rw[aj L];refine wpS_bind (N (h-of) (by lia) ?_);by_cases t:R (h-of)<rk ws key
    ·simp only[t,decide_true,if_true];refine wpS_pure ⟨O,lo,of,O,g,o,d,λi u=>?_⟩;by_cases v:i=h-of
     ·rw[v];exact t
     ·exact bq (a i (h-of) (by lia) (by lia)) t
    ·simp only[t,decide_false,bF1,if_false];have H:rk ws key<R (h-of):=by have:=ne (h-of) (by lia);lia
     exact wpS_pure ⟨O,of,2*of+1,O,by lia,by lia,by lia,H⟩
  ·rintro c st' ⟨rfl,lo,of,rfl,I,g,o,d⟩;exact⟨O,lo,of,O,g,o,d,λi u=>by lia⟩
  ·rintro c st' ⟨rfl,lo,of,rfl,g,o,d,D⟩;dsimp only;refine wpS_bind (ao (h+1-min of (h+1)) (h-lo) (by lia) (by lia) D (λi u G=>?_) (λx c=>rfl) λk c h1 h2 F y u=>?_)
   ·by_cases v:i=h-lo
    ·rw[v];exact d
    ·exact bq d (a (h-lo) i (by lia) G)
   ·obtain⟨X,V,S⟩:=c;dsimp only at y u;subst y;subst u;exact wpS_pure (q S h1 h2 F)
end
noncomputable def Ki:Nat->StateT SortSt Sem Unit:=sortPriv%PySem.Builtin.setMinGallop
noncomputable def K8:Array Keyed->Array Keyed->StateT SortSt Sem (Array Keyed):=sortPriv%PySem.Builtin.mergeLo
noncomputable def K9:Array Keyed->Array Keyed->StateT SortSt Sem (Array Keyed):=sortPriv%PySem.Builtin.mergeHi
structure Sm (st st':SortSt):Prop where
 k:kindOf st'=kindOf st
 a:arrOf st'=arrOf st
 p:pendingOf st'=pendingOf st
 f:failedOf st'=failedOf st
theorem Sm.rfl{st:SortSt}:Sm st st:=⟨_root_.rfl,_root_.rfl,_root_.rfl,_root_.rfl⟩
theorem Sm.g{st st':SortSt}(h:Sm st st')(g:Nat):Sm st (SortSt.mk' (kindOf st') (arrOf st') (pendingOf st') g (failedOf st')):=⟨h.k,h.a,h.p,h.f⟩
def Srt(ws:List dM)(xs:List Keyed):Prop:=xs.Pairwise λp q=>rk ws p<rk ws q
def nk(ws:List dM)(xs ys:List Keyed):Prop:=∀x∈xs,∀y∈ys,rk ws x<rk ws y
section
variable{ws:List dM}{a b out xs ys zs:List Keyed}{i j k:Nat}
theorem Srt.app(h1:Srt ws xs)(h2:Srt ws ys)(h:nk ws xs ys):Srt ws (xs++ys):=cC.mpr ⟨h1,h2,h⟩
theorem nk.app(h1:nk ws xs zs)(h2:nk ws ys zs):nk ws (xs++ys) zs:=λx b y a=>(aH.mp b).elim (λh=>h1 x h y a) λh=>h2 x h y a
theorem nk.of(h:nk ws xs ys){a ys':List Keyed}(h1:∀x∈a,x∈xs)(h2:∀y∈ys',y∈ys):nk ws a ys':=λx b y c=>h x (h1 x b) y (h2 y c)
theorem Srt.split(h:Srt ws a)(i:Nat):nk ws (a.take i) (a.drop i):=by
 have:=h;unfold Srt at this;rw[<- cM i a]at this;exact(cC.mp this).2.2
structure J0 (ws:List dM)(a b out:List Keyed)(i j:Nat):Prop where
 la:i<=a.length
 lb:j<=b.length
 len:out.length=i+j
 pm:(out++(a.drop i++b.drop j)).Perm (a++b)
 so:Srt ws out
 ba:nk ws out (a.drop i)
 bb:nk ws out (b.drop j)
theorem J0.mvA(h:J0 ws a b out i j)(d:Srt ws a)(hk:i+k<=a.length)(hb:nk ws ((a.drop i).take k) (b.drop j)):J0 ws a b (out++(a.drop i).take k) (i+k) j:=by
 have e:a.drop i=(a.drop i).take k++a.drop (i+k):=by rw[<- bK,cM]
 have c:Srt ws (a.drop i):=d.sublist (cE _ _);refine⟨hk,h.lb,?_,?_,h.so.app (c.sublist (aW _ _)) (h.ba.of (λ_ h=>h) λ_ h=>cQ h),?_,h.bb.app hb⟩
 ·rw[lA1,h.len,aT,cV];lia
 ·have:=h.pm;rw[e,bc]at this;rw[bc];exact this
 ·refine nk.app (h.ba.of (λ_ h=>h) λy f=>?_) ?_
  ·rw[e];exact mA1 _ f
  ·have:=c.split k
   rwa [bK]at this
theorem J0.swap(h:J0 ws a b out i j):J0 ws b a out j i:=⟨h.lb,h.la,by rw[h.len,Nat.add_comm],(List.Perm.append_left _ cW).trans (h.pm.trans cW),h.so,h.bb,h.ba⟩
theorem J0.mvB(h:J0 ws a b out i j)(c:Srt ws b)(hk:j+k<=b.length)(hb:nk ws ((b.drop j).take k) (a.drop i)):J0 ws a b (out++(b.drop j).take k) i (j+k):=(h.swap.mvA c hk hb).swap
theorem ww{x:Keyed}(h:a[i]?=Z x):(a.drop i).take 1=[x]:=by
 have b:=(gE1.mp h).1;rw[b4 b,cX,cY,(gE1.mp h).2]
def Mgd(ws:List dM)(a b r:List Keyed):Prop:=r.Perm (a++b)/\Srt ws r
theorem J0.dn(h:J0 ws a b out i j)(c:Srt ws a)(d:j=b.length):Mgd ws a b (out++a.drop i++b.drop j):=by
 have e:b.drop j=[]:=by rw[d,List.drop_length]
 refine⟨by rw[bc];exact h.pm,?_⟩;rw[e,aP];exact h.so.app (c.sublist (cE _ _)) h.ba
theorem J0.ls(h:J0 ws a b out i j)(d:Srt ws a)(c:Srt ws b)(hb:nk ws (b.drop j) (a.drop i)):Mgd ws a b (out++b.drop j++a.drop i):=by
 refine⟨by rw[bc];exact(List.Perm.append_left _ cW).trans h.pm,?_⟩;exact(h.so.app (c.sublist (cE _ _)) h.bb).app (d.sublist (cE _ _)) (h.ba.app hb)
theorem Srt.drop_gt(h:Srt ws a){x:Keyed}(hx:a[i]?=Z x):∀y∈a.drop i,rk ws x<=rk ws y:=λy b=>by
 have d:=(gE1.mp hx).1;rw[b4 d,(gE1.mp hx).2]at b;have c:Srt ws (a.drop i):=h.sublist (cE _ _);rw[b4 d,(gE1.mp hx).2]at c;rcases aG.mp b with rfl|b
 ·exact nR1 _
 ·exact aE ((cf.mp c).1 y b)
end
section
variable{κ:SortKind}{ws:List dM}{a₀:Array Keyed}
theorem rR{st:SortSt}{g:Nat}{Q:Unit->SortSt->Prop}(h:Q () (SortSt.mk' (kindOf st) (arrOf st) (pendingOf st) g (failedOf st))):wpS (model prog w) A E s (Ki g) Q st:=wpS_modify h
theorem fG{st:SortSt}{arr:Array Keyed}{i:Nat}{p:Keyed}{Q:Keyed->SortSt->Prop}(h:arr[i]?=Z p)(q:Q p st):wpS (model prog w) A E s (elem' arr i) Q st:=by
 rw[elem'_eq,h];exact wpS_pure q
structure MC (ws:List dM)(a₀ a b:Array Keyed):Prop where
 ma:∀p∈a,p∈a₀
 mb:∀p∈b,p∈a₀
 sa:Srt ws a.toList
 sb:Srt ws b.toList
 ne:∀p∈a,∀q∈b,rk ws p≠rk ws q
 pa:0<a.size
 pb:0<b.size
 last:∀x,a[a.size-1]?=some x -> ∀q∈b,rk ws q<rk ws x
 head:∀x,b[0]?=some x -> ∀q∈a,rk ws x<rk ws q
theorem MC.galA(C:mG prog w A s κ ws a₀){a b:Array Keyed}(aq:MC ws a₀ a b){st:SortSt}{l:Bool}{ia ib:Nat}{y:Keyed}{Q:Option Nat->SortSt->Prop}(hk:kindOf st=κ)(hy:b[ib]? = Z y)(h:ia<a.size)(q:∀k,ia+k<=a.size->(∀x∈(a.toList.drop ia).take k,rk ws x<rk ws y)->(∀x∈a.toList.drop (ia+k),rk ws y<rk ws x)->Q (Z k) st):wpS (model prog w) A E s (Hy l y a ia (a.size-ia) 0) Q st:=by
 have f:y∈b:=ck hy;refine xm (R:=λi=>(a[ia+i]?.map (rk ws)).getD 0) C hk (aq.mb y f) (by lia) (λi hi=>?_) (λi j m o=>?_) λk h1 h2 n=>q k (by lia) (λx g=>?_) λx g=>?_
 ·have c:ia+i<a.size:=by lia
  refine⟨a[ia+i],aG1 c,aq.ma _ (cZ c),by rw[aG1 c];rfl,?_⟩;rw[aG1 c];exact aq.ne _ (cZ c) _ f
 ·have c:ia+i<a.size:=by lia
  have e:ia+j<a.size:=by lia
  rw[aG1 c,aG1 e];have:=cw.mp aq.sa (ia+i) (ia+j) (by simpa using c) (by simpa using e) (by lia);simpa using this
 ·obtain⟨i,hi⟩:=bA g;have d:i<k:=by have:=(gE1.mp hi).1;rw[aT]at this;lia
  rw[aV d,cD,aT1]at hi;have:=h2 i d;rw[hi]at this;exact this
 ·obtain⟨i,hi⟩:=bA g;rw[cD,aT1]at hi;have c:=(Array.getElem?_eq_some_iff.mp hi).1;have:=n (k+i) (by lia) (by lia);rw[<- bu,hi]at this;exact this
theorem MC.galB(C:mG prog w A s κ ws a₀){a b:Array Keyed}(aq:MC ws a₀ a b){st:SortSt}{l:Bool}{ia ib:Nat}{y:Keyed}{Q:Option Nat->SortSt->Prop}(hk:kindOf st=κ)(hy:a[ia]? = Z y)(n:ib<b.size)(q:∀k,ib+k<=b.size->(∀x∈(b.toList.drop ib).take k,rk ws x<rk ws y)->(∀x∈b.toList.drop (ib+k),rk ws y<rk ws x)->Q (Z k) st):wpS (model prog w) A E s (Hy l y b ib (b.size-ib) 0) Q st:=by
 have f:y∈a:=ck hy;refine xm (R:=λi=>(b[ib+i]?.map (rk ws)).getD 0) C hk (aq.ma y f) (by lia) (λi hi=>?_) (λi j h o=>?_) λk h1 h2 m=>q k (by lia) (λx g=>?_) λx g=>?_
 ·have c:ib+i<b.size:=by lia
  refine⟨b[ib+i],aG1 c,aq.mb _ (cZ c),by rw[aG1 c];rfl,?_⟩;rw[aG1 c];exact(aq.ne _ f _ (cZ c)).symm
 ·have c:ib+i<b.size:=by lia
  have e:ib+j<b.size:=by lia
  rw[aG1 c,aG1 e];have:=cw.mp aq.sb (ib+i) (ib+j) (by simpa using c) (by simpa using e) (by lia);simpa using this
 ·obtain⟨i,hi⟩:=bA g;have d:i<k:=by have:=(gE1.mp hi).1;rw[aT]at this;lia
  rw[aV d,cD,aT1]at hi;have:=h2 i d;rw[hi]at this;exact this
 ·obtain⟨i,hi⟩:=bA g;rw[cD,aT1]at hi;have c:=(Array.getElem?_eq_some_iff.mp hi).1;have:=m (k+i) (by lia) (by lia);rw[<- bu,hi]at this;exact this
end
theorem lH(a:Array Keyed)(i:Nat):(a.extract i a.size).toList=a.toList.drop i:=by
 rw[cB,c4,cc (by simp)]
theorem uF(a:Array Keyed)(i k:Nat):(a.extract i (i+k)).toList=(a.toList.drop i).take k:=by
 rw[cB,c4,bC]
section
variable{κ:SortKind}{ws:List dM}{a₀:Array Keyed}
theorem JQ{j l i g τ:Type}{A G:Prop}{f:j->l->i->g->τ}{R:j->l->i->g->Prop}{x:τ}(h:A /\ ∃a b c d,x=f a b c d/\R a b c d)(k:A -> ∀a b c d,x=f a b c d->R a b c d->G):G:=by
 obtain⟨h,a,b,c,d,e,r⟩:=h;exact k h a b c d e r
theorem JP{g m j l i τ:Type}{A G:Prop}{f:g->m->j->l->i->τ}{R:g->m->j->l->i->Prop}{x:τ}(h:A /\ ∃a b c d e,x=f a b c d e/\R a b c d e)(k:A -> ∀a b c d e,x=f a b c d e->R a b c d e->G):G:=by
 obtain⟨h,a,b,c,d,e,n,r⟩:=h;exact k h a b c d e n r
theorem JO{i o m n j l τ:Type}{A G:Prop}{f:i->o->m->n->j->l->τ}{R:i->o->m->n->j->l->Prop}{x:τ}(h:A /\ ∃a b c d e g,x=f a b c d e g/\R a b c d e g)(k:A -> ∀a b c d e g,x=f a b c d e g->R a b c d e g->G):G:=by
 obtain⟨h,a,b,c,d,e,g,p,r⟩:=h;exact k h a b c d e g p r
theorem IG(C:mG prog w A s κ ws a₀){a b:Array Keyed}(aq:MC ws a₀ a b){st:SortSt}{Q:Array Keyed->SortSt->Prop}(hk:kindOf st=κ)(q:∀r st',Sm st st'->Mgd ws a.toList b.toList r.toList->Q r st'):wpS (model prog w) A E s (K8 a b) Q st:=by
 have dn:∀{out:Array Keyed} {ia ib:Nat},J0 ws a.toList b.toList out.toList ia ib->ib=b.size->Mgd ws a.toList b.toList (out++a.extract ia a.size++b.extract ib b.size).toList:=λ{out ia ib} h e=>by
  rw[cy,cy,lH,lH];exact h.dn aq.sa (by rw[e];simp)
 have lastX:∀{ia:Nat},ia+1=a.size -> ∀y∈a.toList.drop ia,∀q∈b,rk ws q<rk ws y:=λ{ia} e y K q hq=>by
  have hl:ia<a.toList.length:=by rw[aK];lia
  rw[b4 hl,List.drop_of_length_le (by rw[aK];lia)]at K;have:y=a.toList[ia]:=by simpa using K
  exact aq.last y (by rw[this,show a.size-1=ia by lia];simp) q hq
 have ls:∀{out:Array Keyed} {ia ib:Nat},J0 ws a.toList b.toList out.toList ia ib->ia+1=a.size->Mgd ws a.toList b.toList (out++b.extract ib b.size++a.extract ia a.size).toList:=λ{out ia ib} h e=>by
  rw[cy,cy,lH,lH];exact h.ls aq.sa aq.sb λx D y K=>lastX e y K x (aO.mp (cR D))
 have W:∀{i:Nat},i<a.size -> ∃x,a[i]?=Z x/\x∈a/\a.toList[i]?=Z x:=λ{i} h=>⟨a[i],aG1 h,cZ h,by rw[aT1,aG1 h]⟩;have T:∀{i:Nat},i<b.size -> ∃x,b[i]?=Z x/\x∈b/\b.toList[i]?=Z x:=λ{i} h=>⟨b[i],aG1 h,cZ h,by rw[aT1,aG1 h]⟩;have I:∀{out:Array Keyed} {ia ib:Nat} {y:Keyed},J0 ws a.toList b.toList out.toList ia ib->b.toList[ib]?=Z y->(∀x∈a.toList.drop ia,rk ws y<rk ws x)->J0 ws a.toList b.toList (out.push y).toList ia (ib+1):=λ{out ia ib y} h K hb=>by
  have:=h.mvB (k:=1) aq.sb (by have:=(gE1.mp K).1;lia) (by rw[ww K];intro x D z hz;rw[c5.mp D];exact hb z hz)
  rwa [ww K,<- cA]at this
 have S:∀{out:Array Keyed} {ia ib:Nat} {y:Keyed},J0 ws a.toList b.toList out.toList ia ib->a.toList[ia]?=Z y->(∀x∈b.toList.drop ib,rk ws y<rk ws x)->J0 ws a.toList b.toList (out.push y).toList (ia+1) ib:=λ{out ia ib y} h K hb=>by
  have:=h.mvA (k:=1) aq.sa (by have:=(gE1.mp K).1;lia) (by rw[ww K];intro x D z hz;rw[c5.mp D];exact hb z hz)
  rwa [ww K,<- cA]at this
 refine Exists.elim (T aq.pb) λb0 d=>?_;have hb0:=d.1;have mb0:=d.2.1;have lb0:=d.2.2;clear d
 unfold K8;refine wpS_bind (wpS_lift (wpAny_rule ⟨O,?_⟩));refine wpS_bind (fG hb0 ?_);have j0:J0 ws a.toList b.toList (#[]:Array Keyed).toList 0 0:=⟨br _,br _,O,.refl _,.nil,λx D=>(by cases D),λx D=>(by cases D)⟩;have j1:J0 ws a.toList b.toList (#[b0]:Array Keyed).toList 0 (0+1):=I j0 lb0 λx D=>aq.head b0 hb0 x (aO.mp (cR D));clear j0;by_cases z:1=b.size
 ·rw[ak (by simpa using z)];exact wpS_pure (q _ _ .rfl (dn j1 z))
 rw[aj (by simpa using z)];by_cases z2:0+1=a.size
 ·rw[ak (by simpa using z2)];exact wpS_pure (q _ _ .rfl (ls j1 z2))
 rw[aj (by simpa using z2)];have hpa:=aq.pa;have hpb:=aq.pb;refine wpS_bind (wpS_get ?_);refine wpS_bind (wpS_mono (wpS_forRange (λx c st'=>Sm st st' /\ ∃out ia ib g,c=(Y,out,ia,ib,g)/\J0 ws a.toList b.toList out.toList ia ib/\ia+1<a.size/\ib<b.size/\x+1<=out.toList.length)
  (Q:=λc st'=>Sm st st' /\ ∃r,c.1=Z r/\Mgd ws a.toList b.toList r.toList) ?_ ?_ ⟨.rfl,_,_,_,_,O,j1,by lia,by lia,nR1 _⟩) ?_)
 ·intro x c st' _ D l;refine JQ l ?_;clear l;intro hs out ia ib g p d;subst p;have F:=d.1;have n:=d.2.1;have m:=d.2.2.1;have hn:=d.2.2.2;clear d
  dsimp only;refine wpS_bind (wpS_mono (wpS_forRange (λy c B=>Sm st B /\ ∃f ia ib P L,c=(Y,f,ia,ib,P,L)/\J0 ws a.toList b.toList f.toList ia ib/\ia+1<a.size/\ib<b.size/\out.toList.length+y<=f.toList.length)
   (Q:=λc B=>Sm st B/\((∃r,c.1=Z r/\Mgd ws a.toList b.toList r.toList) \/ ∃f ia ib P L,c=(Y,f,ia,ib,P,L)/\J0 ws a.toList b.toList f.toList ia ib/\ia+1<a.size/\ib<b.size/\out.toList.length+1<=f.toList.length)) ?_ ?_ ⟨hs,_,_,_,_,_,O,F,n,m,nR1 _⟩) ?_)
  ·intro y c B _ K l;refine JP l ?_;clear l;intro t f ia ib P L p d;subst p;have F:=d.1;have n:=d.2.1;have m:=d.2.2.1;have hn2:=d.2.2.2;clear d
   dsimp only;refine Exists.elim (T m) λu d=>?_;have hu:=d.1;have mu:=d.2.1;have lu:=d.2.2;clear d
   refine Exists.elim (W (show ia<a.size by lia)) λv d=>?_;have hv:=d.1;have mv:=d.2.1;have lv:=d.2.2;clear d
   refine wpS_bind (fG hu (wpS_bind (fG hv (wpS_bind (C.lt2 (t.k.trans hk) (aq.mb u mu) (aq.ma v mv) (aq.ne v mv u mu).symm ?_)))));by_cases z3:rk ws u<rk ws v
   ·simp only[z3,decide_true,if_true];refine wpS_bind (fG hu ?_);have H:=I F lu λx D=>nL1 z3 (aq.sa.drop_gt lv x D);have hl:(f.push u).toList.length=f.toList.length+1:=by simp
    by_cases ao:ib+1=b.size
    ·rw[ak (by simpa using ao)];exact wpS_pure ⟨t,.inl ⟨_,O,dn H ao⟩⟩
    ·rw[aj (by simpa using ao)];split
     ·exact wpS_pure ⟨t,.inr ⟨_,_,_,_,_,O,H,n,by lia,by lia⟩⟩
     ·exact wpS_pure ⟨t,_,_,_,_,_,O,H,n,by lia,by lia⟩
   ·simp only[z3,decide_false,bF1,if_false];have z5:rk ws v<rk ws u:=by have:=aq.ne v mv u mu;lia
    refine wpS_bind (fG hv ?_);have H:=S F lv λx D=>nL1 z5 (aq.sb.drop_gt lu x D);have hl:(f.push v).toList.length=f.toList.length+1:=by simp
    by_cases ao:ia+1+1=a.size
    ·rw[ak (by simpa using ao)];exact wpS_pure ⟨t,.inl ⟨_,O,ls H ao⟩⟩
    ·rw[aj (by simpa using ao)];split
     ·exact wpS_pure ⟨t,.inr ⟨_,_,_,_,_,O,H,by lia,m,by lia⟩⟩
     ·exact wpS_pure ⟨t,_,_,_,_,_,O,H,by lia,m,by lia⟩
  ·intro c B l;refine JP l ?_;clear l;intro t f ia ib P L p d;subst p;have F:=d.1;have n:=d.2.1;have m:=d.2.2.1;have hn2:=d.2.2.2;clear d
   exfalso;have:=F.len;lia
  ·rintro c B ⟨t,⟨r,wq,hm⟩|⟨f,ia,ib,P,L,rfl,F,n,m,hn2⟩⟩
   ·obtain⟨c1,c2⟩:=c;dsimp only at wq;subst wq;exact wpS_pure ⟨t,r,O,hm⟩
   dsimp only;refine wpS_bind (wpS_lift (wpAny_rule ⟨O,?_⟩));refine wpS_bind (wpS_mono (wpS_forRange (λy c B=>Sm st B /\ ∃j ia ib g P L,c=(Y,j,ia,ib,g,P,L)/\J0 ws a.toList b.toList j.toList ia ib/\ia+1<a.size/\ib<b.size/\f.toList.length+y<=j.toList.length)
    (Q:=λc B=>Sm st B/\((∃r,c.1=Z r/\Mgd ws a.toList b.toList r.toList) \/ ∃j ia ib g P L,c=(Y,j,ia,ib,g,P,L)/\J0 ws a.toList b.toList j.toList ia ib/\ia+1<a.size/\ib<b.size/\f.toList.length<=j.toList.length)) ?_ ?_ ⟨t,_,_,_,_,_,_,O,F,n,m,nR1 _⟩) ?_)
   ·intro y c N _ K l;refine JO l ?_;clear l;intro av j ia ib g P L p d;subst p;have F:=d.1;have n:=d.2.1;have m:=d.2.2.1;have hn3:=d.2.2.2;clear d
    dsimp only;refine Exists.elim (T m) λu d=>?_;have hu:=d.1;have mu:=d.2.1;have lu:=d.2.2;clear d
    refine(λ(main:∀g':Nat,(?T:Nat->Prop) g')=>?go) ?mn
    case go=>
     by_cases hg:g>1
     ·rw[ak hg];generalize g-1=g';exact main g'
     ·rw[aj hg];exact main g
    intro g';refine wpS_bind (rR (wpS_bind (fG hu (wpS_bind (aq.galA (ia:=ia) C (av.k.trans hk) hu (by lia) λk h1 h2 h3=>?_)))));have G:=av.g g';generalize SortSt.mk' (kindOf N) (arrOf N) (pendingOf N) g' (failedOf N)=st4 at *
    dsimp only;refine(λ(V:∀(o:Array Keyed) (i:Nat),J0 ws a.toList b.toList o.toList i ib->i+1<a.size->(∀x∈a.toList.drop i,rk ws u<rk ws x)->f.toList.length+y<=o.toList.length->(?T2:Array Keyed->Nat->Prop) o i)=>?go2) ?mn2
    case go2=>
     by_cases R:k>0
     ·rw [if_pos R];have H:=F.mvA (k:=k) aq.sa (by rw [aK];exact h1) fun x D z hz=>nL1 (h2 x D) (aq.sb.drop_gt lu z hz);rw [<- uF,<- cy] at H;have hlt:ia+k≠a.size:=fun e=>by
       refine Exists.elim (W (show a.size-1<a.size by lia)) λv d=>?_;have hv:=d.1;have mv:=d.2.1;have lv:=d.2.2;clear d
       have h4:=aq.last v hv u mu;have h5:=h2 v (gM1 (i:=a.size-1-ia) (by rw[aV (by lia),cD,show ia+(a.size-1-ia)=a.size-1 by lia];exact lv));lia
      have hl2:f.toList.length+y<=(j++a.extract ia (ia+k)).toList.length:=by rw[cy,lA1];lia
      by_cases ao:ia+k+1=a.size
      ·rw[ak (by simpa using ao)];exact wpS_pure ⟨G,.inl ⟨_,O,ls H ao⟩⟩
      ·rw[aj (by simpa using ao),aj (by simpa using hlt)];have h6:ia+k+1<a.size:=by lia
       generalize j++a.extract ia (ia+k)=o at H hl2 ⊢;have h8:=h3;generalize ia+k=i at H h6 h8 ⊢;exact V o i H h6 h8 hl2
     ·rw[aj R];have e:k=0:=by lia
      subst e;exact V j ia F n h3 hn3
    intro o i H hi hgt hlo;refine wpS_bind (fG hu ?_);have j2:=I H lu hgt;have hl2:(o.push u).toList.length=o.toList.length+1:=by simp
    by_cases ao:ib+1=b.size
    ·rw[ak (by simpa using ao)];exact wpS_pure ⟨G,.inl ⟨_,O,dn j2 ao⟩⟩
    rw[aj (by simpa using ao)];refine Exists.elim (W (show i<a.size by lia)) λv d=>?_;have hv:=d.1;have mv:=d.2.1;have lv:=d.2.2;clear d
    refine wpS_bind (fG hv (wpS_bind (aq.galB (ib:=ib+1) C (G.k.trans hk) hv (by lia) λau e1 e2 e3=>?_)));dsimp only;generalize o.push u=o1 at *
    generalize ib+1=j1' at *
    refine(λ(U:∀(X:Array Keyed) (jb:Nat),J0 ws a.toList b.toList X.toList i jb->jb<b.size->(∀x∈b.toList.drop jb,rk ws v<rk ws x)->o1.toList.length<=X.toList.length->(?T3:Array Keyed->Nat->Prop) X jb)=>?go3) ?mn3
    case go3=>
     by_cases R:au>0
     ·rw[ak R];have j3:=j2.mvB (k:=au) aq.sb (by rw[aK];exact e1) λx D z hz=>nL1 (e2 x D) (aq.sa.drop_gt lv z hz);rw[<- uF,<- cy]at j3;have hl3:o1.toList.length<=(o1++b.extract j1' (j1'+au)).toList.length:=by rw[cy,lA1];lia
      by_cases z5:j1'+au=b.size
      ·rw[ak (by simpa using z5)];exact wpS_pure ⟨G,.inl ⟨_,O,dn j3 z5⟩⟩
      ·rw[aj (by simpa using z5)];have h7:j1'+au<b.size:=by lia
       generalize o1++b.extract j1' (j1'+au)=X at j3 hl3 ⊢;have h8:=e3;generalize j1'+au=jb at j3 h7 h8 ⊢;exact U X jb j3 h7 h8 hl3
     ·rw[aj R];have e:au=0:=by lia
      subst e;exact U o1 j1' j2 (by have:=j2.lb;rw[aK]at this;lia) e3 (nR1 _)
    intro X jb j3 hjb hgt3 hl3;refine wpS_bind (fG hv ?_);have j4:=S j3 lv hgt3;have hl4:(X.push v).toList.length=X.toList.length+1:=by simp
    by_cases z6:i+1+1=a.size
    ·rw[ak (by simpa using z6)];exact wpS_pure ⟨G,.inl ⟨_,O,ls j4 z6⟩⟩
    rw[aj (by simpa using z6)];split
    ·exact wpS_pure ⟨G,.inr ⟨_,_,_,_,_,_,O,j4,by lia,hjb,by lia⟩⟩
    ·exact wpS_pure ⟨G,_,_,_,_,_,_,O,j4,by lia,hjb,by lia⟩
   ·intro c N l;refine JO l ?_;clear l;intro av j ia ib g P L p d;subst p;have F:=d.1;have n:=d.2.1;have m:=d.2.2.1;have hn3:=d.2.2.2;clear d
    exfalso;have:=F.len;lia
   ·rintro c N ⟨av,⟨r,wq,hm⟩|⟨j,ia,ib,g,P,L,rfl,F,n,m,hn3⟩⟩
    ·obtain⟨c1,c2⟩:=c;dsimp only at wq;subst wq;exact wpS_pure ⟨av,r,O,hm⟩
    dsimp only;refine wpS_bind (rR (wpS_pure ⟨av.g _,_,_,_,_,O,F,n,m,by lia⟩))
 ·intro c st' l;refine JQ l ?_;clear l;intro hs out ia ib g p d;subst p;have F:=d.1;have n:=d.2.1;have m:=d.2.2.1;have hn:=d.2.2.2;clear d
  exfalso;have:=F.len;lia
 ·rintro c st' ⟨hs,r,wq,hm⟩;obtain⟨c1,c2⟩:=c;dsimp only at wq;subst wq;exact wpS_pure (q r _ hs hm)
end
section
variable{ws:List dM}{a b out xs ys zs:List Keyed}{i j k t:Nat}
theorem nk.to(h1:nk ws xs ys)(h2:nk ws xs zs):nk ws xs (ys++zs):=λx a y b=>(aH.mp b).elim (λh=>h1 x a y h) λh=>h2 x a y h
structure K0 (ws:List dM)(a b out:List Keyed)(i j:Nat):Prop where
 la:i<=a.length
 lb:j<=b.length
 len:out.length+(i+j)=a.length+b.length
 pm:(a.take i++b.take j++out.reverse).Perm (a++b)
 so:Srt ws out.reverse
 ba:nk ws (a.take i) out
 bb:nk ws (b.take j) out
theorem K0.swap(h:K0 ws a b out i j):K0 ws b a out j i:=⟨h.lb,h.la,by have:=h.len;lia,((cW).append_right _).trans (h.pm.trans cW),h.so,h.bb,h.ba⟩
theorem K0.mvA(h:K0 ws a b out i j)(k:Srt ws a)(hk:t<=i)(hb:nk ws (b.take j) ((a.take i).drop t)):K0 ws a b (out++((a.take i).drop t).reverse) t j:=by
 have e:a.take i=a.take t++(a.take i).drop t:=by
  have:=(cM t (a.take i)).symm
  rwa [List.take_take,bH hk]at this
 have g:Srt ws (a.take i):=k.sublist (aW _ _);have l:=h.la;have len:=h.len;have sp:=g.split t;rw[List.take_take,bH hk]at sp;refine⟨by lia,h.lb,?_,?_,?_,?_,?_⟩
 ·rw[lA1,List.length_reverse,cV,aT];lia
 ·rw[List.reverse_append,List.reverse_reverse];refine List.Perm.trans ?_ h.pm;generalize (a.take i).drop t=c at e;rw[e,bc,bc,bc];refine List.Perm.append_left _ ?_;rw[<- bc,<- bc];exact List.perm_append_comm.append_right _
 ·rw[List.reverse_append,List.reverse_reverse];exact Srt.app (g.sublist (cE _ _)) h.so λx d y f=>h.ba x (cR d) y (c6.mp f)
 ·exact(h.ba.of (λx d=>by rw[e];exact aI _ d) λ_ h=>h).to λx d y f=>sp x d y (c6.mp f)
 ·exact h.bb.to λx d y f=>hb x d y (c6.mp f)
theorem K0.mvB(h:K0 ws a b out i j)(c:Srt ws b)(hk:t<=j)(hb:nk ws (a.take i) ((b.take j).drop t)):K0 ws a b (out++((b.take j).drop t).reverse) i t:=(h.swap.mvA c hk hb).swap
theorem ED{x:Keyed}(h:a[i]?=Z x):(a.take (i+1)).drop i=[x]:=by
 have b:=(gE1.mp h).1;rw[cH,h,List.drop_append_of_le_length (by rw[aT];lia),List.drop_of_length_le (by rw[aT];lia)];rfl
theorem K0.dn(h:K0 ws a b out i j)(d:Srt ws b)(hi:i=0):Mgd ws a b (a.take i++b.take j++out.reverse):=by
 refine⟨h.pm,?_⟩;rw[hi,cY,bg];exact Srt.app (d.sublist (aW _ _)) h.so λx c y e=>h.bb x c y (c6.mp e)
theorem K0.fs(h:K0 ws a b out i j)(e:Srt ws a)(f:Srt ws b)(hb:nk ws (b.take j) (a.take i)):Mgd ws a b (b.take j++a.take i++out.reverse):=by
 refine⟨(List.perm_append_comm.append_right _).trans h.pm,?_⟩;exact(Srt.app (f.sublist (aW _ _)) (e.sublist (aW _ _)) hb).app h.so (nk.app (λx c y d=>h.bb x c y (c6.mp d)) λx c y d=>h.ba x c y (c6.mp d))
theorem Srt.take_lt(h:Srt ws a){x:Keyed}(hx:a[i]?=Z x):∀y∈a.take (i+1),rk ws y<=rk ws x:=λy b=>by
 rw[cH,hx]at b;rcases aH.mp b with b|b
 ·have c:=(gE1.mp hx).1;exact aE (h.split i y b x (by rw[b4 c,(gE1.mp hx).2];exact mS1))
 ·have:y=x:=by simpa using b
  rw[this];exact nR1 _
end
theorem xu(a:Array Keyed)(i:Nat):(a.extract 0 i).toList=a.toList.take i:=by
 rw[cB,c4,c7,Nat.sub_zero]
theorem EA{a:Array Keyed}{i t:Nat}(h:t<=i):(a.extract t i).reverse.toList=((a.toList.take i).drop t).reverse:=by
 rw[c8,cB,c4,List.drop_take]
section
variable{κ:SortKind}{ws:List dM}{a₀:Array Keyed}
theorem I1(C:mG prog w A s κ ws a₀){a:Array Keyed}{st:SortSt}{l:Bool}{n:Nat}{y:Keyed}{Q:Option Nat->SortSt->Prop}(hk:kindOf st=κ)(g:∀ p∈a,p∈a₀)(m:Srt ws a.toList)(hy:y∈a₀)(e:∀ p∈a,rk ws p≠rk ws y)(hn:0<n)(r:n<=a.size)(q:∀k,k<=n->(∀x∈a.toList.take k,rk ws x<rk ws y)->(∀x∈(a.toList.take n).drop k,rk ws y<rk ws x)->Q (Z k) st):wpS (model prog w) A E s (Hy l y a 0 n (n-1)) Q st:=by
 refine xm (R:=λi=>(a[0+i]?.map (rk ws)).getD 0) C hk hy (by lia) (λi hi=>?_) (λi j o t=>?_) λk h1 h2 h=>q k h1 (λx f=>?_) λx f=>?_
 ·have b:0+i<a.size:=by lia
  refine⟨a[0+i],aG1 b,g _ (cZ b),by rw[aG1 b];rfl,?_⟩;rw[aG1 b];exact e _ (cZ b)
 ·have b:0+i<a.size:=by lia
  have d:0+j<a.size:=by lia
  rw[aG1 b,aG1 d];have:=cw.mp m (0+i) (0+j) (by simpa using b) (by simpa using d) (by lia);simpa using this
 ·obtain⟨i,hi⟩:=bA f;have c:i<k:=by have:=(gE1.mp hi).1;rw[aT]at this;lia
  rw[aV c,aT1]at hi;have:=h2 i c;rw[bT,hi]at this;exact this
 ·obtain⟨i,hi⟩:=bA f;have b:=(gE1.mp hi).1;rw[cV,aT,aK]at b;rw[cD,aV (by lia),aT1]at hi;have:=h (k+i) (by lia) (by lia);rw[bT,hi]at this;exact this
theorem IH(C:mG prog w A s κ ws a₀){a b:Array Keyed}(aq:MC ws a₀ a b){st:SortSt}{Q:Array Keyed->SortSt->Prop}(hk:kindOf st=κ)(q:∀r st',Sm st st'->Mgd ws a.toList b.toList r.toList->Q r st'):wpS (model prog w) A E s (K9 a b) Q st:=by
 have dn:∀{out:Array Keyed} {na nb:Nat},K0 ws a.toList b.toList out.toList na nb->na=0->Mgd ws a.toList b.toList (a.extract 0 na++b.extract 0 nb++out.reverse).toList:=λ{out na nb} h e=>by
  rw[cy,cy,xu,xu,c8];exact h.dn aq.sb e
 have firstX:∀{nb:Nat},nb=1 -> ∀y∈b.toList.take nb,∀q∈a,rk ws y<rk ws q:=λ{nb} e y av q hq=>by
  subst e;have hl:0<b.toList.length:=by rw[aK];exact aq.pb
  have:b.toList.take 1=[b.toList[0]]:=by
   conv=>lhs;rw[cH,cY,gG1 hl]
   rfl
  rw[this]at av;rw[c5.mp av];exact aq.head _ (by simp) q hq
 have fs:∀{out:Array Keyed} {na nb:Nat},K0 ws a.toList b.toList out.toList na nb->nb=1->Mgd ws a.toList b.toList (b.extract 0 nb++a.extract 0 na++out.reverse).toList:=λ{out na nb} h e=>by
  rw[cy,cy,xu,xu,c8];exact h.fs aq.sa aq.sb λx G y av=>firstX e x G y (aO.mp (cQ av))
 have getA:∀{i:Nat},i<a.size -> ∃x,a[i]?=Z x/\x∈a/\a.toList[i]?=Z x:=λ{i} h=>⟨a[i],aG1 h,cZ h,by rw[aT1,aG1 h]⟩;have au:∀{i:Nat},i<b.size -> ∃x,b[i]?=Z x/\x∈b/\b.toList[i]?=Z x:=λ{i} h=>⟨b[i],aG1 h,cZ h,by rw[aT1,aG1 h]⟩;have X:∀{out:Array Keyed} {na nb:Nat} {y:Keyed},K0 ws a.toList b.toList out.toList na nb->0<nb->b.toList[nb-1]?=Z y->(∀x∈a.toList.take na,rk ws x<rk ws y)->K0 ws a.toList b.toList (out.push y).toList na (nb-1):=λ{out na nb y} h h0 av hb=>by
  have e:=ED av;rw[show nb-1+1=nb by lia]at e;have:=h.mvB (t:=nb-1) aq.sb (by lia) (by rw[e];intro x G z hz;rw[c5.mp hz];exact hb x G);rw[e,List.reverse_singleton,<- cA]at this;exact this
 have K:∀{out:Array Keyed} {na nb:Nat} {y:Keyed},K0 ws a.toList b.toList out.toList na nb->0<na->a.toList[na-1]?=Z y->(∀x∈b.toList.take nb,rk ws x<rk ws y)->K0 ws a.toList b.toList (out.push y).toList (na-1) nb:=λ{out na nb y} h h0 av hb=>by
  have e:=ED av;rw[show na-1+1=na by lia]at e;have:=h.mvA (t:=na-1) aq.sa (by lia) (by rw[e];intro x G z hz;rw[c5.mp hz];exact hb x G);rw[e,List.reverse_singleton,<- cA]at this;exact this
 have V:∀{out:Array Keyed} {na nb:Nat},K0 ws a.toList b.toList out.toList na nb->out.toList.length+(na+nb)=a.size+b.size:=λ{out na nb} h=>by have:=h.len;rwa [aK (xs:=a),aK (xs:=b)]at this
 have hpa:=aq.pa;have hpb:=aq.pb;refine Exists.elim (getA (show a.size-1<a.size by lia)) λa1 d=>?_;have ha1:=d.1;have ma1:=d.2.1;have la1:=d.2.2;clear d
 have upA:∀{n:Nat} {v:Keyed},0<n->a.toList[n-1]?=Z v -> ∀x∈a.toList.take n,rk ws x<=rk ws v:=λ{n v} h hv x G=>aq.sa.take_lt hv x (by rw[show n-1+1=n by lia];exact G);have upB:∀{n:Nat} {v:Keyed},0<n->b.toList[n-1]?=Z v -> ∀x∈b.toList.take n,rk ws x<=rk ws v:=λ{n v} h hv x G=>aq.sb.take_lt hv x (by rw[show n-1+1=n by lia];exact G);unfold K9;refine wpS_bind (wpS_lift (wpAny_rule ⟨O,?_⟩));refine wpS_bind (fG ha1 ?_);have j0:K0 ws a.toList b.toList (#[]:Array Keyed).toList a.size b.size:=⟨by simp,by simp,by simp,by rw[<- aK,<- aK,cg,cg];simp,.nil,λx G y av=>(by cases av),λx G y av=>(by cases av)⟩;have j1:K0 ws a.toList b.toList (#[a1]:Array Keyed).toList (a.size-1) b.size:=K j0 aq.pa la1 λx G=>aq.last a1 ha1 x (aO.mp (cQ G));clear j0;by_cases z:a.size-1=0
 ·rw[ak (by simpa using z)];exact wpS_pure (q _ _ .rfl (dn j1 z))
 rw[aj (by simpa using z)];by_cases z2:b.size=1
 ·rw[ak (by simpa using z2)];exact wpS_pure (q _ _ .rfl (fs j1 z2))
 rw[aj (by simpa using z2)];refine wpS_bind (wpS_get ?_);refine wpS_bind (wpS_mono (wpS_forRange (λx c st'=>Sm st st' /\ ∃na nb out g,c=(Y,na,nb,out,g)/\K0 ws a.toList b.toList out.toList na nb/\0<na/\1<nb/\x+1<=out.toList.length)
  (Q:=λc st'=>Sm st st' /\ ∃r,c.1=Z r/\Mgd ws a.toList b.toList r.toList) ?_ ?_ ⟨.rfl,_,_,_,_,O,j1,by lia,by lia,nR1 _⟩) ?_)
 ·intro x c st' _ G l;refine JQ l ?_;clear l;intro hs na nb out g D d;subst D;have H:=d.1;have m:=d.2.1;have B:=d.2.2.1;have hn:=d.2.2.2;clear d
  dsimp only;refine wpS_bind (wpS_mono (wpS_forRange (λy c I=>Sm st I /\ ∃na nb f T P,c=(Y,na,nb,f,T,P)/\K0 ws a.toList b.toList f.toList na nb/\0<na/\1<nb/\out.toList.length+y<=f.toList.length)
   (Q:=λc I=>Sm st I/\((∃r,c.1=Z r/\Mgd ws a.toList b.toList r.toList) \/ ∃na nb f T P,c=(Y,na,nb,f,T,P)/\K0 ws a.toList b.toList f.toList na nb/\0<na/\1<nb/\out.toList.length+1<=f.toList.length)) ?_ ?_ ⟨hs,_,_,_,_,_,O,H,m,B,nR1 _⟩) ?_)
  ·intro y c I _ av l;refine JP l ?_;clear l;intro F na nb f T P D d;subst D;have H:=d.1;have m:=d.2.1;have B:=d.2.2.1;have hn2:=d.2.2.2;clear d
   dsimp only;have lna:=H.la;have lnb:=H.lb;rw[aK]at lna lnb;refine Exists.elim (au (show nb-1<b.size by lia)) λu d=>?_;have hu:=d.1;have mu:=d.2.1;have lu:=d.2.2;clear d
   refine Exists.elim (getA (show na-1<a.size by lia)) λv d=>?_;have hv:=d.1;have mv:=d.2.1;have lv:=d.2.2;clear d
   refine wpS_bind (fG hu (wpS_bind (fG hv (wpS_bind (C.lt2 (F.k.trans hk) (aq.mb u mu) (aq.ma v mv) (aq.ne v mv u mu).symm ?_)))));by_cases z3:rk ws u<rk ws v
   ·simp only[z3,decide_true,if_true];refine wpS_bind (fG hv ?_);have ao:=K H m lv λx G=>bN (upB (by lia) lu x G) z3;have hl:(f.push v).toList.length=f.toList.length+1:=by simp
    by_cases N:na-1=0
    ·rw[ak (by simpa using N)];exact wpS_pure ⟨F,.inl ⟨_,O,dn ao N⟩⟩
    ·rw[aj (by simpa using N)];split
     ·exact wpS_pure ⟨F,.inr ⟨_,_,_,_,_,O,ao,by lia,B,by lia⟩⟩
     ·exact wpS_pure ⟨F,_,_,_,_,_,O,ao,by lia,B,by lia⟩
   ·simp only[z3,decide_false,bF1,if_false];have z5:rk ws v<rk ws u:=by have:=aq.ne v mv u mu;lia
    refine wpS_bind (fG hu ?_);have ao:=X H (by lia) lu λx G=>bN (upA m lv x G) z5;have hl:(f.push u).toList.length=f.toList.length+1:=by simp
    by_cases N:nb-1=1
    ·rw[ak (by simpa using N)];exact wpS_pure ⟨F,.inl ⟨_,O,fs ao N⟩⟩
    ·rw[aj (by simpa using N)];split
     ·exact wpS_pure ⟨F,.inr ⟨_,_,_,_,_,O,ao,m,by lia,by lia⟩⟩
     ·exact wpS_pure ⟨F,_,_,_,_,_,O,ao,m,by lia,by lia⟩
  ·intro c I l;refine JP l ?_;clear l;intro F na nb f T P D d;subst D;have H:=d.1;have m:=d.2.1;have B:=d.2.2.1;have hn2:=d.2.2.2;clear d
   exfalso;have:=V H;lia
  ·rintro c I ⟨F,⟨r,hr,hm⟩|⟨na,nb,f,T,P,rfl,H,m,B,hn2⟩⟩
   ·obtain⟨c1,c2⟩:=c;dsimp only at hr;subst hr;exact wpS_pure ⟨F,r,O,hm⟩
   dsimp only;refine wpS_bind (wpS_lift (wpAny_rule ⟨O,?_⟩));refine wpS_bind (wpS_mono (wpS_forRange (λy c I=>Sm st I /\ ∃na nb j g T P,c=(Y,na,nb,j,g,T,P)/\K0 ws a.toList b.toList j.toList na nb/\0<na/\1<nb/\f.toList.length+y<=j.toList.length)
    (Q:=λc I=>Sm st I/\((∃r,c.1=Z r/\Mgd ws a.toList b.toList r.toList) \/ ∃na nb j g T P,c=(Y,na,nb,j,g,T,P)/\K0 ws a.toList b.toList j.toList na nb/\0<na/\1<nb/\f.toList.length<=j.toList.length)) ?_ ?_ ⟨F,_,_,_,_,_,_,O,H,m,B,nR1 _⟩) ?_)
   ·intro y c R _ av l;refine JO l ?_;clear l;intro S na nb j g T P D d;subst D;have H:=d.1;have m:=d.2.1;have B:=d.2.2.1;have hn3:=d.2.2.2;clear d
    dsimp only;have lna:=H.la;have lnb:=H.lb;rw[aK]at lna lnb;refine Exists.elim (au (show nb-1<b.size by lia)) λu d=>?_;have hu:=d.1;have mu:=d.2.1;have lu:=d.2.2;clear d
    refine(λ(main:∀g':Nat,(?T:Nat->Prop) g')=>?go) ?mn
    case go=>
     by_cases hg:g>1
     ·rw[ak hg];generalize g-1=g';exact main g'
     ·rw[aj hg];exact main g
    intro g';refine wpS_bind (rR (wpS_bind (fG hu (wpS_bind (I1 (n:=na) C (S.k.trans hk) aq.ma aq.sa (aq.mb u mu) (λp hp=>aq.ne p hp u mu) m lna λk h1 h2 h3=>?_)))));have L:=S.g g';generalize SortSt.mk' (kindOf R) (arrOf R) (pendingOf R) g' (failedOf R)=st4 at *
    dsimp only;generalize hac:na-k=acc;refine(λ(main2:∀(o:Array Keyed) (i:Nat),K0 ws a.toList b.toList o.toList i nb->0<i->(∀x∈a.toList.take i,rk ws x<rk ws u)->f.toList.length+y<=o.toList.length->(?T2:Array Keyed->Nat->Prop) o i)=>?go2) ?mn2
    case go2=>
     by_cases U:acc>0
     ·rw[ak U];have ao:=H.mvA (t:=k) aq.sa h1 λx G z hz=>bN (upB (by lia) lu x G) (h3 z hz);rw[<- EA h1,<- cy]at ao;have hl2:f.toList.length+y<=(j++(a.extract k na).reverse).toList.length:=by rw[cy,lA1];lia
      by_cases N:k=0
      ·rw[ak (by simpa using N)];exact wpS_pure ⟨L,.inl ⟨_,O,dn ao N⟩⟩
      ·rw[aj (by simpa using N)];generalize j++(a.extract k na).reverse=o at ao hl2 ⊢;have W:=h2;have h9:0<k:=by lia
       generalize k=i at ao W h9 ⊢;exact main2 o i ao h9 W hl2
     ·rw[aj U];have e:k=na:=by lia
      have W:=h2;rw[e]at W;exact main2 j na H m W hn3
    intro o i ao hi hgt hlo;refine wpS_bind (fG hu ?_);have j2:=X ao (by lia) lu hgt;have hl2:(o.push u).toList.length=o.toList.length+1:=by simp
    by_cases N:nb-1=1
    ·rw[ak (by simpa using N)];exact wpS_pure ⟨L,.inl ⟨_,O,fs j2 N⟩⟩
    rw[aj (by simpa using N)];have li:=ao.la;rw[aK]at li;refine Exists.elim (getA (show i-1<a.size by lia)) λv d=>?_;have hv:=d.1;have mv:=d.2.1;have lv:=d.2.2;clear d
    refine wpS_bind (fG hv (wpS_bind (I1 (n:=nb-1) C (L.k.trans hk) aq.mb aq.sb (aq.ma v mv) (λp hp=>(aq.ne v mv p hp).symm) (by lia) (by lia) λk2 e1 e2 e3=>?_)));dsimp only;generalize o.push u=o1 at *
    have hnb:0<nb-1:=by lia
    generalize nb-1=j1' at *
    generalize hac2:j1'-k2=acc2;refine(λ(wq:∀(o3:Array Keyed) (jb:Nat),K0 ws a.toList b.toList o3.toList i jb->1<jb->(∀x∈b.toList.take jb,rk ws x<rk ws v)->o1.toList.length<=o3.toList.length->(?T3:Array Keyed->Nat->Prop) o3 jb)=>?go3) ?mn3
    case go3=>
     by_cases U:acc2>0
     ·rw[ak U];have j3:=j2.mvB (t:=k2) aq.sb e1 λx G z hz=>bN (upA hi lv x G) (e3 z hz);rw[<- EA e1,<- cy]at j3;have hl3:o1.toList.length<=(o1++(b.extract k2 j1').reverse).toList.length:=by rw[cy,lA1];lia
      by_cases z5:k2=1
      ·rw[ak (by simpa using z5)];exact wpS_pure ⟨L,.inl ⟨_,O,fs j3 z5⟩⟩
      ·have h0:k2≠0:=fun e=>by
        subst e;refine Exists.elim (au aq.pb) λb0 d=>?_;have hb0:=d.1;have mb0:=d.2.1;have lb0:=d.2.2;clear d
        have:=e3 b0 (gM1 (i:=0) (by rw[cD,aV (by lia)];exact lb0));have:=aq.head b0 hb0 v mv;lia
       rw[aj (by simpa using z5),aj (by simpa using h0)];generalize o1++(b.extract k2 j1').reverse=o3 at j3 hl3 ⊢;have W:=e2;have h9:1<k2:=by lia
       generalize k2=jb at j3 W h9 ⊢;exact wq o3 jb j3 h9 W hl3
     ·rw[aj U];have e:k2=j1':=by lia
      have W:=e2;rw[e]at W;exact wq o1 j1' j2 (by lia) W (nR1 _)
    intro o3 jb j3 hjb hgt3 hl3;refine wpS_bind (fG hv ?_);have j4:=K j3 hi lv hgt3;have hl4:(o3.push v).toList.length=o3.toList.length+1:=by simp
    by_cases z6:i-1=0
    ·rw[ak (by simpa using z6)];exact wpS_pure ⟨L,.inl ⟨_,O,dn j4 z6⟩⟩
    rw[aj (by simpa using z6)];split
    ·exact wpS_pure ⟨L,.inr ⟨_,_,_,_,_,_,O,j4,by lia,hjb,by lia⟩⟩
    ·exact wpS_pure ⟨L,_,_,_,_,_,_,O,j4,by lia,hjb,by lia⟩
   ·intro c R l;refine JO l ?_;clear l;intro S na nb j g T P D d;subst D;have H:=d.1;have m:=d.2.1;have B:=d.2.2.1;have hn3:=d.2.2.2;clear d
    exfalso;have:=V H;lia
   ·rintro c R ⟨S,⟨r,hr,hm⟩|⟨na,nb,j,g,T,P,rfl,H,m,B,hn3⟩⟩
    ·obtain⟨c1,c2⟩:=c;dsimp only at hr;subst hr;exact wpS_pure ⟨S,r,O,hm⟩
    dsimp only;refine wpS_bind (rR (wpS_pure ⟨S.g _,_,_,_,_,O,H,m,B,by lia⟩))
 ·intro c st' l;refine JQ l ?_;clear l;intro hs na nb out g D d;subst D;have H:=d.1;have m:=d.2.1;have B:=d.2.2.1;have hn:=d.2.2.2;clear d
  exfalso;have:=V H;lia
 ·rintro c st' ⟨hs,r,hr,hm⟩;obtain⟨c1,c2⟩:=c;dsimp only at hr;subst hr;exact wpS_pure (q r _ hs hm)
end
theorem tm(c:Nat):∀ (m:List Keyed) (k:Nat) (arr:Array Keyed) (pre old b:List Keyed),arr.toList=pre++(old++b)->pre.length=c+k->old.length=m.length ->
  ((m.zipIdx k).foldl (λa (x:Keyed×Nat)=>a.setIfInBounds (c+x.2) x.1) arr).toList=pre++(m++b)
 |[],k,arr,pre,old,b,h1,h2,h3=>by
  have:old=[]:=cu.mp h3;subst this;exact h1
 |x::m,k,arr,pre,[],b,h1,h2,h3=>by simp at h3
 |x::m,k,arr,pre,o::old,b,h1,h2,h3=>by
  rw[bQ,bd];have:=tm c m (k+1) (arr.setIfInBounds (c+k) x) (pre++[x]) old b (by
   rw[Array.toList_setIfInBounds,h1,<- h2,c9 _ _ (nR1 _),cS];simp) (by rw[lA1,h2];rfl) (by simpa using h3)
  rw[this];simp
def f0:Nat->List (List Keyed)->List (Nat×Nat×Nat)->Prop
 |_,[],[]=>True
 |s,r::rs,(t,n,_)::p=>t=s/\n=r.length/\f0 (s+r.length) rs p
 |_,_,_=>False
theorem wM:∀ {s:Nat} {rs:List (List Keyed)} {p:List (Nat×Nat×Nat)},f0 s rs p -> ∀ {i:Nat} {r1 r2:List Keyed},rs[i]? = some r1->rs[i+1]? = some r2 ->
  ∃d c,p[i]?=Z (s+(rs.take i).flatten.length,r1.length,d)/\p[i+1]?=Z (s+(rs.take i).flatten.length+r1.length,r2.length,c) /\
   f0 s (rs.take i++(r1++r2)::rs.drop (i+2)) ((p.set i (s+(rs.take i).flatten.length,r1.length+r2.length,d)).eraseIdx (i+1))
 |s,[],p,h,i,r1,r2,h1,_=>by simp at h1
 |s,r::rs,[],h,i,r1,r2,_,_=>by cases h
 |s,r::rs,(t,n,d)::p,⟨e1,e2,h⟩,0,r1,r2,h1,h2=>by
  have j:r=r1:=by simpa using h1
  subst j
  match rs,p,h,h2 with
  |r2'::rs,(t2,n2,c)::p,⟨e,f,h⟩,h2=>
   have k:r2'=r2:=by simpa using h2
   subst k;subst e1;subst e2;subst e;subst f;refine⟨d,c,by simp,by simp,?_⟩;simp only[cY,List.flatten_nil,bn,Nat.add_zero,bg,List.drop_succ_cons,c7,da,List.eraseIdx_cons_succ,List.eraseIdx_cons_zero];exact⟨O,by rw[lA1],by rw[lA1,<- bu];exact h⟩
 |s,r::rs,(t,n,d)::p,⟨e1,e2,h⟩,i+1,r1,r2,h1,h2=>by
  obtain⟨a,b,e,f,l⟩:=wM h (i:=i) (by simpa using h1) (by simpa using h2);have g:s+((r::rs).take (i+1)).flatten.length=s+r.length+(rs.take i).flatten.length:=by rw[cX,aZ,lA1,bu]
  refine⟨a,b,by rw[g,gC1];exact e,by rw[g,gC1];exact f,?_⟩;rw[g,cX,bt,db,List.eraseIdx_cons_succ,List.drop_succ_cons];exact⟨e1,e2,l⟩
structure SR (ws:List dM)(κ:SortKind)(a₀:Array Keyed)(rs:List (List Keyed))(rest:List Keyed)(st:SortSt):Prop where
 k:kindOf st=κ
 f:failedOf st=none
 pm:(arrOf st).Perm a₀
 ar:(arrOf st).toList=rs.flatten++rest
 so:∀r∈rs,Srt ws r/\r≠[]
 pe:f0 0 rs (pendingOf st).toList
section
variable{κ:SortKind}{ws:List dM}{a₀:Array Keyed}
theorem mG.unlike(C:mG prog w A s κ ws a₀){xs:Array Keyed}(p:xs.Perm a₀):xs.toList.Pairwise λu v=>rk ws u≠rk ws v:=by
 refine cw.mpr λi j hi a b e=>?_;rw[aK]at hi a;have:=C.inj p (i:=i) (j:=j) (by rw[<- p.size_eq];exact hi) (by rw[<- p.size_eq];exact a) (by unfold kR;rw[aG1 hi,aG1 a];simpa using e);lia
theorem Fh{σ:Type}{aq:Model}{st a:σ}{Q:Unit->σ->Prop}(h:Q () a):wpS aq A E s (set a:StateT σ Sem PUnit) Q st:=wpS_modify (f:=λ_=>a) h
theorem Bq(xs:Array (Nat×Nat×Nat))(i:Nat):(xs.eraseIdxIfInBounds i).toList=xs.toList.eraseIdx i:=by
 unfold Array.eraseIdxIfInBounds;split
 ·rw[Array.toList_eraseIdx]
 ·rename_i h;rw[List.eraseIdx_of_length_le (by rw[aK];lia)]
theorem qk:∀{A B:List (List Keyed)} {r b:List Keyed} {s:Nat} {p:List (Nat×Nat×Nat)},f0 s (A++r::B) p->r.length=b.length->f0 s (A++b::B) p
 |[],B,r,b,s,[],h,_=>by cases h
 |[],B,r,b,s,(t,n,pw)::p,h,e=>by
  obtain⟨h1,h2,c⟩:=(show t=s/\n=r.length/\f0 (s+r.length) B p from h);exact⟨h1,by rw[<- e];exact h2,by rw[<- e];exact c⟩
 |a::A,B,r,b,s,[],h,_=>by cases h
 |a::A,B,r,b,s,(t,n,pw)::p,h,e=>by
  obtain⟨h1,h2,c⟩:=(show t=s/\n=a.length/\f0 (s+a.length) (A++r::B) p from h);exact⟨h1,h2,qk c e⟩
theorem Fb{rs:List (List Keyed)}{i:Nat}{a r2:List Keyed}(h1:rs[i]?=Z a)(h2:rs[i+1]?=Z r2):rs=rs.take i++a::r2::rs.drop (i+2):=by
 have c:=(gE1.mp h1);have b:=(gE1.mp h2);have:=(cM i rs).symm;rw[b4 c.1,b4 b.1,c.2,b.2]at this;exact this
theorem I0(C:mG prog w A s κ ws a₀){st:SortSt}{l:Bool}{key:Keyed}{X:Array Keyed}{pre r a:List Keyed}{h:Nat}{Q:Option Nat->SortSt->Prop}(hk:kindOf st=κ)(p:X.toList=pre++(r++a))(hm:∀ x∈X,x∈a₀)(c:key∈a₀)(t:Srt ws r)(d:∀ x∈r,rk ws x≠rk ws key)(n:h<r.length)(q:∀k,k<=r.length->(∀x∈r.take k,rk ws x<rk ws key)->(∀x∈r.drop k,rk ws key<rk ws x)->Q (Z k) st):wpS (model prog w) A E s (Hy l key X pre.length r.length h) Q st:=by
 have at_:∀i,i<r.length->X[pre.length+i]?=r[i]?:=λi hi=>by
  rw[<- aT1,p,gR1 (bB _ _),bC,gL1 hi]
 refine xm (R:=λi=>(r[i]?.map (rk ws)).getD 0) C hk c n (λi hi=>?_) (λi j f m=>?_) λk h1 h2 o=>q k h1 (λx g=>?_) λx g=>?_
 ·have e:=at_ i hi;rw[gG1 hi]at e;refine⟨r[i],e,hm _ (ck e),by rw[gG1 hi];rfl,?_⟩;rw[gG1 hi];exact d _ (bY hi)
 ·rw[gG1 (show i<r.length by lia),gG1 m];exact cw.mp t i j (by lia) m f
 ·obtain⟨i,hi⟩:=bA g;have b:i<k:=by have:=(gE1.mp hi).1;rw[aT]at this;lia
  rw[aV b]at hi;have:=h2 i b;rw[hi]at this;exact this
 ·obtain⟨i,hi⟩:=bA g;rw[cD]at hi;have:=o (k+i) (by lia) (gE1.mp hi).1;rw[hi]at this;exact this
theorem SR.merge(C:mG prog w A s κ ws a₀){rs:List (List Keyed)}{rest:List Keyed}{st:SortSt}{i:Nat}{a r2:List Keyed}{Q:Bool->SortSt->Prop}(h:SR ws κ a₀ rs rest st)(h1:rs[i]? = Z a)(h2:rs[i+1]? = Z r2)(q:∀r st',SR ws κ a₀ (rs.take i++r::rs.drop (i+2)) rest st'->Q M st'):wpS (model prog w) A E s (mergeAt' i) Q st:=by
 obtain⟨V,pw2,p1,p2,p3⟩:=wM h.pe h1 h2;rw[aT1,bT]at p1 p2;rw[bT]at p3;have wq:=Fb h1 h2;obtain⟨K,n1⟩:=h.so a (gM1 h1);obtain⟨ao,n2⟩:=h.so r2 (gM1 h2);have others:∀r∈rs.take i,Srt ws r/\r≠[]:=λr g=>h.so r (cQ g);have others2:∀r∈rs.drop (i+2),Srt ws r/\r≠[]:=λr g=>h.so r (cR g);have l1:0<a.length:=cP.mpr n1;have l2:0<r2.length:=cP.mpr n2;have t:(arrOf st).toList=(rs.take i).flatten++(a++(r2++((rs.drop (i+2)).flatten++rest))):=by
  rw[h.ar]
  conv=>lhs;rw[wq]
  simp
 generalize S:(rs.take i).flatten=pre at *
 generalize H:(rs.drop (i+2)).flatten++rest=post at *
 have f:∀x∈arrOf st,x∈a₀:=λx c=>h.pm.mem_iff.mp c;have un:=C.unlike h.pm;have N:∀x∈a,x∈arrOf st:=λx c=>by rw[<- aO,t];simp[c]
 have av:∀x∈r2,x∈arrOf st:=λx c=>by rw[<- aO,t];simp[c]
 have n:∀x∈a,∀y∈r2,rk ws x≠rk ws y:=λx c y D=>by
  rw[t]at un;exact(cC.mp (cC.mp un).2.1).2.2 x c y (aI _ D)
 have hs:∀{st':SortSt} {r:List Keyed},kindOf st'=kindOf st->failedOf st'=failedOf st->(pendingOf st').toList=((pendingOf st).toList.set i (pre.length,a.length+r2.length,V)).eraseIdx (i+1)->(arrOf st').toList=pre++(r++post)->r.Perm (a++r2)->Srt ws r->Q M st':=λ{st' r} j o g3 g4 W g6=>by
  refine q r st' ⟨j.trans h.k,o.trans h.f,?_,?_,?_,?_⟩
  ·refine Array.Perm.trans ?_ h.pm;rw[ci,g4,t,<- bc a];exact List.Perm.append_left _ (W.append_right _)
  ·rw[g4,de,aZ,S,bc,bc,H]
  ·intro x c;rcases aH.mp c with c|c
   ·exact others x c
   ·rcases aG.mp c with rfl|c
    ·exact⟨g6,λe=>by rw[e]at W;have:=W.length_eq;rw[lA1,bn]at this;lia⟩
    ·exact others2 x c
  ·rw[g3];exact qk p3 (by rw[lA1,W.length_eq,lA1])
 obtain⟨u,T⟩:∃u,r2[0]?=some u:=⟨_,gG1 l2⟩;have mu:=gM1 T;obtain⟨v,R⟩:∃v,a[a.length-1]?=some v:=⟨_,gG1 (by lia)⟩;have mv:=gM1 R;have hXu:(arrOf st)[pre.length+a.length]?=Z u:=by
  rw[<- aT1,t,gR1 (bB _ _),bC,gR1 (nR1 _),cS,gL1 l2];exact T
 have hXv:(arrOf st)[pre.length+a.length-1]?=Z v:=by
  rw[<- aT1,t,gR1 (by lia),show pre.length+a.length-1-pre.length=a.length-1 by lia,gL1 (by lia)];exact R
 have L:(arrOf st).toList=(pre++a)++(r2++post):=by rw[t,bc]
 unfold mergeAt';refine wpS_bind (wpS_get ?_);dsimp only;rw[show(pendingOf st)[i]?=_ from p1,show(pendingOf st)[i+1]?=_ from p2];dsimp only;refine wpS_bind (Fh ?_);refine wpS_bind (fG hXu ?_);refine wpS_bind (I0 (pre:=pre) (r:=a) C h.k t f (f u (av u mu)) K (λx c=>n x c u mu) l1 λk e1 U e3=>?_);dsimp only;have l:(((pendingOf st).setIfInBounds i (pre.length,a.length+r2.length,V)).eraseIdxIfInBounds (i+1)).toList=((pendingOf st).toList.set i (pre.length,a.length+r2.length,V)).eraseIdx (i+1):=by rw[Bq,Array.toList_setIfInBounds]
 generalize ((pendingOf st).setIfInBounds i (pre.length,a.length+r2.length,V)).eraseIdxIfInBounds (i+1)=P at *
 have I:∀x∈r2,rk ws u<=rk ws x:=λx c=>ao.drop_gt (i:=0) T x (by rw[c7];exact c);by_cases z:a.length-k=0
 ·rw[ak (by simpa using z)];have ek:k=a.length:=by lia
  subst ek;rw[cg]at U;exact wpS_pure (hs (r:=a++r2) O O l (by rw[bc];exact t) (.refl _) (K.app ao λx c y D=>nL1 (U x c) (I y D)))
 rw[aj (by simpa using z),show pre.length+k+(a.length-k)-1=pre.length+a.length-1 by lia];refine wpS_bind (fG hXv ?_);rw[show pre.length+a.length=(pre++a).length by rw[lA1]];refine wpS_bind (I0 (pre:=pre++a) (r:=r2) C h.k L f (f v (N v mv)) ao (λx c=>(n v mv x c).symm) (show r2.length-1<r2.length by lia) λk2 f1 f2 f3=>?_);dsimp only;have huv:rk ws u<rk ws v:=e3 v (gM1 (i:=a.length-1-k) (by rw[cD,show k+(a.length-1-k)=a.length-1 by lia];exact R));have hk2:k2≠0:=λe=>by
  subst e;have:=f3 u (by rw[c7];exact mu);lia
 rw[aj (by simpa using hk2)];have ex:((arrOf st).extract (pre.length+k) (pre++a).length).toList=a.drop k:=by
  rw[cB,c4,t,<- bK,List.drop_left,List.drop_append_of_le_length e1,lA1,show pre.length+a.length-(pre.length+k)=(a.drop k).length by rw[cV];lia,df]
 have G:((arrOf st).extract (pre++a).length ((pre++a).length+k2)).toList=r2.take k2:=by
  rw[cB,c4,L,List.drop_left,bC,dg f1]
 generalize c:(arrOf st).extract (pre.length+k) (pre++a).length=x at *
 generalize D:(arrOf st).extract (pre++a).length ((pre++a).length+k2)=y at *
 have lx:x.size=a.length-k:=by rw[<- aK,ex,cV]
 have ly:y.size=k2:=by rw[<- aK,G,aT];lia
 have aq:MC ws a₀ x y:=by
  refine⟨λp d=>?_,λp d=>?_,?_,?_,λp d r g=>?_,by lia,by lia,λp d r g=>?_,λp d r g=>?_⟩
  ·rw[<- aO,ex]at d;exact f p (N p (cR d))
  ·rw[<- aO,G]at d;exact f p (av p (cQ d))
  ·rw[ex];exact K.sublist (cE _ _)
  ·rw[G];exact ao.sublist (aW _ _)
  ·rw[<- aO,ex]at d;rw[<- aO,G]at g;exact n p (cR d) r (cQ g)
  ·rw[<- aO,G]at g;rw[<- aT1,ex,cD,lx,show k+(a.length-k-1)=a.length-1 by lia,R]at d;cases d;exact f2 r g
  ·rw[<- aO,ex]at g;rw[<- aT1,G,aV (by lia),T]at d;cases d;exact e3 r g
 refine(λ(B:∀(m:Array Keyed) (b:SortSt),Sm (SortSt.mk' (kindOf st) (arrOf st) P (gallopOf st) (failedOf st)) b->Mgd ws x.toList y.toList m.toList->(?T:Array Keyed->SortSt->Prop) m b)=>?go) ?mn
 case go=>
  by_cases z2:a.length-k<=k2
  ·rw[ak z2];refine wpS_bind (IG C aq h.k λm b j o=>?_);exact B m b j o
  ·rw[aj z2];refine wpS_bind (IH C aq h.k λm b j o=>?_);exact B m b j o
 intro m b j o;refine wpS_bind (wpS_modify (wpS_bind (wpS_get ?_)));dsimp only;have hf:failedOf b=Y:=j.f.trans h.f;rw[show(failedOf b).isNone=M by rw[hf];rfl];rw[ex,G]at o;have ml:m.toList.length=(a.drop k++r2.take k2).length:=o.1.length_eq;have wr:=tm (pre.length+k) m.toList 0 (arrOf b) (pre++a.take k) (a.drop k++r2.take k2) (r2.drop k2++post) (by
  rw[j.a];show(arrOf st).toList=_;rw[t]
  conv=>lhs;rw[<- cM k a,<- cM k2 r2]
  simp only[bc]) (by rw[lA1,aT,Nat.add_zero];lia) ml.symm
 have bx:∀y∈m.toList,y∈a.drop k\/y∈r2.take k2:=λy D=>aH.mp (o.1.mem_iff.mp D);have au:=K.split k;have sp2:=ao.split k2;have X:∀y∈a,rk ws y<=rk ws v:=λy D=>K.take_lt R y (by rw[show a.length-1+1=a.length by lia,cg];exact D);refine wpS_pure (hs (r:=a.take k++(m.toList++r2.drop k2)) j.k j.f (by rw[show pendingOf (SortSt.mk' (kindOf b) _ (pendingOf b) (gallopOf b) (failedOf b))=pendingOf b from rfl,j.p];exact l) ?_ ?_ ?_)
 ·refine wr.trans ?_;simp only[bc]
 ·conv=>rhs;rw[<- cM k a,<- cM k2 r2]
  rw[bc];refine List.Perm.append_left _ ?_;rw[<- bc];exact o.1.append_right _
 ·refine Srt.app (K.sublist (aW _ _)) (Srt.app o.2 (ao.sublist (cE _ _)) λp d r g=>?_) (nk.to (λp d r g=>?_) λp d r g=>?_)
  ·rcases bx p d with F|F
   ·exact bN (X p (cR F)) (f3 r g)
   ·exact sp2 p F r g
  ·rcases bx r g with F|F
   ·exact au p d r F
   ·exact nL1 (U p d) (I r (cQ F))
  ·exact nL1 (U p d) (I r (cR g))
end
def kO(ws:List dM)(lo:Nat)(xs:Array Keyed)(i:Nat):Nat:=kR ws xs (lo+i)
def xV(ws:List dM)(lo:Nat)(xs:Array Keyed)(k:Nat):Prop:=∀i j,i<j->j<k->kO ws lo xs i<kO ws lo xs j
def JB(ws:List dM)(lo:Nat)(xs:Array Keyed)(k:Nat):Prop:=∀i j,i<j->j<k->kO ws lo xs j<kO ws lo xs i
structure SoL (κ:SortKind)(a₀:Array Keyed)(lo:Nat)(st0 st:SortSt):Prop where
 perm:(arrOf st).Perm a₀
 kind:kindOf st=κ
 failed:failedOf st=failedOf st0
 pend:pendingOf st=pendingOf st0
 pre:∀i,i<lo->(arrOf st)[i]?=(arrOf st0)[i]?
theorem SoL.arr{κ:SortKind}{a₀:Array Keyed}{lo:Nat}{st0 st:SortSt}(b:SoL κ a₀ lo st0 st){xs:Array Keyed}(p:xs.Perm (arrOf st))(hp:∀i,i<lo->xs[i]?=(arrOf st)[i]?):SoL κ a₀ lo st0 (setArr st xs):=⟨p.trans b.perm,b.kind,b.failed,b.pend,λi hi=>(hp i hi).trans (b.pre i hi)⟩
section
variable{κ:SortKind}{ws:List dM}{a₀:Array Keyed}{lo:Nat}{st0:SortSt}
theorem mG.cmpL(C:mG prog w A s κ ws a₀){st:SortSt}{i j:Nat}{Q:Option Bool->SortSt->Prop}(b:SoL κ a₀ lo st0 st)(hi:i<a₀.size)(d:j<a₀.size)(a:i≠j)(h:Q (Z (decide (kR ws (arrOf st) i<kR ws (arrOf st) j))) st):wpS (model prog w) A E s (ltAt' i j) Q st:=by
 obtain⟨x,q,e,f⟩:=C.at_ b.perm hi;obtain⟨y,r,k,g⟩:=C.at_ b.perm d;have c:kR ws (arrOf st) i≠kR ws (arrOf st) j:=λz=>a (C.inj b.perm hi d z);rw[ltAt'_eq];refine wpS_bind (wpS_get ?_);show wpS _ _ _ _ (do let x<-elem' (arrOf st) i;let y<-elem' (arrOf st) j;lt' x y) Q st;rw[elem'_eq,elem'_eq,e,k];refine wpS_bind (wpS_pure (wpS_bind (wpS_pure ?_)));rw[lt'_eq];refine wpS_bind (wpS_get ?_);rw[b.kind];exact wpS_bind (wpS_lift (wpAny_attempt (C.lt x y _ _ f g c _ _ ⟨O,wpS_pure h⟩)))
theorem xV.one{xs:Array Keyed}:xV ws lo xs 1:=λi j h1 h2=>by lia
theorem xV.snoc{xs:Array Keyed}{n:Nat}(u:xV ws lo xs n)(h:kO ws lo xs (n-1)<kO ws lo xs n):xV ws lo xs (n+1):=λi j h1 h2=>by
 by_cases z:j<n
 ·exact u i j h1 z
 ·have b:j=n:=by lia
  subst b;by_cases a:i=j-1
  ·rw[a];exact h
  ·exact bq (u i (j-1) (by lia) (by lia)) h
theorem JB.snoc{xs:Array Keyed}{n:Nat}(u:JB ws lo xs n)(h:kO ws lo xs n<kO ws lo xs (n-1)):JB ws lo xs (n+1):=λi j h1 h2=>by
 by_cases z:j<n
 ·exact u i j h1 z
 ·have b:j=n:=by lia
  subst b;by_cases a:i=j-1
  ·rw[a];exact h
  ·exact bq h (u i (j-1) (by lia) (by lia))
theorem A5(C:mG prog w A s κ ws a₀){xs:Array Keyed}(p:xs.Perm a₀){i j:Nat}(hi:lo+i<a₀.size)(b:lo+j<a₀.size)(a:i≠j):kO ws lo xs i≠kO ws lo xs j:=λe=>by
 have:=C.inj p hi b e;lia
theorem H7(C:mG prog w A s κ ws a₀){st:SortSt}{l:Nat}{Q:Option Nat->SortSt->Prop}(hn:lo+l<=a₀.size)(h1:1<=l)(b:SoL κ a₀ lo st0 st)(h:∀m st',SoL κ a₀ lo st0 st'->1<=m->m<=l->xV ws lo (arrOf st') m->Q (Z m) st'):wpS (model prog w) A E s (countRun' lo l) Q st:=by
 have t:∀ {st:SortSt} {a:Nat} {f:Nat->Option (Option Nat)×Nat->StateT SortSt Sem (ForInStep (Option (Option Nat)×Nat))} {Q:Option (Option Nat)×Nat->SortSt->Prop},SoL κ a₀ lo st0 st->1<=a->a<=l->xV ws lo (arrOf st) a ->
   (∀x c,f x c=(ltAt' (lo+c.2) (lo+c.2-1) >>= λr=>match r with
    |some z=>if z=M then pure (ForInStep.done (Y,c.2))else pure (ForInStep.yield (Y,c.2+1))
    |_=>pure (ForInStep.done (Z Y,c.2)))) ->
   (∀n,a<=n->n<=l->xV ws lo (arrOf st) n->(n=l\/kO ws lo (arrOf st) n<kO ws lo (arrOf st) (n-1))->Q (Y,n) st)->wpS (model prog w) A E s (forIn [a:l] (Y,a) f) Q st:=λ{st a f Q} b R o u aq I=>by
  refine wpS_forRange (λx c st'=>st'=st/\c=(Y,x)/\xV ws lo (arrOf st) x) ?_ ?_ ⟨O,O,u⟩
  ·rintro x c st' v y ⟨rfl,rfl,p⟩;rw[aq];dsimp only;refine wpS_bind (C.cmpL b (by lia) (by lia) (by lia) ?_);have e:kR ws (arrOf st') (lo+x-1)=kO ws lo (arrOf st') (x-1):=by unfold kO;congr 1;lia
   rw[e];by_cases z:kO ws lo (arrOf st') x<kO ws lo (arrOf st') (x-1)
   ·rw[show decide (kR ws (arrOf st') (lo+x)<kO ws lo (arrOf st') (x-1))=M from ah z];exact wpS_pure (I x v (by lia) p (.inr z))
   ·rw[show decide (kR ws (arrOf st') (lo+x)<kO ws lo (arrOf st') (x-1))=J from ai z];have:=A5 C b.perm (lo:=lo) (i:=x) (j:=x-1) (by lia) (by lia) (by lia);exact wpS_pure ⟨O,O,p.snoc (by lia)⟩
  ·rintro c st' ⟨rfl,rfl,p⟩;rw[Nat.max_eq_right o]at p ⊢;exact I l o (nR1 _) p (.inl O)
 rw[countRun'_eq];refine wpS_bind (t b (nR1 1) h1 .one (λx c=>rfl) λn h2 B u or=>?_);dsimp only;by_cases z:n=l
 ·rw[ak (by simpa using z)];exact wpS_pure (h n st b h2 B u)
 rw[aj (by simpa using z)];have L:=or.resolve_left z;by_cases H:n>1
 ·rw[ak H];have K:=u 0 (n-1) (by lia) (by lia);refine wpS_bind (C.cmpL b (by lia) (by lia) (by lia) ?_);have e:kR ws (arrOf st) (lo+n-1)=kO ws lo (arrOf st) (n-1):=by unfold kO;congr 1;lia
  rw[e,show decide (kR ws (arrOf st) lo<kO ws lo (arrOf st) (n-1))=M from ah K];exact wpS_pure (h n st b h2 B u)
 rw[aj H];have e:n=1:=by lia
 subst e;refine wpS_bind (wpS_lift (wpAny_rule ⟨O,?_⟩));refine wpS_bind (wpS_mono (wpS_forRange (λx c st'=>st'=st/\c=(Y,x,0)/\JB ws lo (arrOf st) x) (Q:=λc st'=>st'=st /\ ∃m,c=(Y,m,0)/\2<=m/\m<=l/\JB ws lo (arrOf st) m) ?_ ?_ ⟨O,O,λi j v y=>?_⟩) ?_)
 ·rintro x c st' v y ⟨rfl,rfl,q⟩;dsimp only;have e:kR ws (arrOf st') (lo+x-1)=kO ws lo (arrOf st') (x-1):=by unfold kO;congr 1;lia
  have ne:=A5 C b.perm (lo:=lo) (i:=x) (j:=x-1) (by lia) (by lia) (by lia);refine wpS_bind (C.cmpL b (by lia) (by lia) (by lia) ?_);rw[e];by_cases z:kO ws lo (arrOf st') x<kO ws lo (arrOf st') (x-1)
  ·rw[show decide (kR ws (arrOf st') (lo+x)<kO ws lo (arrOf st') (x-1))=M from ah z];exact wpS_pure ⟨O,O,q.snoc z⟩
  ·rw[show decide (kR ws (arrOf st') (lo+x)<kO ws lo (arrOf st') (x-1))=J from ai z];refine wpS_bind (C.cmpL b (by lia) (by lia) (by lia) ?_);rw[e,show decide (kO ws lo (arrOf st') (x-1)<kR ws (arrOf st') (lo+x))=M from ah (by show kO ws lo (arrOf st') (x-1)<kO ws lo (arrOf st') x;lia)];exact wpS_pure ⟨O,x,O,by lia,by lia,q⟩
 ·rintro c st' ⟨rfl,rfl,q⟩;rw[Nat.max_eq_right (by lia)]at q ⊢;exact⟨O,l,O,by lia,nR1 _,q⟩
 ·have av:i=0:=by lia
  have N:j=1:=by lia
  subst av;subst N;exact L
 ·rintro c st' ⟨rfl,m,rfl,m1,m2,d⟩;dsimp only;rw[aj (by lia)];have D:lo+m<=(arrOf st').size:=by rw[b.perm.size_eq];lia
  have F:∀k,(mirror (arrOf st') lo (lo+m) ((lo+m-lo)/2))[k]?=if lo<=k/\k<lo+m then(arrOf st')[lo+(lo+m)-1-k]? else(arrOf st')[k]?:=λk=>getElem?_mirror_all D k
  have G:SoL κ a₀ lo st0 (setArr st' (mirror (arrOf st') lo (lo+m) ((lo+m-lo)/2))):=b.arr (mirror_perm _ _ _ _) λk ao=>by rw[F,aj (by lia)]
  have g:∀k,k<m->kO ws lo (mirror (arrOf st') lo (lo+m) ((lo+m-lo)/2)) k=kO ws lo (arrOf st') (m-1-k):=λk ao=>lC (by
   rw[F,ak (by lia)]
   congr 1;lia)
  refine wpS_bind (wpS_reverse (wpS_bind (t G (by lia) m2 (λi j B P=>?_) (λx c=>rfl) λn v y u _=>wpS_pure (h n _ G (by lia) y u))));show kO ws lo (mirror (arrOf st') lo (lo+m) ((lo+m-lo)/2)) i<kO ws lo (mirror (arrOf st') lo (lo+m) ((lo+m-lo)/2)) j;rw[g i (by lia),g j P];exact d _ _ (by lia) (by lia)
theorem IP(C:mG prog w A s κ ws a₀){st:SortSt}{n ok:Nat}{Q:Bool->SortSt->Prop}(hn:lo+n<=a₀.size)(ao:ok<=n)(b:SoL κ a₀ lo st0 st)(u:xV ws lo (arrOf st) ok)(h:∀st',SoL κ a₀ lo st0 st'->xV ws lo (arrOf st') n->Q M st'):wpS (model prog w) A E s (binarySort' lo n ok) Q st:=by
 rw[binarySort'_eq];refine wpS_bind (wpS_mono (wpS_forRange (λk c st'=>c=(Y,())/\SoL κ a₀ lo st0 st'/\xV ws lo (arrOf st') (min k n)) (Q:=λc st'=>c=(Y,())/\SoL κ a₀ lo st0 st'/\xV ws lo (arrOf st') n) ?_ ?_ ⟨O,b,λi j h1 h2=>?_⟩) ?_)
 ·rintro k c st' G H ⟨rfl,d,f⟩;rw[bH (by lia)]at f;have t:lo+k<(arrOf st').size:=by rw[d.perm.size_eq];lia
  refine wpS_bind (wpS_mono (wpS_forRange (λx c a=>a=st' /\ ∃l r,c=(Y,l,r)/\l<=r/\r<=k/\r-l<=k-x/\(∀i,i<l->kO ws lo (arrOf st') i<kO ws lo (arrOf st') k) /\ ∀i,r<=i->i<k->kO ws lo (arrOf st') k<kO ws lo (arrOf st') i)
   (Q:=λc a=>a=st' /\ ∃l r,c=(Y,l,r)/\l<=k/\(∀i,i<l->kO ws lo (arrOf st') i<kO ws lo (arrOf st') k) /\ ∀i,l<=i->i<k->kO ws lo (arrOf st') k<kO ws lo (arrOf st') i) ?_ ?_ ⟨O,0,k,O,by lia,by lia,by lia,λi h1=>by lia,λi h1 h2=>by lia⟩) ?_)
  ·rintro x c a _ K ⟨rfl,l,r,rfl,h1,h2,q,p,o⟩;dsimp only;by_cases z:l>=r
   ·rw[ak z];have e:l=r:=by lia
    subst e;exact wpS_pure ⟨O,l,l,O,h2,p,o⟩
   ·rw[aj z];have L:(l+r)/2<k:=by lia
    refine wpS_bind (C.cmpL d (by lia) (by lia) (by lia) ?_);by_cases m:kO ws lo (arrOf a) k<kO ws lo (arrOf a) ((l+r)/2)
    ·rw[show decide (kR ws (arrOf a) (lo+k)<kR ws (arrOf a) (lo+(l+r)/2))=M from ah m];refine wpS_pure ⟨O,l,(l+r)/2,O,by lia,by lia,by lia,p,λi I F=>?_⟩;by_cases v:(l+r)/2=i
     ·rw[<- v];exact m
     ·exact bq m (f _ i (by lia) F)
    ·rw [show decide (kR ws (arrOf a) (lo+k)<kR ws (arrOf a) (lo+(l+r)/2))=false from decide_eq_false m];refine wpS_pure ⟨rfl,(l+r)/2+1,r,rfl,by lia,by lia,by lia,fun i I=>?_,o⟩;have D:kO ws lo (arrOf a) ((l+r)/2)<kO ws lo (arrOf a) k:=by
      have:=A5 C d.perm (lo:=lo) (i:=k) (j:=(l+r)/2) (by lia) (by lia) (by lia);lia
     by_cases v:i=(l+r)/2
     ·rw[v];exact D
     ·exact bq (f i _ (by lia) (by lia)) D
  ·rintro c a ⟨rfl,l,r,rfl,h1,h2,q,p,o⟩;have e:l=r:=by lia
   subst e;exact⟨O,l,l,O,h2,p,o⟩
  ·rintro c a ⟨rfl,l,r,rfl,h1,h2,q⟩;show wpS _ _ _ _ (do moveDown' (lo+k) (lo+l);pure (ForInStep.yield (none,()))) _ _;rw [moveDown'_eq];have y:∀ i,(bubble (arrOf a) (lo+k) (lo+k-(lo+l)))[i]? = if i=lo+l then (arrOf a)[lo+k]? else if lo+l<i/\i<=lo+k then (arrOf a)[i-1]? else (arrOf a)[i]?:=fun i=>by
    have e:=getElem?_bubble t (lo+k-(lo+l)) (by lia) i;rw[show lo+k-(lo+k-(lo+l))=lo+l by lia]at e;exact e
   refine wpS_bind (wpS_modify (wpS_pure ⟨O,d.arr (bubble_perm _ _ _) λi hi=>by rw[y,aj (by lia),aj (by lia)],?_⟩));rw[bH (by lia)];have g:∀i,kO ws lo (bubble (arrOf a) (lo+k) (lo+k-(lo+l))) i=if i=l then kO ws lo (arrOf a) k else if l<i/\i<=k then kO ws lo (arrOf a) (i-1)else kO ws lo (arrOf a) i:=λi=>by
    have e:=y (lo+i);by_cases B:i=l
    ·rw[ak (by lia)]at e;rw[ak B];exact lC e
    ·rw[aj (by lia)]at e;rw[aj B];by_cases m:l<i/\i<=k
     ·rw[ak (by lia)]at e;rw[ak m];refine lC (e.trans ?_)
      congr 1;lia
     ·rw[aj (by lia)]at e;rw[aj m];exact lC e
   intro i j p o;show kO ws lo (bubble (arrOf a) (lo+k) (lo+k-(lo+l))) i<kO ws lo (bubble (arrOf a) (lo+k) (lo+k-(lo+l))) j;rw[g,g]
   repeat' split
   all_goals first
    |(exfalso;lia)
    |exact h2 _ (by lia)
    |exact q _ (by lia) (by lia)
    |exact f _ _ (by lia) (by lia)
 ·rintro c st' ⟨hc,d,f⟩;refine⟨hc,d,?_⟩
  rwa [show min (max (max ok 1) n) n=n by lia]at f
 ·by_cases z:ok=0
  ·lia
  ·exact u i j h1 (by lia)
 ·rintro c st' ⟨rfl,d,f⟩;exact wpS_pure (h st' d f)
end
theorem ou:∀{s:Nat} {rs:List (List Keyed)} {p:List (Nat×Nat×Nat)},f0 s rs p->p.length=rs.length
 |_,[],[],_=>rfl
 |_,[],_::_,h=>by cases h
 |_,_::_,[],h=>by cases h
 |s,r::rs,(t,n,pw)::p,⟨_,_,h⟩=>by rw[lC1,lC1,ou h]
theorem qj:∀{s:Nat} {rs:List (List Keyed)} {p:List (Nat×Nat×Nat)} {r:List Keyed} {pw:Nat},f0 s rs p->f0 s (rs++[r]) (p++[(s+rs.flatten.length,r.length,pw)])
 |_,[],[],_,_,_=>⟨by simp,O,trivial⟩
 |_,[],_::_,_,_,h=>by cases h
 |_,_::_,[],_,_,h=>by cases h
 |s,r::rs,(t,n,pw)::p,r',pw',⟨e1,e2,h⟩=>by
  refine⟨e1,e2,?_⟩;have:=qj (r:=r') (pw:=pw') h
  rwa [bu,<- lA1,<- aZ]at this
theorem tX{g:Nat×Nat×Nat->Nat×Nat×Nat}(hg:∀x,(g x).1=x.1/\(g x).2.1=x.2.1):∀{s:Nat} {rs:List (List Keyed)} {p:List (Nat×Nat×Nat)} {k:Nat},f0 s rs p->f0 s rs (p.modify k g)
 |_,[],[],k,_=>by cases k<;>exact trivial
 |_,[],_::_,_,h=>by cases h
 |_,_::_,[],_,h=>by cases h
 |s,r::rs,(t,n,pw)::p,0,⟨e1,e2,h⟩=>by
  obtain⟨b,a⟩:=hg (t,n,pw);show f0 s (r::rs) (g (t,n,pw)::p);exact⟨b.trans e1,a.trans e2,h⟩
 |s,r::rs,(t,n,pw)::p,k+1,⟨e1,e2,h⟩=>⟨e1,e2,tX hg h⟩
section
variable{κ:SortKind}{ws:List dM}{a₀:Array Keyed}{rs:List (List Keyed)}{rest:List Keyed}{st st':SortSt}
theorem SR.size(h:SR ws κ a₀ rs rest st):rs.flatten.length+rest.length=a₀.size:=by
 have:=congrArg List.length h.ar;rw[aK,h.pm.size_eq,lA1]at this;exact this.symm
theorem SR.many(h:SR ws κ a₀ rs rest st):rs.length<=rs.flatten.length:=by
 have:∀{l:List (List Keyed)},(∀r∈l,r≠[])->l.length<=l.flatten.length:=by
  intro l
  induction l with
  |nil=>intro _;exact nR1 _
  |cons r l ih=>
   intro a;have h1:=ih λx b=>a x (mC1 _ b);have h2:0<r.length:=cP.mpr (a r mS1);rw[lC1,aZ,lA1];lia
 exact this λr a=>(h.so r a).2
theorem SoL.sr(h:SR ws κ a₀ rs rest st)(b:SoL κ a₀ rs.flatten.length st st'):SR ws κ a₀ rs ((arrOf st').toList.drop rs.flatten.length) st':=by
 refine⟨b.kind,b.failed.trans h.f,b.perm,?_,h.so,by rw[b.pend];exact h.pe⟩;have:(arrOf st').toList.take rs.flatten.length=rs.flatten:=by
  have e:(arrOf st).toList.take rs.flatten.length=rs.flatten:=by rw[h.ar,df]
  rw[<- e];refine b7 λi=>?_;by_cases hi:i<rs.flatten.length
  ·rw[e,aV hi,<- e,aV hi,aT1,aT1];exact b.pre i hi
  ·rw[e,b8 (by rw[aT];lia),b8 (by lia)]
 conv=>lhs;rw[<- cM rs.flatten.length (arrOf st').toList,this]
theorem wl{lo n:Nat}(hp:(arrOf st').Perm a₀)(hn:lo+n<=a₀.size)(u:xV ws lo (arrOf st') n):Srt ws (((arrOf st').toList.drop lo).take n):=by
 refine cw.mpr λi j hi b a=>?_;rw[aT,cV]at hi b;have:=u i j a (by lia);have c:=hp.size_eq;rw[aK]at hi b;unfold kO kR at this;rw[aG1 (show lo+i<(arrOf st').size by lia),aG1 (show lo+j<(arrOf st').size by lia)]at this;simpa using this
theorem Jr(C:mG prog w A s κ ws a₀){Q:Unit->SortSt->Prop}(h0:SR ws κ a₀ [] a₀.toList st)(h2:2<=a₀.size)(q:∀st',(arrOf st').Perm a₀->failedOf st'=Y->Srt ws (arrOf st').toList->Q () st'):wpS (model prog w) A E s sortRuns' Q st:=by
 rw[sortRuns'_eq];refine wpS_bind (wpS_get ?_);dsimp only;generalize minRun' (arrOf st).size (arrOf st).size 0=mr;rw[h0.pm.size_eq];refine wpS_bind (wpS_mono (wpS_forRange (λx c st'=>∃rs rest,SR ws κ a₀ rs rest st'/\c=(Y,rs.flatten.length)/\x<=rs.flatten.length)
  (Q:=λc st'=>∃rs lo,SR ws κ a₀ rs [] st'/\c=(Y,lo)) ?_ ?_ ⟨[],a₀.toList,h0,O,nR1 _⟩) ?_)
 ·rintro x c st' _ hx ⟨rs,rest,h,rfl,N⟩;have y:=h.size;dsimp only;by_cases z:rs.flatten.length>=a₀.size
  ·rw[ak z];have e:rest=[]:=cu.mp (by lia);subst e;exact wpS_pure ⟨rs,_,h,O⟩
  rw[aj z];refine wpS_bind (H7 (lo:=rs.flatten.length) (st0:=st') C (by lia) (by lia) ⟨h.pm,h.k,O,O,λ_ _=>rfl⟩ λm st2 b m1 m2 u=>?_);dsimp only;have D:=b.sr h;have W:=D.size;refine(λ(t:∀(n:Nat) (j:SortSt) (a:List Keyed),SR ws κ a₀ rs a j->Srt ws (a.take n)->1<=n->n<=a.length->(?T:Nat->SortSt->Prop) n j)=>?go) ?mn
  case go=>
   by_cases T:m<mr
   ·rw[ak T];refine wpS_bind (wpS_lift (wpAny_rule ⟨O,?_⟩));refine wpS_bind (IP (lo:=rs.flatten.length) (st0:=st') C (n:=min (a₀.size-rs.flatten.length) mr) (by lia) (by lia) b u λj b3 u3=>?_);simp only[b9,bF1,if_false];have G:=b3.sr h;have U:=G.size;have o:=wl b3.perm (by lia) u3;have R:1<=min (a₀.size-rs.flatten.length) mr:=by lia
    have F:min (a₀.size-rs.flatten.length) mr<=((arrOf j).toList.drop rs.flatten.length).length:=by lia
    generalize min (a₀.size-rs.flatten.length) mr=n at o R F ⊢;exact t n j _ G o R F
   ·rw[aj T];have o:=wl b.perm (by lia) u;have F:m<=((arrOf st2).toList.drop rs.flatten.length).length:=by lia
    generalize hst:st2=j at D o F ⊢;generalize hmn:m=n at o m1 F ⊢;exact t n j _ D o m1 F
  intro n j a L hs n1 av;refine wpS_bind (wpS_get ?_);have wq:=L.size;refine(λ(p:∀(f:List (List Keyed)) (d:SortSt),SR ws κ a₀ f a d->(?T2:SortSt->Prop) d)=>?go2) ?mn2
  case go2=>
   cases hb:(pendingOf j).back? with
   |none=>
    dsimp only;exact p rs j L
   |some q1=>
    obtain⟨au,v,pw1⟩:=q1;dsimp only;generalize power' a₀.size (2*au+v) (2*au+v+v+n) a₀.size=pv;refine wpS_bind (wpS_mono (wpS_forRange (λx c d=>c=(Y,()) /\ ∃f,SR ws κ a₀ f a d) (Q:=λc d=>c=(Y,()) /\ ∃f,SR ws κ a₀ f a d) ?_ (λ_ _ h=>h) ⟨O,rs,L⟩) ?_)
    ·rintro x c d _ hx ⟨rfl,f,k⟩;have B:=ou k.pe;rw[aK]at B;refine wpS_bind (wpS_get ?_);by_cases S:(pendingOf d).size>1
     ·rw[ak S,aG1 (show(pendingOf d).size-2<(pendingOf d).size by lia)];generalize (pendingOf d)[(pendingOf d).size-2]'(by lia)=pq;obtain⟨pa,pb,pc⟩:=pq;dsimp only;by_cases V:pc<=pv
      ·rw[ak V];exact wpS_pure ⟨O,f,k⟩
      ·rw[aj V];refine wpS_bind (k.merge C (i:=(pendingOf d).size-2) (gG1 (by lia)) (gG1 (by lia)) λr l I=>?_);simp only[b9,bF1,if_false];exact wpS_pure ⟨O,_,I⟩
     ·rw[aj S];exact wpS_pure ⟨O,f,k⟩
    ·rintro c d ⟨rfl,f,k⟩;dsimp only;refine wpS_bind (wpS_modify ?_);refine p f _ ⟨k.k,k.f,k.pm,k.ar,k.so,?_⟩;show f0 0 f ((pendingOf d).modify ((pendingOf d).size-1) _).toList;rw[Array.toList_modify];exact tX (g:=λx=>(x.1,x.2.1,pv)) (λx=>⟨O,O⟩) k.pe
  intro f d k;have X:=k.size;have H:rs.flatten.length=f.flatten.length:=by lia
  refine wpS_bind (wpS_modify (wpS_pure ⟨f++[a.take n],a.drop n,⟨k.k,k.f,k.pm,?_,?_,?_⟩,?_,?_⟩))
  ·refine k.ar.trans ?_;rw[de,bc];simp
  ·intro r K;rcases aH.mp K with ao|ao
   ·exact k.so r ao
   ·rw[c5.mp ao];exact⟨hs,λe=>by have:=congrArg List.length e;rw[aT,bn]at this;lia⟩
  ·show f0 0 _ ((pendingOf d).push (rs.flatten.length,n,0)).toList;rw[cA,H];have:=qj (r:=a.take n) (pw:=0) k.pe
   rwa [bT,aT,bH av]at this
  ·rw[de,lA1,H,List.flatten_singleton,aT,bH av]
  ·rw[de,lA1,List.flatten_singleton,aT,bH av];lia
 ·rintro c st' ⟨rs,rest,h,rfl,N⟩;have y:=h.size;have e:rest=[]:=cu.mp (by lia);subst e;exact⟨rs,_,h,O⟩
 ·rintro c st' ⟨rs,lo,h,rfl⟩;dsimp only;have y:=h.size;rw[bn,Nat.add_zero]at y;have P:=h.many;refine wpS_bind (wpS_mono (wpS_forRange (λx c st2=>c=(Y,()) /\ ∃rs,SR ws κ a₀ rs [] st2/\rs.length+x<=a₀.size) (Q:=λc st2=>c=(Y,()) /\ ∃rs,SR ws κ a₀ rs [] st2/\rs.length<=1) ?_ ?_ ⟨O,rs,h,by lia⟩) ?_)
  ·rintro x c st2 _ hx ⟨rfl,rs,h,aq⟩;have B:=ou h.pe;rw[aK]at B;refine wpS_bind (wpS_get ?_);by_cases z:(pendingOf st2).size<=1
   ·rw[ak z];exact wpS_pure ⟨O,rs,h,by lia⟩
   rw[aj z];have mg:∀i,i+1<rs.length -> ∀{Q:Bool->SortSt->Prop},(∀r l,SR ws κ a₀ r [] l->r.length+1=rs.length->Q M l)->wpS (model prog w) A E s (mergeAt' i) Q st2:=λi hi Q hq=>
    h.merge C (i:=i) (gG1 (by lia)) (gG1 hi) λr l I=>hq _ l I (by rw[lA1,lC1,aT,cV];lia)
   refine wpS_bind (mg _ ?_ λr l I hl5=>?_)
   ·split<;>lia
   ·simp only[b9,bF1,if_false];exact wpS_pure ⟨O,r,I,by lia⟩
  ·rintro c st2 ⟨rfl,rs,h,aq⟩;exact⟨O,rs,h,by lia⟩
  ·rintro c st2 ⟨rfl,rs,h,aq⟩;refine wpS_pure (q st2 h.pm h.f ?_);rw[h.ar,aP]
   match rs,aq,h.so with
   |[],_,_=>exact .nil
   |[r],_,so=>simpa using(so r (by simp)).1
end
theorem Fa{ws:List dM}{xs a₀:Array Keyed}(p:xs.Perm a₀)(h:Srt ws xs.toList):Up ws xs a₀.size:=λi j a c=>by
 have b:=p.size_eq;have:=cw.mp h i j (by rw[aK];lia) (by rw[aK];lia) a;unfold kR;rw[aG1 (show i<xs.size by lia),aG1 (show j<xs.size by lia)];simpa using this
theorem zV {a:dP}{vs ws:List dM}{n:Nat}{κ:SortKind}{P:Fin->dN->Prop}(ho:s.heap.get? a=some (seqObj "list" vs.toArray n))(v:vs.length<=dW)(hp:vs.Perm ws)
  (q:∀h',(∀b o,b≠a->s.heap.get? b=Z o->h'.get? b=Z o)->2<=vs.length->mG prog w A {s with heap:=h'} κ ws (pairsOf vs) /\ ∀Q:SortKind->dN->Prop,Q κ {s with heap:=h'}->dX (model prog w) A (keyKind' vs.toArray) Q E {s with heap:=h'})
  (h:P (.done (.ret .none)) {s with heap:=sortedHeap s.heap a vs ws.toArray}):dX (model prog w) A (Builtin.«list.sort» ⟨[.ref a],[]⟩) P E s:=by
 rw[list_sort_plain];have u:a<s.heap.objs.size:=hL1 ho;refine wB1 (listItems_at ho O ?_);refine wB1 (listUpdate_at ho O ?_);obtain⟨i,d⟩:∃i,(s.heap.update a (Obj.mapSeq λ_=> #[])).get? a=some (seqObj "list" #[] i):=⟨_,get?_update_seq ho (λ_=> #[])⟩;refine wB1 (seqEpoch_at d O (wB1 (wpAny_newTuple (wB1 (wpAny_newList (wpAny_holding ?_))))));have keep:∀b o,b≠a->s.heap.get? b=Z o->(((s.heap.update a (Obj.mapSeq λ_=> #[])).push (seqObj "tuple" vs.toArray 0)).push (seqObj "list" #[] 0)).get? b=Z o:=λb o l e=>
  hP1 _ (hP1 _ (by rw[hU1 _ _ _ _ l];exact e))
 have c:(((s.heap.update a (Obj.mapSeq λ_=> #[])).push (seqObj "tuple" vs.toArray 0)).push (seqObj "list" #[] 0)).get? a=Z (seqObj "list" #[] i):=hP1 _ (hP1 _ d);show dX (model prog w) A _ P E {s with heap:=((s.heap.update a (Obj.mapSeq λ_=> #[])).push (seqObj "tuple" vs.toArray 0)).push (seqObj "list" #[] 0)};dsimp only;have t:vs.toArray.size=vs.length:=by simp
 have g:=hp.length_eq;have f:∀xs:Array Keyed,xs.map (·.2)=ws.toArray->P (.done (.ret .none)) {s with heap:=sortedHeap s.heap a vs (xs.map (·.2))}:=λxs e=>by rw[e];exact h
 by_cases h2:vs.toArray.size<2
 ·rw [if_pos h2,if_pos h2];refine wB1 (wP1 ?_);rw [StateT.run_pure];refine wB1 (wP1 (wB1 (seqEpoch_at c rfl ?_)));have e:((vs.toArray.zip vs.toArray).map (·.2):Array dM)=ws.toArray:=by
   have:vs=ws:=by
    match vs,ws,hp,h2 with
    |[],ws,hp,_=>exact(List.nil_perm.mp hp).symm
    |[x],ws,hp,_=>exact(List.singleton_perm.mp hp).symm ▸ rfl
    |_::_::_,_,_,h2=>simp at h2;lia
   subst this;apply Array.ext';simp;exact List.map_snd_zip (nR1 _)
  refine wB1 (listUpdate_at c O ?_ (hsz2:=by
   show(Array.map (·.2) (vs.toArray.zip vs.toArray)).size<=_;rw[e,sT1,<- g];lia))
  simp only[bne_self_eq_false,bF1,if_false];exact wP1 (f _ e)
 ·rw [if_neg h2,if_neg h2];obtain ⟨C,K⟩:=q _ keep (by lia);refine wB1 (K _ ?_);refine wB1 (wpAny_mono (Jr C (st:=SortSt.mk' κ (vs.toArray.zip vs.toArray) #[] 7 none)
   (Q:=λ_ st'=>(arrOf st').Perm (pairsOf vs)/\failedOf st'=Y/\Srt ws (arrOf st').toList) ⟨O,O,Array.Perm.refl _,O,(λr p=>by cases p),trivial⟩ (by rw[pairsOf_size];lia) λst' a1 a2 a3=>⟨a1,a2,a3⟩) ?_ λ_ _ e=>e)
  rintro⟨⟨⟩,st'⟩ s' ⟨rfl,j,m,k⟩;have e:=Fd C j (Fa j k);refine wB1 (seqEpoch_at c O ?_);refine wB1 (listUpdate_at c O ?_ (hsz2:=by
   show(Array.map (·.2) (arrOf st')).size<=_;rw[e,sT1,<- g];lia))
  rw[m];simp only[bne_self_eq_false,bF1,if_false];exact wP1 (f _ e)
theorem vn {v:dM}{vs ws:List dM}{κ:SortKind}{Q:dM->dN->Prop}(k:vs.length<=dW)(f:vs.Perm ws)
  (d:∀(E:dM->dN->Prop) (Q:List dM->dN->Prop),(∀h',(∀b u,s.heap.get? b=Z u->h'.get? b=Z u)->s.heap.objs.size<=h'.objs.size->Q vs {s with heap:=h'})->dX (model prog w) A.in1 (collect v) Q E s)
  (o:∀a:dY,(∀b u,s.heap.get? b=Z u->a.get? b=Z u)->mG prog w A.in1.in1 {s with heap:=a} κ ws (pairsOf vs) /\
   (vs≠[] -> ∀(E:dM->dN->Prop) (Q:SortKind->dN->Prop),Q κ {s with heap:=a}->dX (model prog w) A.in1.in1 (keyKind' vs.toArray) Q E {s with heap:=a}))
  (i:∀(a:dY) (L:dP) (n:Nat),(∀b u,s.heap.get? b=Z u->a.get? b=Z u)->s.heap.objs.size<=L->a.get? L=Z (seqObj "list" ws.toArray n)->Q (.ref L) {s with heap:=a}):
  dX (model prog w) A (call (.builtin "sorted") [v]) Q E s:=by
 refine Calls.call_function_entry kind_sorted plain_sorted entry_sorted (args_sorted1 _) ?_;unfold Builtin.«sorted»;refine wB1 (m:=checkCount "sorted" 1 1 _) (wP1 ?_);refine wB1 (d _ _ λh' keep g=>?_);refine wB1 (wpAny_newList (hsz:=k) ?_);have c:(h'.push (seqObj "list" vs.toArray 0)).get? h'.objs.size=Z (seqObj "list" vs.toArray 0):=hS1 _ O;show dX _ _ _ _ _ {s with heap:=h'.push (seqObj "list" vs.toArray 0)};refine wB1 (wpAny_holding (wE1 slot_list_sort ⟨_,c,O⟩ entry_list_sort (zV (s:={s with heap:=h'.push (seqObj "list" vs.toArray 0)}) (κ:=κ) (ws:=ws) c k f (λa l h2=>?_) ⟨_,O,?_⟩) (args_list_sort _)))
 ·have:=o a λb u e=>l b u (nN1 (hL1 (keep b u e))) (hP1 _ (keep b u e));exact⟨this.1,this.2 (λz=>by rw[z]at h2;simp at h2) _⟩
 ·obtain⟨n,h⟩:=sortedHeap_at (out:=ws.toArray) c;refine wP1 ⟨_,O,i _ h'.objs.size n (λb u e=>?_) g h⟩;have j:b<h'.objs.size:=hL1 (keep b u e);show(sortedHeap (h'.push (seqObj "list" vs.toArray 0)) h'.objs.size vs ws.toArray).get? b=Z u;rw[sortedHeap_old (nN1 j) (by rw[hZ1];exact cJ j)];exact hP1 _ (keep b u e)
def oN:G1:=λd S=>match et S d with
 |some (M,xs)=>(oM xs).bind λ_=>if(nF xs&&(mQ (kP xs)&&decide (xs.length<=100000)))=M then Z (.ref S.length,S++[.lst (kP xs)])else Y
 |_=>Y
theorem D3(P:X.A.units+64<cLine):fH X (.builtin "sorted") (rN X.K (b1 oN)):=by
 intro ag s σ H xs U Q I r h;obtain⟨x,mu,S,d,R,T,rfl,G,m,g,hc⟩:=Ep h;unfold oN at g;split at g
 ·rename_i ds C;obtain⟨f,B,g⟩:=oB1.mp g;split at g
  ·rename_i c;cases g;rw[bA1,bA1,am]at c;obtain⟨a,vs,rfl,q,t⟩:=eB G m C;obtain⟨u,rfl,r2⟩:=jr r;cases r2;obtain⟨l,p,N,V⟩:=I.list q;have k:l.length=ds.length:=by rw[<- p.length,<- t.length]
   have i:l.length<=dW:=by rw[k,sizeLine_eq];lia
   obtain⟨w,zs,F,K,av,ao,D⟩:=Fc I m (A:=X.A.in1.in1) (by show X.A.units+1+1+60<cLine;lia) (f:=f) t p c.1 (vP B) c.2.1;refine vn i av (λE Q q=>?_) D (λaq L n keep y v=>?_)
   ·refine collect_list N.isList (q _ (λb u e=>?_) ?_) i
    ·have z:b<s.heap.objs.size:=hL1 e;rw[hU1 _ _ _ _ (nN1 z)];exact hP1 _ e
    ·rw[Heap.size_update,hZ1];exact a0 _
   ·have j:H L=Y:=I.hok.fresh y;refine⟨.ref L,_,I.laid (t':=s.toks) (o:=.lst w) keep y ⟨?_,zs,n,K,v⟩,O,hc _ _ (mu++[L]) (Ext.new_ j) (.ref (gZ m.len _)) (m.newL F j)⟩;rw[ao,p.length];exact i
  ·cases g
 ·cases g
theorem rf:entryFor table "dict.update.loop"=Z Builtin.«dict.update.loop» :=entryFor_of_tree (by kernel_rfl)
theorem jT:plainId "dict.update.loop"=M:=by decide+kernel
theorem yu:typeLookup (.type "list") (Str.ofString "keys")=pure Y:=by rw[typeLookup_type,builtinLookup_eq_fast];kernel_rfl
section
variable{P:dQ}{w:dS}{A:dR}{E:dM->dN->Prop}{s:dN}
theorem zh {a:dP}{xs:Array dM}{k:Nat}{sl:Array (Option dM)}{Q:Option dM->dN->Prop}(hx:s.heap.get? a=some {cls:=.type "list",dict:=none,data:=.seq xs k,slots:=sl})(m:A.handled=none)
  (h:∀h' tk,(∀b o,s.heap.get? b=Z o->h'.get? b=Z o)->Q Y {s with heap:=h',toks:=tk}):dX (model P w) A (getAttr? (.ref a) (Str.ofString "keys")) Q E s:=by
 obtain⟨j,g,d,tk,l⟩:=s;have i:∀c,(⟨j,g,d,c,l⟩:dN).TypeIs (.ref a) "list":=λ_=>⟨_,hx,O⟩;have u:=sub_AttributeError;have v:=PySem.F.slot_list_getattribute.lookup;have p:=PySem.F.slot_list_getattribute.bind (.ref a);have t:=am_list_getattr_none;unfold getAttr? getAttrBy? getAttrBy
 repeat(any_goals (first|assumption|exact i _|((with_reducible show dX _ _ (call (Value.builtin "list.__getattribute__") _ _) _ _ _);refine call_meets PySem.F.slot_list_getattribute (i _) am_entry_list_getattribute (PySem.F.args_list_getattribute_2 _ _) (meets_getattribute_miss_list a xs k sl _ _ yu (by decide) (by decide)) ⟨hx,m,λh' c e f=>?_⟩)|wp_step))
 obtain⟨n,q,r⟩:=f.there;show dX _ _ (getattributeRaised _ _ _ _ _ _ _) _ _ _;unfold getattributeRaised
 repeat(any_goals (first|assumption|wp_step))
 exact h _ _ f.keeps
variable{K:Type} [DecidableEq K] {knd:HeapKind P w K}
abbrev u6(K:Type):=K×dP×dM
noncomputable def hA(ps:List (u6 K)):List (u6 K):=ps.foldl (λa q=>storedH a q.1 q.2.1 q.2.2) []
theorem tF(xs:List (u6 K))(k:K)(a:dP)(v:dM):(storedH xs k a v).length<=xs.length+1:=by
 unfold storedH;split
 ·rw[lM1];exact a0 _
 ·rw[lA1];exact nR1 _
theorem qT:∀(ps acc:List (u6 K)),(ps.foldl (λa q=>storedH a q.1 q.2.1 q.2.2) acc).length<=acc.length+ps.length
 |[],acc=>nR1 _
 |p::ps,acc=>by
  rw[bd,lC1];have h1:=qT ps (storedH acc p.1 p.2.1 p.2.2);have h2:=tF acc p.1 p.2.1 p.2.2;lia
theorem vT{ps:List (u6 K)}{i:Nat}{q:u6 K}(h:ps[i]?=Z q):hA (ps.take (i+1))=storedH (hA (ps.take i)) q.1 q.2.1 q.2.2:=by
 unfold hA;rw[cH,h,cI];rfl
theorem uC{F:u6 K->Prop}(d:∀(k:K) (a:dP) (v e:dM),F (k,a,v)->F (k,a,e)):∀(ps acc:List (u6 K)),(∀x∈ps,F x)->(∀x∈acc,F x) -> ∀x∈ps.foldl (λa q=>storedH a q.1 q.2.1 q.2.2) acc,F x
 |[],acc,_,h=>h
 |p::ps,acc,hp,h=>by
  rw[bd];refine uC d ps _ (λx b=>hp x (mC1 _ b)) λx b=>?_;unfold storedH at b;split at b
  ·obtain⟨y,c,rfl⟩:=cj.mp b;unfold putAt;split
   ·exact d _ _ y.2.2 _ (h y c)
   ·exact h y c
  ·rcases aH.mp b with z|z
   ·exact h x z
   ·simp at z;subst z;exact hp p mS1
theorem Bl{h:dY}{ps:List (u6 K)}(hp:∀x∈ps,knd.is h x.1 x.2.1):∀x∈hA ps,knd.is h x.1 x.2.1:=
 uC (F:=λx=>knd.is h x.1 x.2.1) (λ_ _ _ _ z=>z) ps [] hp λx a=>by cases a
theorem yX{d l it:dP}{h0:dY}{its:Array dM}{ps:List (u6 K)}{R:Result->dN->Prop}(hh:A.handled=none)(X:knd.room A.in1)(v:its.size=ps.length)(hps:ps.length<=dW)(S:h0.IsList l its)(nd:h0.get? d=none)(ni:h0.get? it=none)(g:d≠it)(f:∀(h:dY) (k:K) (a:dP),(∀c o,h0.get? c=some o->h.get? c=some o)->knd.is h0 k a->knd.is h k a)(V:∀(i:Nat) (q:u6 K),ps[i]?=some q -> ∃C:dP,its[i]?=some (Value.ref C)/\h0.IsTuple C #[Value.ref q.2.1,q.2.2]/\knd.is h0 q.1 q.2.1):
  ∀(n i:Nat) (s:dN),its.size-i=n->i<=its.size->(∀c o,h0.get? c=Z o->s.heap.get? c=Z o)->s.heap.IsListIter it l i->s.heap.DictOfH knd d (hA (ps.take i)) ->
  (∀h' tk,(∀c o,h0.get? c=Z o->h'.get? c=Z o)->h'.DictOfH knd d (hA ps)->R (.ok (.ret .none)) {s with heap:=h',toks:=tk})->codeAny (model P w) A (.builtin "dict.update.loop" ⟨[.ref d,.ref it,.int i 0,.none],[]⟩) R s:=by
 have D:∀{c:dP} {o:Obj},h0.get? c=Z o->c≠d/\c≠it:=λ{c o} e=>⟨λz=>(by rw[z,nd]at e;cases e),λz=>(by rw[z,ni]at e;cases e)⟩;have B:∀i,∀x∈hA (ps.take i),knd.is h0 x.1 x.2.1:=λi=>Bl λx p=>by
  obtain⟨j,wq⟩:=bA (cQ p);obtain⟨_,_,_,h⟩:=V j x wq;exact h
 intro n
 induction n with
 |zero=>
  intro i s hk hi keep st av q;have e:i=its.size:=by lia
  subst e;have m:s.heap.IsList l its:=by obtain⟨o,e,r⟩:=S;exact⟨o,keep _ _ e,r⟩
  refine wD1 rf (?_:_);rw[Around.under_plainId jT _];show dX _ A.in1 (pyNext (.ref it) >>= _) _ _ s;refine wB1 (wpAny_pyNext_list_end (by simpa using hh) st m (by simp) λh' H=>?_);refine wB1 (wP1 (wP1 ?_));refine q h' s.toks (λc o e=>H c o (D e).2 (keep c o e)) ?_;have y:h'.DictOfH knd d (hA (ps.take its.size)):=by
   obtain⟨o,es,ep,E,N,Q,L,g5,ao⟩:=av;have k2:∀x∈hA (ps.take its.size),knd.is h' x.1 x.2.1:=λx p=>f _ _ _ (λc o e=>H c o (D e).2 (keep c o e)) (B _ x p);exact⟨o,es,ep,H d o g E,N,Q,L,k2,ao⟩
  rw[v,cg]at y;exact y
 |succ n ih=>
  intro i s hk hi keep st av q;have aq:i<its.size:=by lia
  have m:s.heap.IsList l its:=by obtain⟨o,e,r⟩:=S;exact⟨o,keep _ _ e,r⟩
  obtain⟨pr,u⟩:∃pr,ps[i]?=some pr:=⟨_,gG1 (by lia)⟩;obtain⟨C,p,⟨op,U,hc,np,hd⟩,I⟩:=V i pr u;refine wD1 rf (?_:_);rw[Around.under_plainId jT _];show dX _ A.in1 (pyNext (.ref it) >>= _) _ _ s;refine wB1 (wpAny_pyNext_list_item st m p λh' st' W=>?_);have b:∀c o,h0.get? c=Z o->h'.get? c=Z o:=λc o e=>by rw[W.2 c (D e).2];exact keep c o e
  have F:h'.DictOfH knd d (hA (ps.take i)):=by
   obtain⟨o,es,ep,E,N,Q,L,g5,ao⟩:=av;exact⟨o,es,ep,by rw[W.2 d g];exact E,N,Q,L,λx p=>f _ _ _ b (B _ x p),ao⟩
  show dX _ A.in1 (holding [Value.ref C] _ >>= _) _ _ _;refine wB1 (wpAny_holding (wB1 (wpAny_tryCatch ?_)));unfold Builtin.Dict.pairItems;refine wB1 (wpAny_typeOf (T:="tuple") ⟨op,b _ _ U,hc⟩ ?_);rw[ak (by decide)];refine wB1 (wpAny_seqItems (b _ _ U) hd (wP1 ?_));dsimp only[cb];refine wpAny_holding (wpAny_dictSet_heap (s:={s with heap:=h'}) X (f _ _ _ b I) F (λh2 G t=>?_) ?_)
  ·refine wP1 ⟨plainId_quiet jT _,?_⟩;have hq:=ih (i+1) {s with heap:=h2,toks:=s.toks+knd.draws pr.1} (by lia) aq (fun c o e=>by rw [t.2 c (D e).1];exact b c o e) (by
    obtain⟨o,e1,e2⟩:=st';exact⟨o,by rw[t.2 it (Ne.symm g)];exact e1,e2⟩) (by rw[vT u];exact G) λau tk k3 x3=>q au tk k3 x3
   exact hq
  ·have:=qT (ps.take i) [];unfold hA;rw[aT]at this;simp at this;lia
theorem v4 {l:dP}{xs:Array dM}{m:Nat}{sl:Array (Option dM)}{Q:dM->dN->Prop}(n:A.handled=none)(hx:s.heap.get? l=some {cls:=.type "list",dict:=none,data:=.seq xs m,slots:=sl})
  (i:∀(k:dR) (h1:dY) (tk:Nat) (it:dP),k.handled=Y->k.units<=A.units+2->(∀b o,s.heap.get? b=Z o->h1.get? b=Z o)->s.heap.get? it=Y->s.heap.objs.size≠it->h1.IsListIter it l 0->h1.DictOfH knd s.heap.objs.size [] ->
   ∀R:Result->dN->Prop,(∀s',Q (.ref s.heap.objs.size) s'->R (.ok (.ret .none)) s')->codeAny (model P w) k (.builtin "dict.update.loop" ⟨[.ref s.heap.objs.size,.ref it,.int 0 0,.none],[]⟩) R {s with heap:=h1,toks:=tk}):
  dX (model P w) A (call (.type "dict") [.ref l]) Q E s:=by
 refine callType_codes (Q₁:=λg c=>g = .ref s.heap.objs.size/\c={s with heap:=s.heap.push {cls:=.type "dict",data:=.dict #[]}}) PySem.F.kt_called_dict (PySem.F.kt_typeCall_dict_1 _) PySem.F.entry_dict_init (kt_code_dict_new _ ⟨O,O⟩) ?_;rintro g c ⟨rfl,rfl⟩;have d:(s.heap.push {cls:=.type "dict",data:=.dict #[]}).DictOfH knd s.heap.objs.size []:=Heap.DictOfH.new s.heap;have p:Shared.TypeIs {s with heap:=s.heap.push {cls:=.type "dict",data:=.dict #[]}} (.ref s.heap.objs.size) "dict":=d.typeIs;have h:(s.heap.push {cls:=.type "dict",data:=.dict #[]}).get? l=Z {cls:=.type "list",dict:=Y,data:=.seq xs m,slots:=sl}:=hP1 _ hx;refine⟨p,PySem.F.args_dict_init_2 _ _,?_⟩;unfold Builtin.«dict.__init__»;refine wB1 ?_;unfold Builtin.Dict.selfAndRest;refine wB1 (wpAny_notOrdered_dict p ?_);show dX _ _ (pure (s.heap.objs.size,[Value.ref l])) _ _ _;refine wP1 ?_;show dX _ _ (Builtin.Dict.updateFrom "dict.__init__" s.heap.objs.size (.ref l) [] .none) _ _ _;unfold Builtin.Dict.updateFrom;refine wB1 (wpAny_typeOf (T:="list") ⟨_,h,O⟩ ?_);rw[ak (by decide)];refine wB1 (zh (s:={s with heap:=s.heap.push {cls:=.type "dict",data:=.dict #[]}}) h (by simpa using n) λh1 tk keep=>?_);rw[ak (show(Y:Option dM).isNone=M from rfl)];have a:∀b o,s.heap.get? b=Z o->h1.get? b=Z o:=λb o e=>keep b o (hP1 _ e);have u:h1.IsList l xs:=⟨_,a _ _ hx,O,m,O⟩;refine wB1 (wpAny_rule (wB1 (wpAny_pyIter_list (s:={s with heap:=h1,toks:=tk}) u ?_)));obtain⟨B,es,ep,t,z,C,y,D,v⟩:=d;have r:=keep _ _ t;have j:=hL1 r;have f:h1.get? h1.objs.size=Y:=Heap.get?_none_of_le (nR1 _);refine wB1 (wP1 (wP1 ⟨plainId_quiet jT _,?_⟩));refine i A.in1 _ tk h1.objs.size (by simpa using n) (a0 _) (λb o e=>hP1 _ (a b o e)) ?_ (nN1 j) ?_ ?_ _ λs' q=>⟨O,q⟩
 ·cases e:s.heap.get? h1.objs.size with
  |none=>rfl
  |some o=>rw[a _ _ e]at f;cases f
 ·exact⟨_,hS1 _ O,O,O⟩
 ·exact⟨B,es,ep,hP1 _ r,z,C,y,(λx hx=>by cases hx),v⟩
end
noncomputable def Ll(F:List (TK×D)):Ob:=match F with
 |[]=>.dct []
 |_=>.dcT F
def wQ:D->Option (TK×D)
 | .tup [k,v]=>(keyT k).map λk=>(k,v)
 |_=>Y
def jx:List D->Option (List (TK×D))
 |[]=>Z []
 |x::xs=>(wQ x).bind λp=>(jx xs).map (p :: ·)
def m4(ps:List (TK×D)):List (TK×D):=ps.foldl (λF p=>fB F p.1 p.2) []
def oP:G1:=λd S=>match et S d with
 |some (M,xs)=>(jx xs).bind λps=>if xs.length<=100000 then Z (.ref S.length,S++[Ll (m4 ps)])else Y
 |_=>Y
section
variable{ag:List (dP×Obj)}{σ:L2.St}{H:Hp}{s:dN}{mu:List dP}
theorem As(I:Inv X ag σ H s){d:D}{v:V}{u:dM}{p:TK×D}(r:eX X.K H mu d v)(q:ew v u)(h:wQ d=some p):
  ∃w:u6 TK,(p.1=w.1/\p.1.dep<=8/\eX X.K H mu (tkD p.1) (.ref w.2.1) /\ ∃v,ew v w.2.2/\eX X.K H mu p.2 v) /\ ∃g:dP,u = .ref g/\s.heap.IsTuple g #[Value.ref w.2.1,w.2.2]/\(gk X.prog X.w).is s.heap w.1 w.2.1:=by
 unfold wQ at h;split at h
 ·rename_i k x;obtain⟨l,z,e⟩:=oM1.mp h;subst e;cases r with
  | @tup _ a vs h1 h2=>
   cases q;obtain⟨o,y,m,_⟩:=I.tuple h1;cases h2 with
   |cons i c=>cases c with
    |cons r2 f=>
     cases f;cases y with
     |cons j c=>cases c with
      |cons n f=>
       cases f;obtain⟨b,rfl,rfl,rk,t,hi⟩:=jD I i j z;exact⟨(l,b,_),⟨O,t,rk,_,n,r2⟩,_,O,m,hi⟩
 ·cases h
theorem qm(I:Inv X ag σ H s):∀ {ds:List D} {vs:List V} {b:List dM} {ps:List (TK×D)},eh X.K H mu ds vs->eI vs b->jx ds=some ps ->
  ∃ws:List (u6 TK),KT X.K H mu ps ws/\ws.length=b.length /\ ∀(i:Nat) (q:u6 TK),ws[i]?=Z q -> ∃a:dP,b[i]?=Z (Value.ref a)/\s.heap.IsTuple a #[Value.ref q.2.1,q.2.2]/\(gk X.prog X.w).is s.heap q.1 q.2.1
 |[],_,_,ps,.nil,.nil,h=>by cases h;exact⟨[],.nil,O,λi q h=>by simp at h⟩
 |d::ds,_,_,ps,.cons r t,.cons q k,h=>by
  rw[jx]at h;obtain⟨p,j,h⟩:=oB1.mp h;obtain⟨m,n,h⟩:=oM1.mp h;subst h;obtain⟨w,g,a,e,c,l⟩:=As I r q j;obtain⟨ws,h1,h2,f⟩:=qm I t k n;refine⟨w::ws,.cons g h1,by rw[lC1,lC1,h2],λi q h=>?_⟩;cases i with
  |zero=>simp at h;subst h;exact⟨a,by rw[e];rfl,c,l⟩
  |succ i=>exact f i q (by simpa using h)
theorem KT.fold{K:Fg1}:∀{ps:List (TK×D)} {ws:List (u6 TK)} {as:List (TK×D)} {bs:List (u6 TK)},KT K H mu ps ws->KT K H mu as bs->KT K H mu (ps.foldl (λF p=>fB F p.1 p.2) as) (ws.foldl (λa q=>storedH a q.1 q.2.1 q.2.2) bs):=by
 intro ps ws as bs h
 induction h generalizing as bs with
 |nil=>exact λg=>g
 | @cons p q ps ws r t ih=>
  intro g;obtain⟨e,c,rk,v,b,r2⟩:=r;rw[bd,bd,<- e];exact ih (g.put c rk b r2)
theorem yR(ps:List (TK×D)):(m4 ps).length<=ps.length:=by
 have:∀(ps a:List (TK×D)),(ps.foldl (λF p=>fB F p.1 p.2) a).length<=a.length+ps.length:=by
  intro ps
  induction ps with
  |nil=>intro a;exact nR1 _
  |cons p ps ih=>
   intro a;rw[bd,lC1];have h1:=ih (fB a p.1 p.2);have h2:=mX a p.1 p.2;lia
 have:=this ps [];simpa[m4]using this
theorem ox:∀{ds:List D} {ps:List (TK×D)},jx ds=Z ps->ps.length=ds.length
 |[],ps,h=>by cases h;rfl
 |d::ds,ps,h=>by
  rw[jx]at h;obtain⟨p,c,h⟩:=oB1.mp h;obtain⟨a,b,h⟩:=oM1.mp h;subst h;rw[lC1,lC1,ox b]
theorem D5{k:Nat}(hr:gi k X.A):fH X (.type "dict") (rN X.K (b1 oP)):=by
 intro ag s σ H xs us Q I r h;obtain⟨x,mu,S,d,r',S',rfl,r1,m,c,hc⟩:=Ep h;unfold oP at c;split at c
 ·rename_i ds W;obtain⟨ps,ep,c⟩:=oB1.mp c;split at c
  ·rename_i U;cases c;obtain⟨a,vs,rfl,q,t⟩:=eB r1 m W;obtain⟨u,rfl,r2⟩:=jr r;cases r2;obtain⟨E,aq,ht,hz⟩:=I.list q;obtain⟨ws,T,v,hP⟩:=qm I t aq ep;have y:E.length=ds.length:=by rw[<- aq.length,<- t.length]
   obtain⟨ol,n,N,l,D,f⟩:=ht;obtain⟨oc,od,oa,os⟩:=ol;dsimp only at l D f
   subst l D f
   have hu:=hr.un;refine v4 (knd:=gk X.prog X.w) hr.hd N λA' h1 tk it G hAu keep ni ne st hD R P=>?_;have L:ws.length<=100000:=by rw[v,y];exact U
   have big:ws.length<=dW:=aD L (by decide);refine yX (knd:=gk X.prog X.w) (h0:=s.heap) (its:=E.toArray) (ps:=ws) G (by show A'.units+1+8<cLine;lia) (by rw[sT1];exact v.symm) big ⟨_,N,O,n,O⟩ (Heap.get?_none_of_le (nR1 _)) ni ne
    (λh k a e z=>⟨z.1.grows e,z.2⟩) (λi q e=>?_) _ 0 _ O (br _) keep st (by simpa[hA]using hD) λh' C b g=>P _ ?_
   ·obtain⟨V,e1,au,e3⟩:=hP i q e;exact⟨V,by rw[cm];exact e1,au,e3⟩
   ·have w:H s.heap.objs.size=none:=I.fresh;have j:KT X.K H mu (m4 ps) (hA ws):=KT.fold T .nil;have B:(s.heap.objs.size == sysModules)=false:=beq_eq_false_iff_ne.mpr (Ne.symm (nN1 I.big));have A:(hA ws).length<=dW:=by
     rw[<- j.length];have h1:=yR ps;have h2:=ox ep;exact aD (by lia:(m4 ps).length<=100000) (by decide)
    cases ef:m4 ps with
    |nil=>
     rw[ef]at j hc;generalize hA ws=fw at j g A;cases j;obtain⟨o,es,ao,av,g2,g3,wq,g5,g6⟩:=g;have K:es = #[]:=Array.toList_inj.mp (by simpa using wq);subst K;refine⟨.ref s.heap.objs.size,upd H s.heap.objs.size (.dK []),I.laid (t':=C) (o:=.dK []) b (nR1 _) ⟨br _,B,[],.nil,o,#[],ao,av,g2,g3,?_,?_,bw⟩,O,hc _ _ (mu++[s.heap.objs.size]) (Ext.new_ w) (.ref (gZ m.len _)) (m.new w ⟨[],eF,.nil⟩)⟩
     ·intro e K;simp at K
     ·exact .nil
    |cons p F=>
     rw[ef]at j hc;refine⟨.ref s.heap.objs.size,upd H s.heap.objs.size (.ext (gG s.heap.objs.size (hA ws))),I.laid (t':=C) b (nR1 _) (sO B g),O,hc _ _ (mu++[s.heap.objs.size]) (Ext.new_ w) (.ref (gZ m.len _)) (m.new w ⟨_,eF,j.ext (Ext.new_ w),A⟩)⟩
  ·cases c
 ·cases c
end
mutual
noncomputable def D.mv(h n:Nat):D->D
 | .tup xs=>.tup (D.mvs h n xs)
 | .rol xs=>.rol (D.mvs h n xs)
 | .ref 0=>.ref h
 | .ref (k+1)=>.ref (n+k)
 | .fn x=>.fn x
 | .non=>.non
 | .bl b=>.bl b
 | .int i=>.int i
 | .str x=>.str x
noncomputable def D.mvs(h n:Nat):List D->List D
 |[]=>[]
 |d::ds=>D.mv h n d::D.mvs h n ds
end
def Ob.mv(h n:Nat):Ob->Ob
 | .lst xs=>.lst (D.mvs h n xs)
 | .dct kvs=>.dct (kvs.map λp=>(p.1,p.2.mv h n))
 | .dcT kvs=>.dcT (kvs.map λp=>(p.1,p.2.mv h n))
 | .iset xs=>.iset xs
 | .dcF kvs=>.dcF (kvs.map λp=>(p.1,p.2.mv h n))
 | .tst ks=>.tst ks
section
variable{K:Fg1}{H:Hp}{mu nu:List dP}{a:dP}{h:Nat}
theorem eX.mv(ha:mu[h]? = some a):∀ {d:D} {v:V},eX K H (a::nu) d v->eX K H (mu++nu) (d.mv h mu.length) v:=fun c=>c.rec (motive_1:=fun d v _=>eX K H (mu++nu) (d.mv h mu.length) v) (motive_2:=fun ds vs _=>eh K H (mu++nu) (D.mvs h mu.length ds) vs)
  .non .bl .int .str (λh _ ih=>.tup h ih) (λh _ ih=>.rol h ih) (λ{n b} e=>by
   cases n with
   |zero=>
    have:a=b:=by simpa using e
    subst this;exact .ref (by rw[gL1 (gE1.mp ha).1];exact ha)
   |succ k=>exact .ref (by rw[gR1 (bB _ _),bC];simpa using e)) (λh=>.fn h) .nil (λ_ _ a b=>.cons a b)
theorem eh.mv(ha:mu[h]?=Z a):∀{ds:List D} {vs:List V},eh K H (a::nu) ds vs->eh K H (mu++nu) (D.mvs h mu.length ds) vs:=λb=>b.ind (P:=λds vs _=>eh K H (mu++nu) (D.mvs h mu.length ds) vs) .nil λr _ ih=>.cons (eX.mv ha r) ih
theorem KR.mv{κ:Type}(ha:mu[h]?=Z a):∀{ks:List (κ×D)} {ws:List (κ×V)},KR K H (a::nu) ks ws->KR K H (mu++nu) (ks.map λp=>(p.1,p.2.mv h mu.length)) ws:=by
 intro ks ws b
 induction b with
 |nil=>exact .nil
 |cons r t ih=>exact .cons ⟨r.1,r.2.mv ha⟩ ih
mutual
theorem El(h n:Nat):∀k:TK,(tkD k).mv h n=tkD k
 | .non=>rfl
 | .int _=>rfl
 | .tup xs=>by rw[tkD,D.mv,zN h n xs]
theorem zN(h n:Nat):∀ks:List TK,D.mvs h n (iE ks)=iE ks
 |[]=>rfl
 |x::xs=>by rw[iE,D.mvs,El h n x,zN h n xs]
end
theorem KT.mv(ha:mu[h]?=Z a):∀{ks:List (TK×D)} {ws:List (TK×dP×dM)},KT K H (a::nu) ks ws->KT K H (mu++nu) (ks.map λp=>(p.1,p.2.mv h mu.length)) ws:=by
 intro ks ws b
 induction b with
 |nil=>exact .nil
 |cons r t ih=>
  obtain⟨z,d,k,v,c,r⟩:=r;exact .cons ⟨z,d,by have:=k.mv ha;rw[El]at this;exact this,v,c,r.mv ha⟩ ih
theorem kC.mv{b:dP}(ha:mu[h]?=Z a):∀{o:Ob},kC K H (a::nu) b o->kC K H (mu++nu) b (o.mv h mu.length)
 | .lst _,⟨vs,e,r⟩=>⟨vs,e,r.mv ha⟩
 | .dct _,⟨ws,e,r⟩=>⟨ws,e,KR.mv ha r⟩
 | .dcT _,⟨ws,e,r,l⟩=>⟨ws,e,KT.mv ha r,l⟩
 | .iset _,q=>q
 | .dcF _,⟨ws,e,r,l⟩=>⟨ws,e,KT.mv ha r,l⟩
 | .tst ks,⟨ws,e,r⟩=>⟨ws,e,by have:=KT.mv ha r;rw[bD]at this;exact this⟩
end
def apart(f:FN):FN:=λds S=>match ds with
 | .ref h::es=>if D.unds 0 es=true then (S[h]?).bind fun o=>if o.und 0=true then (m7 f (.ref 0::es) [o]).bind fun p=>match p.2 with
   |o'::G=>if o'.und 0=M then(if p.1.und 0=M then Z (p.1,S.set h o')else Z (p.1.mv h S.length,S.set h o'++G.map (Ob.mv h S.length)))else Y
   |[]=>Y
  else Y
  else Y
 |_=>Y
theorem BO{K:Fg1}{f:FN}{vs:List V}{H:Hp}{Q:VK}(q:rN K (apart f) vs H Q):rN K f vs H Q:=by
 obtain⟨mu,S,ds,d,S',P,j,g,hc⟩:=q;unfold apart at g;split at g
 ·rename_i h es;split at g
  ·rename_i A;obtain⟨o,F,g⟩:=oB1.mp g;split at g
   ·rename_i U;obtain⟨⟨d1,I⟩,e1,g⟩:=oB1.mp g;cases P with
    | @cons _ v _ vt T aq=>
    cases T with
    | @ref _ a p=>
    have i:∀{m1 m2:List dP} (k:Nat),k<0->m1[k]?=m2[k]?:=λk N=>absurd N (bF _);refine uR ⟨[a],[o],.ref 0::es,d1,I,.cons (.ref O) (aq.cut (n:=0) i A),⟨O,by simp,λn o2 b h1 h2=>?_⟩,e1,λv H' mu' x r s=>?_⟩
    ·cases n with
     |zero=>
      have R:o=o2:=by simpa using h1
      have au:a=b:=by simpa using h2
      subst R au;exact(j.ob h o a F p).cut (n:=0) i U
     |succ n=>simp at h1
    ·obtain⟨nu,D⟩:=x.pre;have y:mu'=a::nu:=D.symm;subst y;dsimp only at g;cases I with
     |nil=>cases g
     |cons o' G=>
      dsimp only at g;split at g
      ·rename_i B;have w:Ext mu mu H H':=⟨bv,fun b z e X=>x.old b z e (fun l=>X (by rw [c5.mp l];exact gM1 p)),x.tup,x.frz,fun _ z=>.inl z⟩;have m:∀ (n:Nat) (z:Ob) (b:dP),(S.set h o')[n]? = some z->mu[n]? = some b->kC K H' mu b z:=fun n z b h1 h2=>by
        by_cases e:h=n
        ·subst e;rw[aJ (gE1.mp F).1]at h1;cases h1;rw[p]at h2;cases h2;exact(s.ob 0 o' a O O).cut (n:=0) i B
        ·rw[gS1 e]at h1;refine(j.ob n z b h1 h2).keep w λu eu=>x.old b u eu λl=>?_;have l:=c5.mp l;subst l;exact e ((List.getElem?_inj (gE1.mp p).1 j.nd).mp (p.trans h2.symm))
       split at g
       ·rename_i wq;cases g;exact hc v H' mu w (r.cut (n:=0) i wq) ⟨by rw[aX];exact j.len,j.nd,m⟩
       ·cases g;have snd:=s.nd;rw [aQ] at snd;have ao:∀ b∈nu,H b=none:=fun b l=>by
         rcases x.new b (mC1 _ l)with z|z
         ·rw[c5.mp z]at l;exact absurd l snd.1
         ·exact z
        have W:Ext mu (mu++nu) H H':=⟨bE _ _,w.old,w.tup,w.frz,λb z=>by
         rcases aH.mp z with z|z
         ·exact .inl z
         ·exact .inr (ao b z)⟩
        refine hc v H' (mu++nu) W (by rw[<- j.len];exact r.mv p) ⟨?_,?_,λn z b h1 h2=>?_⟩
        ·have:=s.len;simp only[lC1]at this;rw[lA1,lA1,lM1,aX,j.len];lia
        ·refine bG.mpr ⟨j.nd,snd.2,λb l c E z=>?_⟩;subst z;obtain⟨o2,e⟩:=j.here l;rw[ao b E]at e;cases e
        ·by_cases C:n<S.length
         ·rw[gL1 (by rw[aX];exact C)]at h1;rw[gL1 (by rw[j.len];exact C)]at h2;exact(m n z b h1 h2).mor nu
         ·have t:=bi C;rw[gR1 (by rw[aX];exact t),aX]at h1;rw[gR1 (by rw[j.len];exact t),j.len]at h2;rw[gP1]at h1;obtain⟨av,L,g2⟩:=oM1.mp h1;subst g2;have q:=s.ob (n-S.length+1) av b (by rw[gC1];exact L) (by rw[gC1];exact h2);rw[<- j.len];exact q.mv p
      ·cases g
   ·cases g
  ·cases g
 ·cases g
theorem fR.ap{P:dQ}{w:dS}{K:Fg1}{mg:Str->Option dM}{base:dY}{k:Nat}{x:Str}{n:Nat}{m:FN}(h:fR P w K mg base k x n m):fR P w K mg base k x n (apart m):=by
 obtain⟨f,fd,ps,F,b,a,c⟩:=h;exact⟨f,fd,ps,F.imp λvs H Q E q=>⟨q.1,BO q.2⟩,b,a,c⟩
section
variable{ag:List (dP×Obj)}{σ:L2.St}{H:Hp}{s:dN}{mu:List dP}{S:Sto}
end
open AutoSeq1 (wpAny_loadPart')
def W{α:Type}(o:Option α)(Q:α->Prop):Prop:=∃x,o=Z x/\Q x
section
variable{α β:Type}{Q:α->Prop}
theorem eN{x:α}:W (Z x) Q↔Q x:=⟨λ⟨_,e,h⟩=>(by cases e;exact h),λh=>⟨x,O,h⟩⟩
theorem kB:W (Y:Option α) Q↔False:=⟨λ⟨_,e,_⟩=>(by cases e),False.elim⟩
theorem ei{o:Option β}{f:β->Option α}:W (o.bind f) Q↔W o λx=>W (f x) Q:=by
 cases o with
 |none=>exact⟨λ⟨_,e,_⟩=>(by cases e),λ⟨_,e,_⟩=>(by cases e)⟩
 |some x=>exact⟨λh=>⟨x,O,h⟩,λ⟨_,e,h⟩=>by cases e;exact h⟩
theorem lV{o:Option β}{f:β->α}:W (o.map f) Q↔W o λx=>Q (f x):=by
 cases o with
 |none=>exact⟨λ⟨_,e,_⟩=>(by cases e),λ⟨_,e,_⟩=>(by cases e)⟩
 |some x=>exact⟨λ⟨_,e,h⟩=>(by cases e;exact⟨x,O,h⟩),λ⟨_,e,h⟩=>(by cases e;exact⟨_,O,h⟩)⟩
theorem uV{c:Prop}[Decidable c]{a b:Option α}:W (if c then a else b) Q↔if c then W a Q else W b Q:=by split<;>exact Iff.rfl
theorem W.mono{o:Option α}{Q':α->Prop}(h:W o Q)(k:∀x,Q x->Q' x):W o Q':=let ⟨x,e,q⟩:=h;⟨x,e,k x q⟩
theorem W.of{o:Option α}{x:α}(e:o=Z x)(h:Q x):W o Q:=⟨x,e,h⟩
end
theorem eO{a b:FS}{r:Ev}{S:Sto}{Q:Fl×Ev×Sto->Prop}(R:Ev->Sto->Prop)(h1:W (a r S) λp=>p.1 = .nx/\R p.2.1 p.2.2)(h2:∀r S,R r S->W (b r S) Q):W (eA a b r S) Q:=by
 obtain⟨⟨f,h,g⟩,e,c,d⟩:=h1;dsimp only at c d;subst c;unfold eA;rw[e];exact h2 h g d
theorem mx{n:Nat}{b:FS}{ds:List D}{S:Sto}{Q:D×Sto->Prop}(h:W (b (hI n ds) S) fun p=>match p.1 with
  | .rt d=>Q (d,p.2.2)
  | .nx=>Q (.non,p.2.2)
  |_=>False):W (iH n b ds S) Q:=by
 obtain⟨⟨f,c,a⟩,e,q⟩:=h;unfold iH;rw[e];cases f with
 |rt d=>exact⟨_,O,q⟩
 |nx=>exact⟨_,O,q⟩
 |bk=>exact q.elim
 |ct=>exact q.elim
theorem lO{n:Nat}{f:FN}{ds:List D}{S:Sto}{Q:D×Sto->Prop}(hn:ds.length=n)(a:D.unds 0 ds=J)(h:W (f ds S) λp=>Q (gc S.length p)):W (d8 n f ds S) Q:=by
 obtain⟨⟨d,b⟩,e,q⟩:=h;exact⟨_,rj e hn a,q⟩
theorem m6{n:Nat}{f:FN}{ds:List D}{S:Sto}{Q:D×Sto->Prop}(hn:ds.length=n)(a:D.unds 0 ds=M)(h:W (f ds []) λp=>p.1.und 0=M/\Q (p.1,S)):W (d8 n f ds S) Q:=by
 obtain⟨⟨d,g⟩,e,c,b⟩:=h;exact⟨_,zb e hn a c,b⟩
mutual
theorem gb{n:Nat}:∀{d:D},d.und 0=M->d.und n=M
 | .non,_=>rfl
 | .bl _,_=>rfl
 | .int _,_=>rfl
 | .str _,_=>rfl
 | .tup xs,h=>by rw[D.und]at h ⊢;exact gD h
 | .rol xs,h=>by rw[D.und]at h ⊢;exact gD h
 | .fn _,_=>rfl
 | .ref k,h=>by simp[D.und]at h
theorem gD{n:Nat}:∀{ds:List D},D.unds 0 ds=M->D.unds n ds=M
 |[],_=>rfl
 |d::ds,h=>by
  rw[D.unds,bA1]at h ⊢;exact⟨gb h.1,gD h.2⟩
end
theorem uQ{n:Nat}{f:FN}{ds:List D}{o:Ob}{T:Sto}{Q:D×Sto->Prop}(hn:ds.length=n)(a:D.unds 0 ds=J)(b:T.all (Ob.und (T.length+1))=M)(h:W (f ds (o::T)) λp=>∃d o' G,p=(d,o'::(T++G))/\d.und 0=M/\o'.und (T.length+1)=M/\Q (d,o'::T)):W (d8 n f ds (o::T)) Q:=by
 refine lO hn a (h.mono ?_);rintro p ⟨d,o',G,rfl,g,c,q⟩;have e:(o'::(T++G)).take (T.length+1)=o'::T:=by simp
 unfold gc;dsimp only[lC1];rw[ak (by rw[e,gb g,bV,c,b];rfl),e];exact q
theorem fJ{c:List (Nat×List D)}{g:FG}{b:FS}{Q:Fl×Ev×Sto->Prop}(I:Nat->Ev->Sto->Prop):∀ (items:List D) (k:Nat) (r:Ev) (S:Sto),I k r S ->
  (∀i r S,I i r S->qo S c=M) ->
  (∀i d,items[i]?=Z d -> ∀r S,I (k+i) r S->W (g d r S) λp=>W (b p.1 p.2) λq=>q.1 = .nx/\I (k+i+1) q.2.1 q.2.2) ->
  (∀r S,I (k+items.length) r S->Q (.nx,r,S))->W (lp c g b items r S) Q
 |[],k,r,S,hi,hok,_,hq=>by rw[lp];dsimp only;rw[ak (hok _ _ _ hi),eN];exact hq r S (by simpa using hi)
 |d::ds,k,r,S,hi,hok,hs,hq=>by
  rw[lp];dsimp only;rw[ak (hok _ _ _ hi),ei];obtain⟨p,j,h1⟩:=hs 0 d O r S (by simpa using hi);refine⟨p,j,?_⟩;dsimp only;rw[ei];obtain⟨⟨f,h,n⟩,o,h2,e⟩:=h1;refine⟨_,o,?_⟩;dsimp only at h2 e ⊢;subst h2;refine fJ I ds (k+1) h n (by simpa using e) hok (λi l m r S a=>?_) λr S a=>hq r S (by rw[lC1,show k+(ds.length+1)=k+1+ds.length by lia];exact a);have:=hs (i+1) l (by simpa using m) r S (by rw[show k+(i+1)=k+1+i by lia];exact a);rw[show k+(i+1)+1=k+1+i+1 by lia]at this;exact this
theorem je{c:List (Nat×List D)}{g:FG}{t:FT}{e:FE}{Q:List D×Ev×Sto->Prop}(I:Nat->List D->Ev->Sto->Prop):∀ (items:List D) (k:Nat) (acc:List D) (r:Ev) (S:Sto),I k acc r S ->
  (∀i acc r S,I i acc r S->qo S c=M) ->
  (∀i d,items[i]?=Z d -> ∀acc r S,I (k+i) acc r S->W (g d r S) λp=>W (t p.1 p.2) λb=>if b.1=M then W (e p.1 b.2) λx=>I (k+i+1) (acc++[x.1]) p.1 x.2 else I (k+i+1) acc p.1 b.2) ->
  (∀xs r S,I (k+items.length) (acc++xs) r S->Q (xs,r,S))->W (gh c g t (eQ e) items r S) Q
 |[],k,acc,r,S,hi,hok,_,hq=>by rw[gh];dsimp only;rw[ak (hok _ _ _ _ hi),eN];exact hq [] r S (by simpa using hi)
 |d::ds,k,acc,r,S,hi,hok,hs,hq=>by
  rw[gh];dsimp only;rw[ak (hok _ _ _ _ hi),ei];obtain⟨p,j,h1⟩:=hs 0 d O acc r S (by simpa using hi);refine⟨p,j,?_⟩;dsimp only;rw[ei];obtain⟨⟨b,n⟩,q,h2⟩:=h1;refine⟨_,q,?_⟩;have step:∀i f,ds[i]?=Z f -> ∀acc r S,I (k+1+i) acc r S->W (g f r S) λp=>W (t p.1 p.2) λb=>if b.1=M then W (e p.1 b.2) λx=>I (k+1+i+1) (acc++[x.1]) p.1 x.2 else I (k+1+i+1) acc p.1 b.2:=λi f m acc r S a=>by
   have:=hs (i+1) f (by simpa using m) acc r S (by rw[show k+(i+1)=k+1+i by lia];exact a);rw[show k+(i+1)+1=k+1+i+1 by lia]at this;exact this
  dsimp only at h2 ⊢;cases b with
  |true=>
   rw[ak O]at h2 ⊢;rw[ei,eQ,lV];obtain⟨⟨x,o⟩,l,h⟩:=h2;refine⟨_,l,?_⟩;dsimp only at h ⊢;rw[lV];refine je I ds (k+1) (acc++[x]) p.1 o (by simpa using h) hok step λxs r S a=>?_;refine hq _ r S ?_;rw[lC1,show k+(ds.length+1)=k+1+ds.length by lia];simpa using a
  |false=>
   rw[aj (by decide)]at h2 ⊢;refine je I ds (k+1) acc p.1 n (by simpa using h2) hok step λxs r S a=>?_;refine hq _ r S ?_;rw[lC1,show k+(ds.length+1)=k+1+ds.length by lia];exact a
theorem JE{S:Sto}:vk S .non=Z J:=rfl
theorem JF{S:Sto}{i:Int}:vk S (.int i)=Z (i != 0):=rfl
theorem DQ{x y:Int}{S:Sto}:pP (.int x) (.int y) S=Z (.bl (x == y),S):=rfl
theorem DK{x y:Int}{S:Sto}:xp (.int x) (.int y) S=Z (.bl (decide (x<y)),S):=rfl
theorem ite_and'{c p:Prop}[Decidable c]:(if c then p else False)↔c/\p:=by split<;>simp[*]
noncomputable def zq(j:Int):Bool:=decide (-(2^62)<=j)&&decide (j<2^62)
theorem fz{n:Nat}(h:n<2^60):zq n=M:=by
 unfold zq;rw[bA1,am,am];lia
theorem Hf{j:Int}(h: -(2^60)<=j)(h':j<2^60):zq j=M:=by
 unfold zq;rw[bA1,am,am];lia
def Hu(p:List D×Sto)(Q:BY×Sto->Prop):Prop:=match p.1 with
 |[.int j]=>zq j=M/\Q (⟨hU 0 j.toNat,[]⟩,p.2)
 |_=>False
def JH(p:List D×Sto)(Q:BY×Sto->Prop):Prop:=match p.1 with
 |[.int i,.int j]=>zq i=M/\zq j=M/\Q (⟨hU i (j-i).toNat,[]⟩,p.2)
 |_=>False
theorem BU{m:FA}{r:Ev}{S:Sto}{Q:BY×Sto->Prop}:W (pN m r S) Q↔W (m r S) λp=>Hu p Q:=by
 unfold pN;rw[ei];constructor
 ·refine λh=>h.mono λp q=>?_;unfold Hu;split at q
  ·rename_i j e
   try rw[e]
   rw[uV]at q;split at q
   ·rename_i hc;exact⟨by unfold zq;rw[bA1,am,am];exact hc,eN.mp q⟩
   ·exact(kB.mp q).elim
  ·exact(kB.mp q).elim
 ·refine λh=>h.mono λp q=>?_;unfold Hu at q;split at q
  ·rename_i j e;obtain⟨a,b⟩:=q;unfold zq at a;rw[bA1,am,am]at a
   try rw[e]
   try dsimp only
   rw[ak a];exact eN.mpr b
  ·exact q.elim
theorem Ju{m:FA}{r:Ev}{S:Sto}{Q:BY×Sto->Prop}:W (IS m r S) Q↔W (m r S) λp=>JH p Q:=by
 unfold IS;rw[ei];constructor
 ·refine λh=>h.mono λp q=>?_;unfold JH;split at q
  ·rename_i i j e
   try rw[e]
   rw[uV]at q;split at q
   ·rename_i hc;refine⟨?_,?_,eN.mp q⟩
    ·unfold zq;rw[bA1,am,am];exact⟨hc.1,hc.2.1⟩
    ·unfold zq;rw[bA1,am,am];exact hc.2.2
   ·exact(kB.mp q).elim
  ·exact(kB.mp q).elim
 ·refine λh=>h.mono λp q=>?_;unfold JH at q;split at q
  ·rename_i i j e;obtain⟨a,b,c⟩:=q;unfold zq at a b;rw[bA1,am,am]at a b
   try rw[e]
   try dsimp only
   rw[ak ⟨a.1,a.2,b⟩];exact eN.mpr c
  ·exact q.elim
noncomputable def fits(n:Nat):Bool:=decide (n<=dW)
theorem ev{n:Nat}(h:n<=100000):fits n=M:=by unfold fits;rw[am];exact aD h (by decide)
theorem uD{n:Nat}:fits n=M↔n<=dW:=by unfold fits;rw[am]
theorem Lj:fits 2=M:=ev (by decide)
theorem Mb:fits 5=M:=ev (by decide)
theorem Ma:fits 6=M:=ev (by decide)
theorem L9:fits 8=M:=ev (by decide)
theorem iI{α:Type}{n:Nat}{o:Option α}{Q:α->Prop}:W (if n<=dW then o else Y) Q↔fits n=M/\W o Q:=by
 rw[uD,uV];split
 ·rename_i h;exact⟨λq=>⟨h,q⟩,λq=>q.2⟩
 ·rename_i h;exact⟨λq=>(kB.mp q).elim,λq=>absurd q.1 h⟩
theorem BR{a:FA}{r:Ev}{S:Sto}{Q:D×Sto->Prop}:W (fg a r S) Q↔W (a r S) λp=>fits p.1.length=M/\Q (.tup p.1,p.2):=by
 unfold fg;rw[ei];exact⟨λh=>h.mono λp q=>(iI.mp q).imp_right eN.mp,λh=>h.mono λp q=>iI.mpr (q.imp_right eN.mpr)⟩
theorem Hk{a:FA}{r:Ev}{S:Sto}{Q:D×Sto->Prop}:W (ip a r S) Q↔W (a r S) λp=>fits p.1.length=M/\Q (.ref p.2.length,p.2++[.lst p.1]):=by
 unfold ip;rw[ei];exact⟨λh=>h.mono λp q=>(iI.mp q).imp_right eN.mp,λh=>h.mono λp q=>iI.mpr (q.imp_right eN.mpr)⟩
theorem jl{k:Nat}{keep:List Nat}{m:FI}{g:FG}{t:FT}{b:FV}{r:Ev}{S:Sto}{Q:D×Sto->Prop}:W (fe k keep m g t b r S) Q↔W (m r S) λp=>W (gh p.1.chk g t b p.1.items (oK k keep r) p.2) λq=>fits q.1.length=M/\Q (.ref q.2.2.length,q.2.2++[.lst q.1]):=by
 unfold fe;rw[ei];refine⟨λh=>h.mono λp q=>?_,λh=>h.mono λp q=>?_⟩
 ·rw[ei]at q;exact q.mono λz w=>(iI.mp w).imp_right eN.mp
 ·rw[ei];exact q.mono λz w=>iI.mpr (w.imp_right eN.mpr)
theorem KO{xs ys:List D}{S:Sto}{Q:D×Sto->Prop}:W (gB (.tup xs) (.tup ys) S) Q↔fits (xs.length+ys.length)=M/\Q (.tup (xs++ys),S):=
 ⟨λq=>(iI.mp q).imp_right eN.mp,λq=>iI.mpr (q.imp_right eN.mpr)⟩
theorem Hn{x y:Int}{S:Sto}{Q:D×Sto->Prop}:W (gB (.int x) (.int y) S) Q↔Q (.int (x+y),S):=eN
theorem Hm{a b:Nat}{xs ys:List D}{S:Sto}{Q:D×Sto->Prop}(h1:S[a]?=Z (.lst xs))(h2:S[b]?=Z (.lst ys)):W (gB (.ref a) (.ref b) S) Q↔fits (xs.length+ys.length)=M/\Q (.ref S.length,S++[.lst (xs++ys)]):=by
 rw[gB];simp only[h1,h2];exact⟨λq=>(iI.mp q).imp_right eN.mp,λq=>iI.mpr (q.imp_right eN.mpr)⟩
theorem lW{n:Nat}{v:D}{xs:List D}{S:Sto}{Q:D×Sto->Prop}(h:S[n]?=Z (.lst xs)):W (jZ (.ref n) v S) Q↔fits (xs.length+1)=M/\Q (.non,S.set n (.lst (xs++[v]))):=by
 rw[jZ];simp only[h];rw[uV,uD];split
 ·rename_i a;exact⟨λq=>⟨a,eN.mp q⟩,λq=>eN.mpr q.2⟩
 ·rename_i a;exact⟨λq=>(kB.mp q).elim,λq=>absurd q.1 a⟩
theorem v7{n:Nat}{k:Nat}{xs:List D}{S:Sto}{Q:D×Sto->Prop}(h:S[n]?=Z (.lst xs))(hk:k<=1000)(hx:xs.length<=1000)(q:Q (.ref S.length,S++[.lst (aR k xs).flatten])):W (oO (.ref n) (.int k) S) Q:=by
 rw[oO];simp only[h];have a:xs.length*k<=dW:=aD (di hx hk) (by decide);rw[ak ⟨by lia,by lia,by rw[Int.toNat_natCast];exact a⟩,eN,Int.toNat_natCast];exact q
theorem iZ{n:Nat}{i:Nat}{xs:List D}{x:D}{S:Sto}{Q:D×Sto->Prop}(h:S[n]?=Z (.lst xs))(hx:xs[i]?=Z x)(q:Q (x,S)):W (d6 (.ref n) (.int i) S) Q:=by
 refine W.of (x:=(x,S)) ?_ q;have a:=(gE1.mp hx).1;simp only[d6,mw,Bh,h,et,u5,xg,oS1,ak (show(0:Int)<=i by lia)];rw[ak (by lia)];simp[hx]
theorem gC{i:Nat}{xs:List D}{x:D}{S:Sto}{Q:D×Sto->Prop}(hx:xs[i]?=Z x)(q:Q (x,S)):W (d6 (.tup xs) (.int i) S) Q:=by
 refine W.of (x:=(x,S)) ?_ q;have a:=(gE1.mp hx).1;simp only[d6,mw,Bh,et,u5,xg,oS1,ak (show(0:Int)<=i by lia)];rw[ak (by lia)];simp[hx]
theorem LU:aR 0 (Y:Option D)=[]:=rfl
theorem LS:aR 1 (Y:Option D)=[Y]:=rfl
theorem LH:aR 2 (Y:Option D)=[Y,Y]:=rfl
theorem L8:aR 4 (Y:Option D)=[Y,Y,Y,Y]:=rfl
theorem L7:aR 6 (Y:Option D)=[Y,Y,Y,Y,Y,Y]:=rfl
theorem LR:aR 10 (Y:Option D)=[Y,Y,Y,Y,Y,Y,Y,Y,Y,Y]:=rfl
theorem LQ:aR 11 (Y:Option D)=[Y,Y,Y,Y,Y,Y,Y,Y,Y,Y,Y]:=rfl
theorem LP:aR 12 (Y:Option D)=[Y,Y,Y,Y,Y,Y,Y,Y,Y,Y,Y,Y]:=rfl
theorem LO:aR 13 (Y:Option D)=[Y,Y,Y,Y,Y,Y,Y,Y,Y,Y,Y,Y,Y]:=rfl
theorem LN:aR 14 (Y:Option D)=[Y,Y,Y,Y,Y,Y,Y,Y,Y,Y,Y,Y,Y,Y]:=rfl
theorem LM:aR 15 (Y:Option D)=[Y,Y,Y,Y,Y,Y,Y,Y,Y,Y,Y,Y,Y,Y,Y]:=rfl
theorem LL:aR 16 (Y:Option D)=[Y,Y,Y,Y,Y,Y,Y,Y,Y,Y,Y,Y,Y,Y,Y,Y]:=rfl
theorem LK:aR 17 (Y:Option D)=[Y,Y,Y,Y,Y,Y,Y,Y,Y,Y,Y,Y,Y,Y,Y,Y,Y]:=rfl
theorem LJ:aR 18 (Y:Option D)=[Y,Y,Y,Y,Y,Y,Y,Y,Y,Y,Y,Y,Y,Y,Y,Y,Y,Y]:=rfl
theorem LI:aR 19 (Y:Option D)=[Y,Y,Y,Y,Y,Y,Y,Y,Y,Y,Y,Y,Y,Y,Y,Y,Y,Y,Y]:=rfl
theorem LG:aR 20 (Y:Option D)=[Y,Y,Y,Y,Y,Y,Y,Y,Y,Y,Y,Y,Y,Y,Y,Y,Y,Y,Y,Y]:=rfl
theorem fY{α:Type}{T G:List α}{k:Nat}:(T++G)[T.length+k]?=G[k]?:=by rw[gR1 (by lia)];congr 1;lia
theorem eJ{α:Type}{T G:List α}:(T++G)[T.length]?=G[0]?:=by rw[gR1 (by lia)];congr 1;lia
theorem DP{S:Sto}{i j:Nat}{xs:List D}(h:S[i]?=Z (.lst xs))(h':S[j]?=Z (.lst [])):pP (.ref i) (.ref j) S=Z (.bl xs.isEmpty,S):=by
 unfold pP eZ;rw[show(60:Nat)=59+1 from rfl,gI];simp only[et,h,h'];cases xs with
 |nil=>simp[oT]
 |cons x xs=>simp
mutual
noncomputable def uZ:D->Bool
 | .non=>M
 | .bl _=>M
 | .int i=>decide (i.natAbs<10^6)
 | .str x=>(PyData.str x).leavesShort 13&&decide ((PyData.str x).weight<=20)
 | .tup xs=>pE xs
 | .rol _=>J
 | .fn _=>J
 | .ref _=>J
noncomputable def pE:List D->Bool
 |[]=>M
 |d::ds=>uZ d&&pE ds
end
mutual
noncomputable def o4:D->Nat
 | .tup xs=>lM xs
 | .non=>0 | .bl _=>0 | .int _=>0 | .str _=>0 | .rol _=>0 | .fn _=>0 | .ref _=>0
noncomputable def lM:List D->Nat
 |[]=>0
 |d::ds=>o4 d+1+lM ds
end
mutual
noncomputable def Bx:D->Nat
 | .tup xs=>pR xs+1
 | .non=>0 | .bl _=>0 | .int _=>0 | .str _=>0 | .rol _=>0 | .fn _=>0 | .ref _=>0
noncomputable def pR:List D->Nat
 |[]=>0
 |d::ds=>max (Bx d) (pR ds)
end
mutual
theorem HY:∀{d:D},uZ d=M -> ∃p,pyD d=Z p/\p.showable=M/\p.leavesShort 13=M/\p.weight+1<=21*(o4 d+1)/\p.depth=Bx d
 | .non,_=>⟨.none,by simp only[pyD],by simp only[PyData.showable],by simp only[PyData.leavesShort],by simp only[PyData.weight,o4];lia,by simp only[PyData.depth,Bx]⟩
 | .bl b,_=>⟨.bool b,by simp only[pyD],by simp only[PyData.showable],by simp only[PyData.leavesShort],by simp only[PyData.weight,o4];lia,by simp only[PyData.depth,Bx]⟩
 | .int i,h=>by
  have h':i.natAbs<10^6:=by simpa only[uZ,am]using h
  have f:i.natAbs.log2<20:=by
   by_cases z:i.natAbs=0
   ·rw[z];decide
   ·exact(Nat.log2_lt z).mpr (by lia)
  refine⟨.int i,by simp only[pyD],by simp only[PyData.showable,am];lia,?_,?_,by simp only[PyData.depth,Bx]⟩
  ·simp only[PyData.leavesShort,am];exact PyData.shown_int_le (by lia)
  ·simp only[PyData.weight,o4];split<;>lia
 | .str x,h=>by
  have h':(PyData.str x).leavesShort 13=M/\(PyData.str x).weight<=20:=by simpa only[uZ,bA1,am]using h
  exact⟨.str x,by simp only[pyD],by simp only[PyData.showable],h'.1,by simp only[o4];have:=h'.2;lia,by simp only[PyData.depth,Bx]⟩
 | .tup xs,h=>by
  obtain⟨ps,e,h1,h2,c,a⟩:=vo (ds:=xs) (by simpa only[uZ]using h);exact⟨.tuple ps,by simp only[pyD,e,oP1],by simpa only[PyData.showable]using h1,by simpa only[PyData.leavesShort]using h2,by simp only[PyData.weight,o4];lia,by simp only[PyData.depth,Bx,a]⟩
 | .rol _,h=>by simp only[uZ]at h;cases h
 | .fn _,h=>by simp only[uZ]at h;cases h
 | .ref _,h=>by simp only[uZ]at h;cases h
theorem vo:∀{ds:List D},pE ds=M -> ∃ps,pyDs ds=Z ps/\PyData.showableAll ps=M/\PyData.leavesShortAll 13 ps=M/\PyData.weightAll ps<=21*lM ds/\PyData.depthAll ps=pR ds
 |[],_=>⟨[],by simp only[pyDs],by simp only[PyData.showableAll],by simp only[PyData.leavesShortAll],by simp only[PyData.weightAll];lia,by simp only[PyData.depthAll,pR]⟩
 |d::ds,h=>by
  simp only[pE,bA1]at h;obtain⟨p,e,h1,h2,j,i⟩:=HY h.1;obtain⟨ps,g,c,a,f,b⟩:=vo h.2;refine⟨p::ps,by simp only[pyDs,e,g,oS1,oP1],by simp only[PyData.showableAll,h1,c,dj],by simp only[PyData.leavesShortAll,h2,a,dj],?_,by simp only[PyData.depthAll,pR,i,b]⟩;simp only[PyData.weightAll,lM];lia
end
theorem Co{xs:List D}(h:pE xs=M)(hc:lM xs<=40000)(hd:pR xs<=50):∃t,∀S,m3 (.tup xs) S=Z (.str t,S):=by
 obtain⟨ps,e,h1,h2,b,c⟩:=vo h;refine⟨(PyData.tuple ps).shown,λS=>?_⟩;have a:(PyData.tuple ps).showable=M/\(PyData.tuple ps).shown.length<=dW/\(PyData.tuple ps).depth<=60:=
  ⟨by simpa only[PyData.showable]using h1,PyData.shown_fits (B:=13) (by decide) (by decide) (by simpa only[PyData.leavesShort]using h2) (by simp only[PyData.weight];lia),by simp only[PyData.depth];lia⟩
 simp only[m3,e,oS1,ak a]
theorem nZ{α:Type}{f:α->D}:∀{l:List α},(∀x∈l,uZ (f x)=M)->pE (l.map f)=M
 |[],_=>by simp only[bh,pE]
 |x::xs,h=>by simp only[mP1,pE,h x mS1,nZ λy a=>h y (mC1 _ a),dj]
theorem mD{α:Type}{f:α->D}{k:Nat}:∀{l:List α},(∀x∈l,o4 (f x)<=k)->lM (l.map f)<=(k+1)*l.length
 |[],_=>by simp only[bh,lM];lia
 |x::xs,h=>by
  have h1:=h x mS1;have h2:=mD (l:=xs) λy a=>h y (mC1 _ a);simp only[mP1,lM,lC1,Nat.mul_add];lia
theorem oY{α:Type}{f:α->D}{k:Nat}:∀{l:List α},(∀x∈l,Bx (f x)<=k)->pR (l.map f)<=k
 |[],_=>by simp only[bh,pR];lia
 |x::xs,h=>by
  have h1:=h x mS1;have h2:=oY (l:=xs) λy a=>h y (mC1 _ a);simp only[mP1,pR];lia
theorem sy:∀(n:Nat) (lo:Int),hU lo n=(af n).map λi:Nat=>D.int (lo+i)
 |0,lo=>rfl
 |n+1,lo=>by
  rw[hU,sy n (lo+1),List.range_succ_eq_map,mP1,bD]
  congr 1
  ·simp
  ·apply dk;intro i _;simp only[Function.comp_apply,Nat.succ_eq_add_one]
   congr 1
   push_cast
   lia
theorem iz(n:Nat):hU 0 n=(af n).map λi:Nat=>D.int i:=by
 rw[sy];apply dk;intro i _;simp
theorem oF{α:Type}{c:List (Nat×List D)}{g:FG}{t:FT}{e:FE}{S:Sto}{f:α->D}{Q:List D×Ev×Sto->Prop}(F:α->D)(P:Ev->Prop)(d:qo S c=true):∀ (xs:List α) (r:Ev),P r ->
  (∀a∈xs,∀r,P r->W (g (f a) r S) λp=>W (t p.1 p.2) λb=>b.1=M/\W (e p.1 b.2) λx=>x.1=F a/\x.2=S/\P p.1) ->
  (∀i,P i->Q (xs.map F,i,S))->W (gh c g t (eQ e) (xs.map f) r S) Q
 |[],r,hr,_,h=>by rw[bh,gh];dsimp only;rw[ak d,eN];exact h r hr
 |a::xs,r,hr,hs,h=>by
  rw[mP1,gh];dsimp only;rw[ak d,ei];obtain⟨p,m,⟨b,u,l,⟨x,n,s,o,k⟩⟩⟩:=hs a mS1 r hr;refine⟨p,m,?_⟩;dsimp only;rw[ei];refine⟨b,u,?_⟩;dsimp only;rw[ak l,ei,eQ,lV];refine⟨x,n,?_⟩;dsimp only;rw[o,lV];refine oF F P d xs p.1 k (λa q=>hs a (mC1 _ q)) λi j=>?_;have:=h i j;rw[mP1,<- s]at this;exact this
theorem gH{α:Type}{c:List (Nat×List D)}{g:FG}{t:FT}{e:FE}{S:Sto}{f:α->D}{Q:List D×Ev×Sto->Prop}(k:α->Bool)(F:α->D)(P:Ev->Prop)(d:qo S c=true):∀ (xs:List α) (r:Ev),P r ->
  (∀a∈xs,∀r,P r->W (g (f a) r S) λp=>W (t p.1 p.2) λb=>b.1=k a/\b.2=S/\P p.1/\(k a=M->W (e p.1 S) λx=>x.1=F a/\x.2=S)) ->
  (∀j,P j->Q ((xs.filter k).map F,j,S))->W (gh c g t (eQ e) (xs.map f) r S) Q
 |[],r,hr,_,h=>by rw[bh,gh];dsimp only;rw[ak d,eN];exact h r hr
 |a::xs,r,hr,hs,h=>by
  rw[mP1,gh];dsimp only;rw[ak d,ei];obtain⟨p,u,⟨b,w,q,s,o,n⟩⟩:=hs a mS1 r hr;refine⟨p,u,?_⟩;dsimp only;rw[ei];refine⟨b,w,?_⟩;dsimp only;cases hk:k a with
  |true=>
   rw[q,hk,ak O,ei,eQ,lV,s];obtain⟨x,v,n,l⟩:=n hk;refine⟨x,v,?_⟩;dsimp only;rw[l,lV];refine gH k F P d xs p.1 o (λa m=>hs a (mC1 _ m)) λj i=>?_;have:=h j i;rw[dq,hk,ak O,mP1,<- n]at this;exact this
  |false=>
   rw[q,hk,aj (by decide),s];refine gH k F P d xs p.1 o (λa m=>hs a (mC1 _ m)) λj i=>?_;have:=h j i;rw[dq,hk,aj (by decide)]at this;exact this
mutual
theorem ES{n m:Nat}(h:n<=m):∀{d:D},d.und n=M->d.und m=M
 | .non,_=>rfl
 | .bl _,_=>rfl
 | .int _,_=>rfl
 | .str _,_=>rfl
 | .tup xs,q=>by rw[D.und]at q ⊢;exact i4 h q
 | .rol xs,q=>by rw[D.und]at q ⊢;exact i4 h q
 | .fn _,_=>rfl
 | .ref k,q=>by simp[D.und]at q ⊢;lia
theorem i4{n m:Nat}(h:n<=m):∀{ds:List D},D.unds n ds=M->D.unds m ds=M
 |[],_=>rfl
 |d::ds,q=>by
  rw[D.unds,bA1]at q ⊢;exact⟨ES h q.1,i4 h q.2⟩
end
theorem iP{n m:Nat}(h:n<=m):∀{o:Ob},o.und n=M->o.und m=M
 | .lst xs,q=>by rw[Ob.und]at q ⊢;exact i4 h q
 | .dct xs,q=>by rw[Ob.und]at q ⊢;exact i4 h q
 | .dcT xs,q=>by rw[Ob.und]at q ⊢;exact i4 h q
 | .dcF xs,q=>by rw[Ob.und]at q ⊢;exact i4 h q
 | .iset _,_=>rfl
 | .tst _,_=>rfl
theorem eW{α:Type}{n:Nat}{f:α->D}:∀{xs:List α},(∀x∈xs,(f x).und n=M)->D.unds n (xs.map f)=M
 |[],_=>rfl
 |x::xs,h=>by rw[mP1,D.unds,h x mS1,eW λy a=>h y (mC1 _ a)];rfl
theorem L6{x:Nat}:x+1+1=x+2:=rfl
theorem Mh{x:Nat}:x+2+1=x+3:=rfl
theorem Mg{x:Nat}:x+3+1=x+4:=rfl
theorem Mf{x:Nat}:x+4+1=x+5:=rfl
theorem Me{x:Nat}:x+5+1=x+6:=rfl
theorem Md{x:Nat}:x+6+1=x+7:=rfl
theorem L5{x:Nat}:x+1+2=x+3:=rfl
theorem gj{xs:List D}{S:Sto}:fc (.tup xs) S=Z (.int xs.length,S):=rfl
theorem JM{xs:List D}{S:Sto}:fc (.rol xs) S=Z (.int xs.length,S):=rfl
theorem IL{S:Sto}:fc (.str "") S=Z (.int 0,S):=rfl
theorem wA{xs:List D}{S:Sto}:et S (.tup xs)=Z (J,xs):=rfl
theorem JG{xs:List D}{S:Sto}:et S (.rol xs)=Z (M,xs):=rfl
theorem xI{xs:List D}{S:Sto}:jI S (.tup xs)=[]:=rfl
theorem JR{xs:List D}{S:Sto}:jI S (.rol xs)=[]:=rfl
theorem jR{n:Nat}{xs:List D}{S:Sto}(h:S[n]?=Z (.lst xs)):et S (.ref n)=Z (M,xs):=by simp only[et,h]
theorem xJ{n:Nat}{xs:List D}{S:Sto}(h:S[n]?=Z (.lst xs)):jI S (.ref n)=[(n,xs)]:=by simp only[jI,h]
def sW(S:Sto)(d:D)(Q:List D×List (Nat×List D)->Prop):Prop:=W (et S d) λq=>Q (q.2,jI S d)
theorem hK{xs:List D}{S:Sto}{Q:List D×List (Nat×List D)->Prop}:sW S (.tup xs) Q↔Q (xs,[]):=eN
theorem eL{n:Nat}{xs:List D}{S:Sto}{Q:List D×List (Nat×List D)->Prop}(h:S[n]?=Z (.lst xs))(q:Q (xs,[(n,xs)])):sW S (.ref n) Q:=by
 unfold sW;rw[jR h,xJ h,eN];exact q
theorem BS{m:FE}{r:Ev}{S:Sto}{Q:BY×Sto->Prop}:W (iU m r S) Q↔W (m r S) λp=>sW p.2 p.1 λq=>Q (⟨q.1,q.2⟩,p.2):=by
 unfold iU;rw[ei];refine⟨λh=>h.mono λp q=>?_,λh=>h.mono λp q=>?_⟩
 ·rw[ei]at q;exact q.mono λz w=>eN.mp w
 ·rw[ei];exact W.mono (show W (et p.2 p.1) _ from q) λz w=>eN.mpr w
theorem BV{d:D}{S:Sto}{Q:D×Sto->Prop}:W (Mi.gTup d S) Q↔sW S d λq=>Q (.tup q.1,S):=by
 unfold Mi.gTup;rw[lV];exact Iff.rfl
theorem Jt{n:Nat}{S:Sto}{Q:D×Sto->Prop}:W (fc (.ref n) S) Q↔sW S (.ref n) λq=>Q (.int q.1.length,S):=by
 unfold fc sW;rw[lV]
theorem zf9:(fits 0=M)∧(fits 1=M)∧(fits 2=M)∧(fits 3=M)∧(fits 4=M)∧(fits 7=M):=⟨ev (by decide),ev (by decide),Lj,ev (by decide),ev (by decide),ev (by decide)⟩
theorem zr9:(∀ {S:Sto}{b:Bool},vk S (.bl b)=Z b)∧(∀ {x y:Int}{S:Sto},GW (.int x) (.int y) S=Z (.bl (!(x == y)),S))∧(∀ {x y:Str}{S:Sto},pP (.str x) (.str y) S=Z (.bl (x == y),S))∧(∀ {x y:Str}{S:Sto},GW (.str x) (.str y) S=Z (.bl (!(x == y)),S))∧(aR 3 (Y:Option D)=[Y,Y,Y])∧(aR 5 (Y:Option D)=[Y,Y,Y,Y,Y])∧(aR 7 (Y:Option D)=[Y,Y,Y,Y,Y,Y,Y])∧(aR 8 (Y:Option D)=[Y,Y,Y,Y,Y,Y,Y,Y])∧(aR 9 (Y:Option D)=[Y,Y,Y,Y,Y,Y,Y,Y,Y]):=⟨rfl,rfl,rfl,rfl,rfl,rfl,rfl,rfl,rfl⟩
theorem zi9:(∀ {a:FA}{r:Ev}{S:Sto}{Q:D×Sto->Prop},W (ip a r S) Q↔W (a r S) λp=>fits p.1.length=M/\Q (.ref p.2.length,p.2++[.lst p.1]))∧(∀ {k:Nat}{keep:List Nat}{m:FI}{g:FG}{t:FT}{b:FV}{r:Ev}{S:Sto}{Q:D×Sto->Prop},W (fe k keep m g t b r S) Q↔W (m r S) λp=>W (gh p.1.chk g t b p.1.items (oK k keep r) p.2) λq=>fits q.1.length=M/\Q (.ref q.2.2.length,q.2.2++[.lst q.1]))∧(∀ {m:FA}{r:Ev}{S:Sto}{Q:BY×Sto->Prop},W (pN m r S) Q↔W (m r S) λp=>Hu p Q)∧(∀ {m:FA}{r:Ev}{S:Sto}{Q:BY×Sto->Prop},W (IS m r S) Q↔W (m r S) λp=>JH p Q)∧(∀ {x y:Int}{S:Sto}{Q:D×Sto->Prop},W (gB (.int x) (.int y) S) Q↔Q (.int (x+y),S))∧(∀ {m:FE}{r:Ev}{S:Sto}{Q:BY×Sto->Prop},W (iU m r S) Q↔W (m r S) λp=>sW p.2 p.1 λq=>Q (⟨q.1,q.2⟩,p.2))∧(∀ {d:D}{S:Sto}{Q:D×Sto->Prop},W (Mi.gTup d S) Q↔sW S d λq=>Q (.tup q.1,S))∧(∀ {n:Nat}{S:Sto}{Q:D×Sto->Prop},W (fc (.ref n) S) Q↔sW S (.ref n) λq=>Q (.int q.1.length,S)):=⟨Hk,jl,BU,Ju,Hn,BS,BV,Jt⟩
noncomputable def pD(e:Nat×Nat):D:=.tup [.int e.1,.int e.2]
theorem G0{S:Sto}{n:Nat}{a b:Nat×Nat}:gI S (n+2) (pD a) (pD b)=Z (a == b):=by
 obtain⟨a1,a2⟩:=a;obtain⟨b1,b2⟩:=b;rw[gI];have d:∀x y:Nat,gI S (n+1) (.int x) (.int y)=Z ((x:Int) == (y:Int)):=λx y=>rfl;have c:∀x y:Nat,((x:Int) == (y:Int))=(x == y):=λx y=>by
  rw[bW,beq_iff_eq,beq_iff_eq];lia
 simp[pD,et,oT,d,c];rfl
theorem xw{S:Sto}{n:Nat}{e:Nat×Nat}:∀b:List (Nat×Nat),yT (gI S (n+2)) (pD e) (b.map pD)=Z (b.map λa=>a == e)
 |[]=>rfl
 |a::b=>by rw[mP1,yT,G0,xw b];rfl
theorem Hl{S:Sto}{n j:Nat}{row:List (Nat×Nat)}{e:Nat×Nat}{Q:D×Sto->Prop}(h:S[n]?=Z (.lst (row.map pD)))(b:row.length<1000)(a:row.findIdx? (· == e)=Z j)(q:Q (.int j,S)):W (Bi (.ref n) (pD e) S) Q:=by
 refine W.of ?_ q;unfold Bi eZ;simp only[h,show(60:Nat)=58+2 from rfl,xw,oS1,lM1];rw[ak (by lia),List.findIdx?_map];simp[Function.comp_def,a]
theorem EI{S:Sto}{n k:Nat}{xs:List D}{v:D}{Q:D×Sto->Prop}(h:S[n]?=Z (.lst xs))(hk:k<=xs.length)(b:xs.length<1000)(q:Q (.non,S.set n (.lst (xs.take k++v::xs.drop k)))):W (yQ (.ref n) (.int k) v S) Q:=by
 refine W.of ?_ q;have hi:sG xs.length k=k:=by
  unfold sG;rw[aj (by lia),Int.toNat_natCast];lia
 have a:xs.length<dW:=nL1 b (by decide);simp only[yQ,h,hi];rw[ak ⟨by lia,by lia,a⟩]
theorem iY{f:FN}{o:FE}{a:FA}{r:Ev}{S:Sto}{Q:D×Sto->Prop}(h:W (o r S) λp=>∃n xs,p.1 = .ref n/\p.2[n]?=Z (.lst xs)/\W (a r p.2) λq=>W (f (.ref n::q.1) q.2) Q):W (pL f o a r S) Q:=by
 unfold pL;rw[ei];refine h.mono ?_;rintro⟨d,b⟩ ⟨n,xs,rfl,e,q⟩;dsimp only at e q ⊢;rw[e];dsimp only;rw[ei];exact q
def tN(row:List (Nat×Nat)):Ob:=.lst (row.map pD)
structure WS (t m:Nat)(T:Sto)(E:List (List (Nat×Nat)))(P:List (Nat×Nat))(U:Sto):Prop where
 tl:T.length=t
 low:U.take t=T
 el:E.length=m
 row:∀i row,E[i]?=some row->U[t+i]?=some (tN row)
 ends:U[t+m]?=some (.lst (kn (t+1) m))
 prs:U[t+m+1]?=some (.lst (P.map pD))
theorem WS.app{t m:Nat}{T:Sto}{E:List (List (Nat×Nat))}{P:List (Nat×Nat)}{U G:Sto}(w:WS t m T E P U):WS t m T E P (U++G):=by
 have b:t+m+1<U.length:=(gE1.mp w.prs).1;refine⟨w.tl,?_,w.el,λi a h=>?_,?_,?_⟩
 ·rw[dg (by omega)];exact w.low
 ·have:=w.row i a h;rw[gL1 (gE1.mp this).1];exact this
 ·rw[gL1 (by omega)];exact w.ends
 ·rw[gL1 (by omega)];exact w.prs
theorem WS.setRow{t m i:Nat}{T:Sto}{E:List (List (Nat×Nat))}{P:List (Nat×Nat)}{U:Sto}{row:List (Nat×Nat)}(w:WS t m T E P U)(hi:i<m):WS t m T (E.set i row) P (U.set (t+i) (tN row)):=by
 have b:t+m+1<U.length:=(gE1.mp w.prs).1;refine⟨w.tl,?_,by rw[aX];exact w.el,λj a h=>?_,?_,?_⟩
 ·rw[List.take_set_of_le (by lia)];exact w.low
 ·by_cases e:i=j
  ·subst e;rw[aJ (by rw[w.el];exact hi)]at h;cases h;rw[aJ (by lia)]
  ·rw[gS1 e]at h;rw[gS1 (by lia)];exact w.row j a h
 ·rw[gS1 (by lia)];exact w.ends
 ·rw[gS1 (by lia)];exact w.prs
theorem WS.setPrs{t m:Nat}{T:Sto}{E:List (List (Nat×Nat))}{P P':List (Nat×Nat)}{U:Sto}(w:WS t m T E P U):WS t m T E P' (U.set (t+m+1) (.lst (P'.map pD))):=by
 have c:t+m+1<U.length:=(gE1.mp w.prs).1;refine⟨w.tl,?_,w.el,λj a h=>?_,?_,?_⟩
 ·rw[List.take_set_of_le (by lia)];exact w.low
 ·have b:j<m:=by rw[<- w.el];exact(gE1.mp h).1
  rw[gS1 (by lia)];exact w.row j a h
 ·rw[gS1 (by lia)];exact w.ends
 ·rw[aJ (by lia)]
theorem WS.split{t m:Nat}{T:Sto}{E:List (List (Nat×Nat))}{P:List (Nat×Nat)}{U:Sto}(w:WS t m T E P U):U=T++U.drop t:=by
 conv=>lhs;rw[<- cM t U,w.low]
theorem rW:∀{k n i:Nat},i<k->(kn n k)[i]?=Z (.ref (n+i))
 |k+1,n,0,_=>rfl
 |k+1,n,i+1,h=>by rw[kn,gC1,rW (Nat.lt_of_succ_lt_succ h),show n+1+i=n+(i+1) by lia]
theorem k4:∀k n:Nat,(kn n k).length=k
 |0,_=>rfl
 |k+1,n=>by rw[kn,lC1,k4]
noncomputable def tot(E:List (List (Nat×Nat))):Nat:=(E.map List.length).sum
theorem rL:∀{E:List (List (Nat×Nat))} {i:Nat} {row row':List (Nat×Nat)},E[i]?=Z row->tot (E.set i row')+row.length=tot E+row'.length
 |[],i,_,_,h=>by simp at h
 |a::E,0,row,row',h=>by simp at h;subst h;simp[tot];lia
 |a::E,i+1,row,row',h=>by
  have:=rL (E:=E) (i:=i) (row:=row) (row':=row') (by simpa using h);simp[tot]at this ⊢;lia
theorem zL:∀{E:List (List (Nat×Nat))} {k:Nat},k<=E.length->(∀i b,i<k->E[i]?=Z b->4<=b.length)->4*k<=tot E
 |E,0,_,_=>by lia
 |[],k+1,h,_=>by simp at h
 |a::E,k+1,h,q=>by
  have h1:=q 0 a (by lia) O;have h2:=zL (E:=E) (k:=k) (by simpa using h) λi b hi c=>q (i+1) b (by lia) (by simpa using c);simp[tot]at h2 ⊢;lia
noncomputable def eR(rs:List Nat):List D:=rs.map λi:Nat=>D.int i
theorem iG(rs:List Nat):(eR rs).length=rs.length:=by simp[eR]
theorem kw(rs:List Nat):D.unds 0 (eR rs)=M:=eW λ_ _=>rfl
abbrev Wk:=Nat×Nat×Nat
noncomputable def fm(w:Wk):D:=.tup [.int w.1,.int w.2.1,.int w.2.2]
def eK(ws:List Wk):List D:=ws.map fm
theorem i0(ws:List Wk):(eK ws).length=ws.length:=by simp[eK]
theorem kJ(ws:List Wk):D.unds 0 (eK ws)=M:=eW λ_ _=>rfl
def ea(ws:List Wk)(cs:List Nat):D:=.tup [.tup (eK ws),.tup (eR cs)]
theorem gn{ws:List Wk}{cs:List Nat}:(ea ws cs).und 0=M:=by simp[ea,D.und,D.unds,kJ,kw]
noncomputable def ff(a b c d:Bool):List D:=(if a then[.str "came"]else[])++(if b then[.str "chalk"]else[])++(if c then[.str "doors"]else[])++(if d then[.str "others"]else[])
theorem Bo {xs:List D}(h:xs.Sublist [.str "came",.str "chalk",.str "doors",.str "others"]):∃a b c d,xs=ff a b c d:=by
 have one:∀{x:D} {l ys:List D},ys.Sublist (x::l) -> ∃(a:Bool) (zs:List D),zs.Sublist l/\ys=(if a then[x]else[])++zs:=by
  intro x l ys h;cases h with
  |cons _ h=>exact⟨J,ys,h,O⟩
  |cons_cons _ h=>exact⟨M,_,h,O⟩
 obtain⟨a,i,h1,rfl⟩:=one h;obtain⟨b,k,h2,rfl⟩:=one h1;obtain⟨c,j,f,rfl⟩:=one h2;obtain⟨d,e,g,rfl⟩:=one f;have:e=[]:=List.eq_nil_of_sublist_nil g;subst this;exact⟨a,b,c,d,by simp[ff]⟩
theorem Bp(a b c d:Bool):(ff a b c d).length<=4:=by cases a<;>cases b<;>cases c<;>cases d<;>decide
theorem iW(a b c d:Bool):D.unds 0 (ff a b c d)=M:=by cases a<;>cases b<;>cases c<;>cases d<;>rfl
theorem DC{a b c d:Bool}{S:Sto}:im (.str "came") (.tup (ff a b c d)) S=Z (.bl a,S):=by cases a<;>cases b<;>cases c<;>cases d<;>rfl
theorem A8{a b c d:Bool}{S:Sto}:im (.str "chalk") (.tup (ff a b c d)) S=Z (.bl b,S):=by cases a<;>cases b<;>cases c<;>cases d<;>rfl
theorem A7{a b c d:Bool}{S:Sto}:im (.str "doors") (.tup (ff a b c d)) S=Z (.bl c,S):=by cases a<;>cases b<;>cases c<;>cases d<;>rfl
theorem yN{a b c d:Bool}{S:Sto}:im (.str "others") (.tup (ff a b c d)) S=Z (.bl d,S):=by cases a<;>cases b<;>cases c<;>cases d<;>rfl
theorem vN{S:Sto}{n:Nat}{x:Nat}:∀a:List Nat,B2 (gI S (n+1)) (.int x) (eR a)=Z (a.contains x)
 |[]=>rfl
 |c::a=>by
  have d:gI S (n+1) (.int c) (.int x)=Z ((c:Int) == (x:Int)):=rfl;have b:((c:Int) == (x:Int))=(x == c):=by
   rw[bW,beq_iff_eq,beq_iff_eq];lia
  have ih:=vN (S:=S) (n:=n) (x:=x) a;rw[eR,mP1,B2,d,b];rw[eR]at ih;rw[ih,dr];rfl
theorem qM{S:Sto}{x:Nat}{cs:List Nat}:im (.int x) (.tup (eR cs)) S=Z (.bl (cs.contains x),S):=by
 simp only[im,vS,Hz,et,oS1,eZ,show(60:Nat)=59+1 from rfl,vN,oP1]
noncomputable def vp(a b c d:Bool)(came chalk doors others:Int):D:=.tup [if a then .int came else .non,if b then .int chalk else .non,if c then .int doors else .non,if d then .int others else .non]
theorem qa{a b c d:Bool}{w x y z:Int}:(vp a b c d w x y z).und 0=M:=by cases a<;>cases b<;>cases c<;>cases d<;>rfl
theorem AZ{κ:Type}[DecidableEq κ]{k:κ}:ej ([]:List (κ×D)) k=Y:=rfl
theorem fr{κ:Type}[DecidableEq κ]{k a:κ}{d:D}{r:List (κ×D)}:ej ((a,d)::r) k=if a=k then Z d else ej r k:=by
 unfold ej;rw[bj];by_cases h:a=k
 ·simp[h]
 ·simp[h]
theorem um{κ:Type}[DecidableEq κ]{k:κ}{b:List (κ×D)}:∀{a:List (κ×D)},ej (a++b) k=(ej a k).or (ej b k)
 |[]=>rfl
 |(x,d)::a=>by
  rw[bt,fr,fr,um (a:=a)];split<;>rfl
theorem mj{κ:Type}[DecidableEq κ]{k:κ}:∀{a:List (κ×D)},(a.any λp=>decide (p.1=k))=J->ej a k=Y
 |[],_=>rfl
 |(x,d)::a,h=>by
  simp only[bm,Bool.or_eq_false_iff,decide_eq_false_iff_not]at h;rw[fr,aj h.1];exact mj h.2
theorem mi{κ:Type}[DecidableEq κ]{k k':κ}{v:D}:∀{a:List (κ×D)},(a.any λp=>decide (p.1=k))=M->ej (a.map λp=>if p.1=k then(p.1,v)else p) k'=if k'=k then Z v else ej a k'
 |[],h=>by simp at h
 |(x,d)::a,h=>by
  rw[mP1];by_cases f:x=k
  ·subst f;rw[ak (show(x,d).1=x from rfl)];rw[fr,fr];by_cases c:k'=x
   ·subst c;simp
   ·rw[aj (Ne.symm c),aj (Ne.symm c),aj c];by_cases g:(a.any λp=>decide (p.1=x))=M
    ·rw[mi g,aj c]
    ·have:(a.map fun p=>if p.1=x then (p.1,v) else p)=a:=by
      have b:(a.any λp=>decide (p.1=x))=J:=Bool.eq_false_iff.mpr g;rw[aN]at b
      conv=>rhs;rw[<- List.map_id a]
      apply dk;intro p i;have:=b p i;simp at this;simp[this]
     rw[this]
  ·simp only[bm,ai f,Bool.false_or]at h;rw[aj (show¬ (x,d).1=k from f)];rw[fr,fr,mi h];by_cases e:x=k'
   ·subst e;simp[f]
   ·simp[e]
theorem ul{κ:Type}[DecidableEq κ]{k k':κ}{v:D}{a:List (κ×D)}:ej (fB a k v) k'=if k'=k then Z v else ej a k':=by
 unfold fB;split
 ·rename_i h;exact mi h
 ·rename_i h;have h':(a.any λp=>decide (p.1=k))=J:=Bool.eq_false_iff.mpr h;rw[um,fr,AZ];by_cases b:k'=k
  ·subst b;rw[mj h',ak O];rfl
  ·rw[aj (Ne.symm b),aj b];cases ej a k'<;>rfl
theorem wH{κ:Type}[DecidableEq κ]{k:κ}{v:D}{a:List (κ×D)}:(fB a k v).length<=a.length+1:=by
 unfold fB;split
 ·rw[lM1];lia
 ·rw[lA1];simp
theorem Fs{κ:Type}[DecidableEq κ]{k:κ}{v:D}{a:List (κ×D)}:fB a k v≠[]:=by
 unfold fB;split
 ·rename_i h;intro z;cases a with
  |nil=>simp at h
  |cons x xs=>simp at z
 ·simp
noncomputable def dO(F:List (TK×D)):Ob:=if F=[]then .dct []else .dcT F
theorem Hj{U:Sto}{n i:Nat}{xs:List D}{x:D}{Q:D×Sto->Prop}(h:U[n]?=Z (.lst xs))(hx:xs[i]?=Z x)(hb:i<1000)(q:Q (x,U.set n (.lst (xs.eraseIdx i)))):W (Bf (.ref n) (.int i) U) Q:=by
 have a:=(gE1.mp hx).1;refine W.of ?_ q;simp only[Bf,h];rw[ak ⟨by lia,by lia⟩];simp only[xg,ak (show(0:Int)<=i by lia)];rw[ak (by lia)];simp[hx]
theorem vQ{d:D}{S G:Sto}(hd:d.und 0=M)(a:S.all (Ob.und S.length)=M):gc S.length (d,S++G)=(d,S):=by
 unfold gc;dsimp only;rw[df,ak (by rw[gb hd,a];rfl)]
theorem sL{d:D}{S V:Sto}(hd:d.und 0=M)(a:S.all (Ob.und S.length)=M)(hp:S <+: V):gc S.length (d,V)=(d,S):=by
 obtain⟨G,rfl⟩:=hp;exact vQ hd a
theorem s0{m:FA}{r:Ev}{S:Sto}{xs ys:List D}{n:Nat}{Q:BY×Sto->Prop}(hm:m r S=Z ([.tup xs,.ref n],S))(hn:S[n]?=Z (.lst ys))(q:Q (⟨u8 xs ys,[(n,ys)]⟩,S)):W (B3 m r S) Q:=by
 refine W.of (x:=(⟨u8 xs ys,[(n,ys)]⟩,S)) ?_ q;simp only[B3,hm,oS1,wA,jR hn,xI,xJ hn,bg]
theorem nN{α:Type}{f g:α->D}:∀l:List α,u8 (l.map f) (l.map g)=l.map λx=>D.tup [f x,g x]
 |[]=>rfl
 |a::l=>by rw[mP1,mP1,u8,nN l];rfl
theorem EJ{m:FA}{r:Ev}{S:Sto}{xs:List D}{Q:BY×Sto->Prop}(hm:m r S=Z ([.tup xs],S))(q:Q (⟨zp 0 xs,[]⟩,S)):W (GV m r S) Q:=by
 refine W.of (x:=(⟨zp 0 xs,[]⟩,S)) ?_ q;simp only[GV,hm,oS1,wA,xI]
theorem vW{α:Type}{f:α->D}:∀(l:List α) (k:Nat),zp k (l.map f)=(l.zipIdx k).map λp=>D.tup [.int (p.2:Nat),f p.1]
 |[],_=>rfl
 |a::l,k=>by rw[mP1,zp,vW l (k+1),bQ];rfl
theorem lZ{α:Type}{l:List α}{p:α×Nat}(h:p∈l.zipIdx):l[p.2]?=Z p.1:=by
 have:=List.mem_zipIdx_iff_getElem?.mp h;exact this
theorem km{α β:Type}(f:α->β)(l:List α):(l.zipIdx.map λp=>f p.1)=l.map f:=by
 have:(λp:α×Nat=>f p.1)=f∘Prod.fst:=rfl;rw[this,<- bD,List.zipIdx_map_fst]
mutual
theorem Fg{n:Nat}:∀{d:D},d.und 0=M->d.sh n=d
 | .non,_=>rfl
 | .bl _,_=>rfl
 | .int _,_=>rfl
 | .str _,_=>rfl
 | .tup xs,h=>by rw[D.und]at h;rw[D.sh,jQ h]
 | .rol xs,h=>by rw[D.und]at h;rw[D.sh,jQ h]
 | .fn _,_=>rfl
 | .ref k,h=>by simp[D.und]at h
theorem jQ{n:Nat}:∀{ds:List D},D.unds 0 ds=M->D.shs n ds=ds
 |[],_=>rfl
 |d::ds,h=>by
  rw[D.unds,bA1]at h;rw[D.shs,Fg h.1,jQ h.2]
end
theorem EG{n:Nat}{f:FN}{ds:List D}{S:Sto}{Q:D×Sto->Prop}(hn:ds.length=n)(a:D.unds 0 ds=M)(h:W (f ds []) λp=>∃xs,p=(.ref 0,[.lst xs])/\D.unds 0 xs=M/\Q (.ref S.length,S++[.lst xs])):W (d8 n f ds S) Q:=by
 obtain⟨p,e,xs,rfl,b,q⟩:=h;refine⟨_,pf e hn a O,?_⟩;have d:(D.ref 0).sh S.length = .ref S.length:=rfl;have c:[Ob.lst xs].map (Ob.sh S.length)=[Ob.lst xs]:=by rw[mP1,bh,Ob.sh,jQ b]
 rw[d,c];exact q
theorem Gs{ns:List Int}{k:Int}:k∈ddI ns↔k∈ns:=by
 have key:∀(ns a:List Int),k∈ns.foldl step_dedup a↔k∈a\/k∈ns:=by
  intro ns
  induction ns with
  |nil=>intro a;simp
  |cons n ns ih=>
   intro a;rw[bd,ih];have:k∈step_dedup a n↔k∈a\/k=n:=by
    unfold step_dedup;split
    ·rename_i h;obtain⟨x,b,e⟩:=bX.mp h;have e:=beq_iff_eq.mp e;subst e;constructor
     ·exact .inl
     ·rintro(z|z)
      ·exact z
      ·rw[z];exact b
    ·simp
   rw[this,aG,or_assoc]
 unfold ddI;rw[key];simp
theorem Ci{xs:List Nat}{m:Nat}{f:Nat->Bool}(h:∀r,r∈xs↔r<m/\f r=M):kN (ddI (xs.map λ(r:Nat)=>(r:Int)))=((af m).filter f).map λ(r:Nat)=>(r:Int):=by
 refine rX ?_ (nY _) ?_
 ·refine(i5 _).trans ?_;refine(List.perm_ext_iff_of_nodup (uN _ [] bw) ?_).mpr λk=>?_
  ·refine dw.mpr ((List.nodup_range.filter f).imp λb z=>b (by lia))
  ·show k∈ddI _↔_;rw[Gs,cj,cj];constructor
   ·rintro⟨r,a,rfl⟩;exact⟨r,aB.mpr ⟨aC.mpr ((h r).mp a).1,((h r).mp a).2⟩,O⟩
   ·rintro⟨r,a,rfl⟩;obtain⟨h1,h2⟩:=aB.mp a;exact⟨r,(h r).mpr ⟨aC.mp h1,h2⟩,O⟩
 ·refine dw.mpr ((List.pairwise_lt_range.sublist List.filter_sublist).imp λc=>by lia)
theorem Dz(xs:List Nat):mo (eR xs)=Z (xs.map λ(r:Nat)=>(r:Int)):=by
 induction xs with
 |nil=>rfl
 |cons x xs ih=>
  show(mo (eR xs)).map _=_;rw[ih];rfl
theorem zi{S:Sto}{n:Nat}{xs:List Nat}{m:Nat}{f:Nat->Bool}{Q:D×Sto->Prop}(hn:S[n]?=Z (.lst (eR xs)))(h:∀r,r∈xs↔r<m/\f r=M)(a:xs.length<64)(q:Q (.ref S.length,S++[.lst (eR ((af m).filter f))])):W (jF (.ref n) S) Q:=by
 refine W.of (x:=(.ref S.length,S++[.lst (eR ((af m).filter f))])) ?_ q;simp only[jF,jR hn,Dz,oS1];rw[ak (by rw[lM1];exact a),Ci h,bD];rfl
end Mi
end
local macro_rules | `(tactic| walk_at"w") => `(tactic| simp only[Mi.eN, Mi.kB, Mi.ite_and', Mi.ei, Mi.lV, Mi.uV, Mi.eA, Mi.eE, Mi.hB, Mi.fA, Mi.fF, Mi.pK, Mi.mN, Mi.d4, Mi.d5, Mi.m2, Mi.m1, Mi.mV, Mi.mC, Mi.BR, Mi.mB, Mi.vI, Mi.Hw, Mi.AS, Mi.vH, Mi.gU, Mi.Hv, Mi.gN, Mi.gT, Mi.fQ, Mi.jp, Mi.gS, Mi.b1, Mi.b2, Mi.b3, Mi.hI, Mi.Hu, Mi.JH, Mi.hC, Mi.oK, Mi.gSub, Mi.jh, Mi.lF, Mi.DQ, Mi.DK, true_and, bc, lA1, dz, gC1, da, db, lC1, bn, mP1, bh, Mi.LU, Mi.LS, Mi.LH, bg, bt, aP, Nat.reduceAdd, Nat.reduceSub, Option.join_some, oS1, if_true, if_false, bF1, b9, cp, decide_true, Mi.L6, Mi.L5, Mi.gj, Mi.zf9, Mi.zr9, Mi.zi9])
noncomputable section
namespace Law
open PySem PySem.Spec PyProof.Rows L2 Mi
noncomputable def top (i:Nat):d0:=PySem.Challenge.pw_ringmeet_k88_whole_quiet_however_slow.main.body.getD i (.Pass ⟨0,0,0,0⟩)
abbrev BL:List Str:=["dict","enumerate","int","isinstance","len","list","max","min","range","repr","set","sorted","tuple","zip"]
noncomputable def nJ:D:=(D.tup [(D.tup [(D.str "came"),(D.int 5)]),(D.tup [(D.str "chalk"),(D.int 2)]),(D.tup [(D.str "doors"),(D.int 5)]),(D.tup [(D.str "others"),(D.int 2)])])
section
variable{P:dQ}{w:dS}{K:Fg1}{mg:Str->Option dM}{base h:dY}(X:K.In h) (G:h.Ns dU mg) (B:Blt BL mg)
include X G B
abbrev n6:d0:=top 3
def k7:FT:=(mB (m2 (b2 xp) (mV 2) (mV 3)))
def k6:FS:=(eA (eE (m2 (b2 pQ) (m2 (b2 gB) (mV 2) (mV 3)) (mC (D.int 2))) (gN 4))
  (hB (mB (m2 (b2 xp) (m2 (b2 d6) (m2 (b2 d6) (m2 (b2 d6) (mV 0) (mV 4)) (mC (D.int 0))) (mC (D.int 0))) (mV 1))) (eE (m2 (b2 gB) (mV 4) (mC (D.int 1))) (gN 2)) (eE (mV 4) (gN 3))))
def pp:FS:=(eA (eE (mC (D.int 0)) (gN 2))
  (eA (eE (mN (b1 fc) (d4 (mV 0) d5)) (gN 3))
  (eA (s9 k7 k6 100000)
  (fA (mV 2)))))
def ig:FN:=iH 5 pp
theorem tZ {f:dP}(F:eU K "first_of" n6 f):
  fR P w K mg base 1 "first_of" 2 ig:=xq ["rows","mood","low","high","middle"] X G F λa=>
 (qF (sq qK) (qF (sq (cn fy (a1 xv))) (qF (l0 100000 PassesOwn.never (ct (oq ke) xv xv) (qF (sq (qI wV (qI gu xv xv) qK)) (qG (qV (ct (oq ke) (jq (jq (jq xv xv) qK) qK) xv) (qG (sq (qI gu xv qK))) (qG (sq xv)))))) (qG (qU xv)))))
abbrev wE:d0:=top 5
def xN:FS:=(eA (eE (mV 0) (gT 2 (fQ (gN 1) (fQ (gN 2) jp))))
  (fA (fg (d4 (mN (b1 gTup) (d4 (fe 1 [] (iU (mV 1)) (gN 0) gU (eQ (fg (d4 (mV 0) (d4 (mC (D.int 0)) (d4 (mC (D.int 0)) d5)))))) d5)) (d4 (mV 2) d5)))))
def ln:FN:=iH 3 xN
theorem Ax {f:dP}(F:eU K "begun" wE f):
  fR P w K mg base 1 "begun" 1 ln:=xq ["standing","rooms","chalk"] X G F λa=>
 (qF (qR xv (tg2 gq gq)) (qG (qU (eD (a2 (cz e9 (a1 (fk ["room"] (qd xv) ⟨gq,fD,(eD (a3 xv qK qK))⟩))) xv)))))
abbrev n4:d0:=top 6
def pk:FS:=(eA (eE (mV 2) (gT 2 (fQ (gN 4) (fQ (gN 5) jp))))
  (eA (eE (m2 (b2 d6) (mV 4) (mV 3)) (gT 3 (fQ (gN 6) (fQ (gN 7) (fQ (gN 8) jp)))))
  (eA (eE (fe 1 [6] (iU (mV 4)) (gN 0) (mB (m2 (b2 pP) (m2 (b2 d6) (mV 0) (mC (D.int 0))) (mV 1))) (eQ (mV 0))) (gN 9))
  (eA (eE (ui [((mC (D.str "came")),(mV 7)),((mC (D.str "chalk")),(vH (mB (m2 (b2 im) (mV 6) (mV 5))) (mC (D.int 1)) (mC (D.int 0)))),((mC (D.str "doors")),(mN (b1 fc) (d4 (m2 (b2 d6) (mV 0) (mV 6)) d5))),((mC (D.str "others")),(vH (mB (m2 (b2 (jh λi j=>decide (j<i))) (mN (b1 fc) (d4 (mV 9) d5)) (mC (D.int 1)))) (mC (D.int 1)) (mC (D.int 0))))]) (gN 10))
  (fA (mN (b1 gTup) (d4 (fe 2 [1,10] (iU (mC nJ)) (gT 2 (fQ (gN 0) (fQ (gN 1) jp))) gU (eQ (vH (mB (m2 (b2 im) (mV 0) (mV 2))) (m2 (b2 d6) (mV 3) (mV 0)) (mC D.non)))) d5)))))))
def ic:FN:=iH 11 pk
theorem tY {f:dP}(F:eU K "sight_of" n4 f)(c0:CGl K mg "PARTS" nJ):
  fR P w K mg base 1 "sight_of" 4 ic:=xq ["web","eyes","whole","k","walkers","chalk","room","came","mood","here","parts"] X G F λa=>
 (qF (qR xv (tg2 gq gq)) (qF (qR (jq xv xv) (iq O (eH gq (eH gq (eH gq gM))))) (qF (gm 9 O (T:=["other"]) (keep:=[6]) ⟨O,by decide+kernel,(kc "room" (cU _))⟩ O (qd xv) (λ_ _ _=>⟨gq,(ft (ct (oq nr) (jq xv qK) xv)),xv⟩) (g9 O) O (by first|exact Or.inl rfl|exact Or.inr rfl)) (qF (sq (tj (gL eS xv (gL eS (nQ (ct (oq lf) xv xv (by with_unfolding_all rfl)) qK qK) (gL eS (cn fy (a1 (jq xv xv))) (gL eS (nQ (ct yq (cn fy (a1 xv)) qK) qK qK) wh)))))) (qG (qU (cz e9 (a1 (fk ["eye","many"] (qd (zz c0 rfl)) ⟨(tg2 gq gq),fD,(nQ (ct (oq lf) xv xv (by with_unfolding_all rfl)) (jq xv xv) gr)⟩)))))))))
abbrev qf:d0:=top 9
def rD:FS:=(eA (eE (mV 0) (gT 2 (fQ (gN 2) (fQ (gN 3) jp))))
  (eA (eE (fe 2 [] (B3 (d4 (mV 2) (d4 (mV 1) d5))) (gT 2 (fQ (gN 0) (fQ (gN 1) jp))) (mB (m2 (b2 pP) (m2 (b2 d6) (mV 1) (mC (D.int 1))) (mC (D.str "mark")))) (eQ (m2 (b2 d6) (mV 0) (mC (D.int 0))))) (gN 4))
  (eA (eE (fe 2 [] (B3 (d4 (mV 2) (d4 (mV 1) d5))) (gT 2 (fQ (gN 0) (fQ (gN 1) jp))) (mB (m2 (b2 pP) (m2 (b2 d6) (mV 1) (mC (D.int 1))) (mC (D.str "wipe")))) (eQ (m2 (b2 d6) (mV 0) (mC (D.int 0))))) (gN 5))
  (eA (eE (fe 1 [5] (iU (mV 3)) (gN 0) (mB (m2 (b2 fZ) (mV 0) (mV 1))) (eQ (mV 0))) (gN 6))
  (fA (mN (b1 gTup) (d4 (mN (b1 jF) (d4 (m2 (b2 gB) (mV 6) (mV 4)) d5)) d5)))))))
def iR:FN:=iH 7 rD
theorem vA {f:dP}(F:eU K "handled" qf f):
  fR P w K mg base 1 "handled" 2 iR:=xq ["whole","deeds","walkers","chalk","marked","wiped","left"] X G F λa=>
 (qF (qR xv (tg2 gq gq)) (qF (gm 4 O (T:=["walker","deed"]) (keep:=[]) ⟨O,by decide+kernel,(cU _)⟩ O (kI O (bz B) (a2 xv xv)) (λ_ _ _=>⟨(tg2 gq gq),(ft (ct (oq nr) (jq xv qK) eS)),(jq xv qK)⟩) (g9 O) O (by first|exact Or.inl rfl|exact Or.inr rfl)) (qF (sq (fk ["walker","deed"] (kI rfl (bz B) (a2 xv xv)) ⟨(tg2 gq gq),(ft (ct (oq nr) (jq xv qK) eS)),(jq xv qK)⟩)) (qF (gm 6 rfl (T:=["room"]) (keep:=[5]) ⟨rfl,by decide+kernel,(kc "wiped" (cU _))⟩ rfl (qd xv) (λ_ _ _=>⟨gq,(ft (ct (oq oC) xv xv (by with_unfolding_all rfl))),xv⟩) (g9 O) O (by first|exact Or.inl rfl|exact Or.inr rfl)) (qG (qU (cz e9 (a1 (xY rfl rfl (bz B) rfl (bz B) (qI gu xv xv))))))))))
abbrev qc:d0:=top 10
def rB:FS:=(eA (eE (mV 1) (gT 3 (fQ (gN 3) (fQ (gN 4) (fQ (gN 5) jp)))))
  (eA (eE (mV 2) (gT 3 (fQ (gN 6) (fQ (gN 7) (fQ (gN 8) jp)))))
  (eA (hB (Hw (mB (m2 (b2 DL) (mV 8) (mC D.non))) (mB (m2 (b2 (jh λi j=>decide (j<=i))) (mV 8) (mN (b1 fc) (d4 (m2 (b2 d6) (mV 0) (mV 3)) d5))))) (fA (fg (d4 (mV 3) (d4 (mV 4) (d4 (mV 6) d5))))) pK)
  (eA (eE (m2 (b2 d6) (m2 (b2 d6) (mV 0) (mV 3)) (mV 8)) (gT 2 (fQ (gN 9) (fQ (gN 10) jp))))
  (fA (fg (d4 (mV 9) (d4 (m2 (b2 gB) (mC (D.int 1)) (mV 10)) (d4 (mV 6) d5)))))))))
def iQ:FN:=iH 11 rB
theorem vz {f:dP}(F:eU K "stepped" qc f):
  fR P w K mg base 1 "stepped" 3 iQ:=xq ["web","walker","deed","room","came","past","mood","hand","step","there","back"] X G F λa=>
 (qF (qR xv (iq O (eH gq (eH gq (eH gq gM))))) (qF (qR xv (iq O (eH gq (eH gq (eH gq gM))))) (qF (qV (nP (u9 (ct Iu xv gr) (rG (ct Ix xv (cn fy (a1 (jq xv xv))))))) (qG (qU (eD (a3 xv xv xv)))) qQ) (qF (qR (jq (jq xv xv) xv) (tg2 gq gq)) (qG (qU (eD (a3 xv (qI gu qK xv) xv))))))))
abbrev mM:d0:=top 18
def jL:FS:=(eA (eE (mC (D.int 0)) (gN 2))
  (eA (hB (mB (m2 (b2 xp) (mV 1) (mN (b1 fc) (d4 (mV 0) d5)))) (eE (m2 (b2 d6) (mV 0) (mV 1)) (gN 2)) pK)
  (eA (eE (m2 (b2 jY) (m2 (b2 lE) (mV 2) (m2 (b2 jY) (m2 (b2 vR) (mC (D.int 10)) (mC (D.int 60))) (m2 (b2 vR) (mC (D.int 10)) (mC (D.int 30))))) (mN (b1 lF) (d4 (m2 (b2 (jh λi j=>decide (j<=i))) (mV 2) (m2 (b2 vR) (mC (D.int 10)) (mC (D.int 18)))) d5))) (gN 3))
  (fA (ip (d4 (mV 3) (d4 (m2 (b2 lE) (m2 (b2 gB) (m2 (b2 gB) (m2 (b2 lE) (mV 2) (mC (D.int 2305843009213693951))) (m2 (b2 jY) (mC (D.int 7919)) (mV 1))) (mC (D.int 3))) (mC (D.int 2305843009213693951))) (d4 (mC (D.int 0)) d5))))))))
def fT:FN:=iH 4 jL
theorem sv {f:dP}(F:eU K "_law_hand" mM f):
  fR P w K mg base 1 "_law_hand" 2 fT:=xq ["_law_script","_law_k","_law_cell","_law_great"] X G F λa=>
 (qF (sq qK) (qF (qV (ct (oq ke) xv (cn fy (a1 xv))) (qG (sq (jq xv xv))) qQ) (qF (sq (qI k9 (qI mU xv (qI k9 (qI Az qK qK) (qI Az qK qK))) (cz ro (a1 (ce Ix xv (qI Az qK qK)))))) (qG (qU (fC (a3 xv (qI mU (qI gu (qI gu (qI mU xv qK) (qI k9 qK xv)) qK) qK) qK)))))))
abbrev mL:d0:=top 19
def jK:FS:=(eA (hB (mB (m2 (b2 (jh fun i j=>decide (j<i))) (m2 (b2 d6) (mV 0) (mC (D.int 0))) (mC (D.int 0)))) (eA (eE (m2 (b2 lE) (m2 (b2 d6) (mV 0) (mC (D.int 0))) (mV 1)) (gN 2))
  (eA (eE (m2 (b2 pQ) (m2 (b2 d6) (mV 0) (mC (D.int 0))) (mV 1)) (gS (b3 jG) (mV 0) (mC (D.int 0))))
  (fA (mV 2)))) pK)
  (eA (eE (m2 (b2 gB) (m2 (b2 d6) (mV 0) (mC (D.int 2))) (mC (D.int 1))) (gS (b3 jG) (mV 0) (mC (D.int 2))))
  (eA (eE (m2 (b2 lE) (m2 (b2 jY) (m2 (b2 gB) (m2 (b2 gB) (m2 (b2 d6) (mV 0) (mC (D.int 1))) (m2 (b2 jY) (m2 (b2 jY) (mC (D.int 65537)) (m2 (b2 d6) (mV 0) (mC (D.int 2)))) (m2 (b2 d6) (mV 0) (mC (D.int 2))))) (mC (D.int 11))) (mC (D.int 48271))) (mC (D.int 2305843009213693921))) (gN 3))
  (eA (eE (m2 (b2 lE) (m2 (b2 jY) (mV 3) (m2 (b2 gB) (m2 (b2 lE) (mV 3) (mC (D.int 1000003))) (m2 (b2 jY) (mC (D.int 99991)) (m2 (b2 d6) (mV 0) (mC (D.int 2)))))) (mC (D.int 2305843009213693907))) (gN 3))
  (fA (m2 (b2 lE) (m2 (b2 gB) (m2 (b2 pQ) (mV 3) (mC (D.int 97))) (m2 (b2 pQ) (mV 3) (mC (D.int 1000033)))) (mV 1)))))))
def d7:FN:=iH 4 jK
theorem su {f:dP}(F:eU K "_law_take" mL f):
  fR P w K mg base 1 "_law_take" 2 d7:=xq ["_law_hand_here","_law_many","_law_digit","_law_mixed"] X G F λa=>
 (qF (qV (ct yq (jq xv qK) qK) (qF (sq (qI mU (jq xv qK) xv)) (qF (qR (qI wV (jq xv qK) xv) (nB xv qK (rV a.units))) (qG (qU xv)))) qQ) (qF (qR (qI gu (jq xv qK) qK) (nB xv qK (rV a.units))) (qF (sq (qI mU (qI k9 (qI gu (qI gu (jq xv qK) (qI k9 (qI k9 qK (jq xv qK)) (jq xv qK))) qK) qK) qK)) (qF (sq (qI mU (qI k9 xv (qI gu (qI mU xv qK) (qI k9 qK (jq xv qK)))) qK)) (qG (qU (qI mU (qI gu (qI wV xv qK) (qI wV xv qK)) xv)))))))
abbrev oh:d0:=top 21
def pz:FS:=(eA (eE (m2 (b2 d6) (m2 (b2 d6) (mV 1) (m2 (b2 d6) (mV 2) (mC (D.int 0)))) (m2 (b2 gSub) (mC (D.int 1)) (m2 (b2 d6) (mV 2) (mC (D.int 1))))) (gN 3))
  (fA (fg (d4 (mV 3) (d4 (pL (b2 Bi) (m2 (b2 d6) (mV 0) (mV 3)) (d4 (fg (d4 (m2 (b2 d6) (mV 2) (mC (D.int 0))) (d4 (m2 (b2 gSub) (mC (D.int 1)) (m2 (b2 d6) (mV 2) (mC (D.int 1)))) d5))) d5)) d5)))))
def gE:FN:=iH 4 pz
theorem ua {f:dP}(F:eU K "_law_far" oh f):
  fR P w K mg base 1 "_law_far" 3 gE:=xq ["_law_ends","_law_pairs","_law_end","_law_room"] X G F λa=>
 (qF (sq (jq (jq xv (jq xv qK)) (qI wU qK (jq xv qK)))) (qG (qU (eD (a2 xv (qe PySem.F.slot_list_index PySem.F.type_list_index (HH a.units) (jq xv xv) (a1 (eD (a2 (jq xv qK) (qI wU qK (jq xv qK)))))))))))
abbrev kW:d0:=top 25
def lQ:FS:=(eA (eE (m2 (b2 d6) (m2 (b2 d6) (mV 2) (mC (D.int 0))) (mV 3)) (gT 3 (fQ (gN 4) (fQ (gN 5) (fQ (gN 6) jp)))))
  (eA (eE (mN (b1 fc) (d4 (fe 1 [4] (iU (m2 (b2 d6) (mV 2) (mC (D.int 0)))) (gN 0) (mB (m2 (b2 pP) (m2 (b2 d6) (mV 0) (mC (D.int 0))) (mV 1))) (eQ (mV 0))) d5)) (gN 7))
  (eA (eE (ui [((mC (D.str "came")),(mV 5)),((mC (D.str "chalk")),(mN (b1 lF) (d4 (m2 (b2 im) (mV 4) (m2 (b2 d6) (mV 2) (mC (D.int 1)))) d5))),((mC (D.str "doors")),(mN (b1 fc) (d4 (m2 (b2 d6) (mV 0) (mV 4)) d5))),((mC (D.str "others")),(mN (b1 lF) (d4 (m2 (b2 (jh λi j=>decide (j<i))) (mV 7) (mC (D.int 1))) d5)))]) (gN 8))
  (fA (mN (b1 gTup) (d4 (fe 1 [1,8] (iU (fg (d4 (mC (D.str "came")) (d4 (mC (D.str "chalk")) (d4 (mC (D.str "doors")) (d4 (mC (D.str "others")) d5)))))) (gN 0) gU (eQ (vH (mB (m2 (b2 im) (mV 0) (mV 1))) (m2 (b2 d6) (mV 2) (mV 0)) (mC D.non)))) d5))))))
def fv:FN:=iH 9 lQ
theorem pG {f:dP}(F:eU K "_law_sight" kW f):
  fR P w K mg base 1 "_law_sight" 4 fv:=xq ["_law_web_here","_law_eyes","_law_whole","_law_k","_law_room","_law_came","_law_mood","_law_crowd","_law_parts"] X G F λa=>
 (qF (qR (jq (jq xv qK) xv) (iq O (eH gq (eH gq (eH gq gM))))) (qF (sq (cn fy (a1 (fk ["_law_walker"] (qd (jq xv qK)) ⟨gq,(ft (ct (oq nr) (jq xv qK) xv)),xv⟩)))) (qF (sq (tj (gL eS xv (gL eS (cz ro (a1 (ce (oq lf) xv (jq xv qK) (by with_unfolding_all rfl)))) (gL eS (cn fy (a1 (jq xv xv))) (gL eS (cz ro (a1 (ce yq xv qK))) wh)))))) (qG (qU (cz e9 (a1 (fk ["_law_eye"] (qd (eD (qA eS (a3 eS eS eS)))) ⟨gq,fD,(nQ (ct (oq lf) xv xv (by with_unfolding_all rfl)) (jq xv xv) gr)⟩))))))))
abbrev jw:d0:=top 26
def iO:FS:=(eA (eE (fe 2 [4] (B3 (d4 (m2 (b2 d6) (mV 1) (mC (D.int 0))) (d4 (mV 2) d5))) (gT 2 (fQ (gN 0) (fQ (gN 1) jp))) (mB (m2 (b2 pP) (m2 (b2 d6) (mV 0) (mC (D.int 0))) (mV 2))) (eQ (m2 (b2 d6) (mV 1) (mC (D.int 1))))) (gN 5))
  (hB (Hw (mB (m2 (b2 im) (mC (D.str "mark")) (mV 5))) (vI (mB (m2 (b2 im) (mV 4) (m2 (b2 d6) (mV 1) (mC (D.int 1))))) (mB (m2 (b2 fZ) (mC (D.str "wipe")) (mV 5))))) (fF (pL (b2 jZ) (mV 3) (d4 (mV 4) d5))) pK))
def jM:FS:=(eA (eE (ip d5) (gN 3))
  (eA (hC (pN (d4 (mN (b1 fc) (d4 (mV 0) d5)) d5)) (gN 4) iO)
  (fA (mN (b1 gTup) (d4 (mV 3) d5)))))
def fU:FN:=iH 6 jM
theorem nq {f:dP}(F:eU K "_law_chalked" jw f):
  fR P w K mg base 1 "_law_chalked" 3 fU:=xq ["_law_web_here","_law_whole","_law_dealt","_law_found","_law_room","_law_hands"] X G F λa=>
 (qF (sq (fC qN)) (qF (fo (ir (a1 (cn fy (a1 xv)))) gq (qF (gm 5 O (T:=["_law_walker","_law_deed_here"]) (keep:=[4]) ⟨O,by decide+kernel,(kc "_law_room" (cU _))⟩ O (kI O (bz B) (a2 (jq xv qK) xv)) (λ_ _ _=>⟨(tg2 gq gq),(ft (ct (oq nr) (jq xv qK) xv)),(jq xv qK)⟩) (g9 O) O (by first|exact Or.inl rfl|exact Or.inr rfl)) (qG (qV (nP (u9 (ct (oq lf) eS xv (by with_unfolding_all rfl)) (rG (nP (nz (ct (oq lf) xv (jq xv qK) (by with_unfolding_all rfl)) (kG (ct (oq oC) eS xv (by with_unfolding_all rfl)))))))) (qG (lq ap xv (a1 xv))) qQ)))) (qG (qU (cz e9 (a1 xv))))))
abbrev kX:d0:=top 32
def hR:FS:=(eA (hB (mB (m2 (b2 (jh fun i j=>decide (j<i))) (mV 5) (mC (D.int 0)))) (eE (fe 1 [4,2,5] (pN (d4 (mV 3) d5)) (gN 0) gU (eQ (m2 (b2 gB) (m2 (b2 d6) (mV 1) (mV 0)) (mN (b1 lF) (d4 (m2 (b2 im) (mV 0) (m2 (b2 d6) (mV 2) (m2 (b2 gSub) (mV 3) (mC (D.int 1))))) d5))))) (gN 4)) pK)
  (eA (eE (mN (b1 gTup) (d4 (fe 1 [1,4] (pN (d4 (mV 3) d5)) (gN 0) gU (eQ (m2 (b2 d6) (m2 (b2 d6) (m2 (b2 d6) (mV 1) (m2 (b2 d6) (mV 2) (mV 0))) (mC (D.int 0))) (mV 0)))) d5)) (gN 6))
  (hB (mB (m2 (b2 GW) (mN (b1 m3) (d4 (m2 (b2 d6) (mV 0) (mV 5)) d5)) (mN (b1 m3) (d4 (fg (d4 (mV 6) (d4 (m2 (b2 d6) (m2 (b2 d6) (mV 1) (mC (D.int 0))) (mC (D.int 1))) d5))) d5)))) (fA (mC (D.bl J))) pK)))
def lR:FS:=(eA (eE (m2 (b2 oO) (ip (d4 (mC (D.int 0)) d5)) (mV 3)) (gN 4))
  (eA (hB (Hw (AS (Hv (yB .tuple (mV 0)))) (mB (m2 (b2 GW) (mN (b1 fc) (d4 (mV 0) d5)) (m2 (b2 gB) (mN (b1 fc) (d4 (mV 2) d5)) (mC (D.int 1)))))) (fA (mC (D.bl J))) pK)
  (eA (hC (pN (d4 (mN (b1 fc) (d4 (mV 0) d5)) d5)) (gN 5) hR)
  (fA (mC (D.bl M))))))
def gz:FN:=iH 7 lR
theorem pH {f:dP}(F:eU K "_law_right" kX f):
  fR P w K mg base 1 "_law_right" 4 gz:=xq ["_law_found","_law_wholes","_law_some","_law_many","_law_counts","_law_at","_law_due"] X G F λa=>
 (qF (sq (qI vC (fC (a1 qK)) xv)) (qF (qV (nP (u9 (wg (wf (ii xv))) (rG (ct (oq F8) (cn fy (a1 xv)) (qI gu (cn fy (a1 xv)) qK))))) (qG (qU nR)) qQ) (qF (fo (ir (a1 (cn fy (a1 xv)))) gq (qF (qV (ct yq xv qK) (qG (sq (fk ["_law_k"] (ir (a1 xv)) ⟨gq,fD,(qI gu (jq xv xv) (cz ro (a1 (ce (oq lf) xv (jq xv (qI wU xv qK)) (by with_unfolding_all rfl)))))⟩))) qQ) (qF (sq (cz e9 (a1 (fk ["_law_k"] (ir (a1 xv)) ⟨gq,fD,(jq (jq (jq xv (jq xv xv)) qK) xv)⟩)))) (qG (qV (ct (oq F8) (cn (BH a) (a1 (jq xv xv))) (cn (BH a) (a1 (eD (a2 xv (jq (jq xv qK) qK)))))) (qG (qU nR)) qQ))))) (qG (qU nR)))))
abbrev qg:d0:=top 2
def mT:FT:=(vI (mB (m2 (b2 xp) (mV 4) (mN (b1 fc) (d4 (mV 3) d5)))) (mB (m2 (b2 pP) (m2 (b2 d6) (m2 (b2 d6) (m2 (b2 d6) (mV 3) (mV 4)) (mC (D.int 0))) (mC (D.int 0))) (mV 1))))
def mS:FS:=(eA (hB (mB (m2 (b2 pP) (m2 (b2 d6) (m2 (b2 d6) (m2 (b2 d6) (mV 3) (mV 4)) (mC (D.int 0))) (mC (D.int 1))) (mV 2))) (fA (m2 (b2 d6) (m2 (b2 d6) (mV 3) (mV 4)) (mC (D.int 1)))) pK)
  (Dg 4 (b2 Bj) (mC (D.int 1))))
def rE:FS:=(eA (eE (m2 (b2 d6) (mV 0) (mC (D.int 1))) (gN 3))
  (eA (eE (mN (d8 2 ig) (d4 (mV 3) (d4 (mV 1) d5))) (gN 4))
  (eA (s9 mT mS 100000)
  (fA (fg (d4 (mV 1) (d4 (mC (D.str "leave")) (d4 (mC D.non) d5))))))))
def iS:FN:=iH 5 rE
theorem vB {f:dP}(F:eU K "deed_of" qg f)(a:fR P w K mg base 1 "first_of" 2 ig):
  fR P w K mg base 2 "deed_of" 3 iS:=xq ["machine","mood","sight","rows","at"] X G F λb=>
 (qF (sq (jq xv qK)) (qF (sq (wn a (a2 xv xv))) (qF (l0 100000 PassesOwn.never (nP (nz (ct (oq ke) xv (cn fy (a1 xv))) (kG (ct (oq nr) (jq (jq (jq xv xv) qK) qK) xv)))) (qF (qV (ct (oq nr) (jq (jq (jq xv xv) qK) qK) xv) (qG (qU (jq (jq xv xv) qK))) qQ) (qG (B7 4 (g9 O) O (by first|exact Or.inl rfl|exact Or.inr rfl) qK Dx)))) (qG (qU (eD (a3 xv eS gr)))))))
abbrev wC:d0:=top 7
def xL:FS:=(fA (fe 2 [0,1,2] (GV (d4 (m2 (b2 d6) (mV 2) (mC (D.int 0))) d5)) (gT 2 (fQ (gN 0) (fQ (gN 1) jp))) gU (eQ (fg (d4 (m2 (b2 d6) (mV 1) (mC (D.int 2))) (d4 (mN (d8 4 ic) (d4 (mV 2) (d4 (mV 3) (d4 (mV 4) (d4 (mV 0) d5))))) d5))))))
def ll:FN:=iH 3 xL
theorem Av {f:dP}(F:eU K "wants" wC f)(a:fR P w K mg base 1 "sight_of" 4 ic):
  fR P w K mg base 2 "wants" 3 ll:=xq ["web","eyes","whole"] X G F λb=>
 (qG (qU (fk ["k","walker"] (ie (a1 (jq xv qK))) ⟨(tg2 gq gq),fD,(eD (a2 (jq xv qK) (wn a (qA xv (a3 xv xv xv)))))⟩)))
abbrev wD:d0:=top 8
def xM:FS:=(eA (eE (mV 1) (gT 2 (fQ (gN 3) (fQ (gN 4) jp))))
  (eA (eE (fe 2 [0] (B3 (d4 (mV 3) (d4 (mV 2) d5))) (gT 2 (fQ (gN 0) (fQ (gN 1) jp))) gU (eQ (mN (d8 3 iQ) (d4 (mV 2) (d4 (mV 0) (d4 (mV 1) d5)))))) (gN 5))
  (fA (fg (d4 (mN (b1 gTup) (d4 (mV 5) d5)) (d4 (mN (d8 2 iR) (d4 (mV 1) (d4 (mV 2) d5))) d5))))))
def lm:FN:=iH 6 xM
theorem Aw {f:dP}(F:eU K "moved" wD f)(a:fR P w K mg base 1 "handled" 2 iR)(b:fR P w K mg base 1 "stepped" 3 iQ):
  fR P w K mg base 2 "moved" 3 lm:=xq ["web","whole","deeds","walkers","chalk","behind"] X G F λc=>
 (qF (qR xv (tg2 gq gq)) (qF (gm 5 O (T:=["walker","deed"]) (keep:=[0]) ⟨O,by decide+kernel,(kc "web" (cU _))⟩ O (kI O (bz B) (a2 xv xv)) (λ_ _ _=>⟨(tg2 gq gq),fD,(wn b (a3 xv xv xv))⟩) (g9 O) O (by first|exact Or.inl rfl|exact Or.inr rfl)) (qG (qU (eD (a2 (cz e9 (a1 xv)) (wn a (a2 xv xv))))))))
abbrev og:d0:=top 20
def py:FS:=(eA (fF (pL (b3 yQ) (m2 (b2 d6) (mV 1) (mV 3)) (d4 (mN (d8 2 d7) (d4 (mV 0) (d4 (m2 (b2 gB) (mN (b1 fc) (d4 (m2 (b2 d6) (mV 1) (mV 3)) d5)) (mC (D.int 1))) d5))) (d4 (fg (d4 (mN (b1 fc) (d4 (mV 2) d5)) (d4 (mC (D.int 0)) d5))) d5))))
  (eA (fF (pL (b3 yQ) (m2 (b2 d6) (mV 1) (mV 4)) (d4 (mN (d8 2 d7) (d4 (mV 0) (d4 (m2 (b2 gB) (mN (b1 fc) (d4 (m2 (b2 d6) (mV 1) (mV 4)) d5)) (mC (D.int 1))) d5))) (d4 (fg (d4 (mN (b1 fc) (d4 (mV 2) d5)) (d4 (mC (D.int 1)) d5))) d5))))
  (fF (pL (b2 jZ) (mV 2) (d4 (fg (d4 (mV 3) (d4 (mV 4) d5))) d5)))))
def gl:FN:=iH 5 py
theorem t8 {f:dP}(F:eU K "_law_tie" og f)(a:fR P w K mg base 1 "_law_take" 2 d7):
  fR P w K mg base 2 "_law_tie" 5 gl:=xq ["_law_hand_here","_law_ends","_law_pairs","_law_one","_law_other"] X G F (hb:=λ_ _ _ _ _ _ c b=>Kw b λ_ _ _ _ _=>rfl) λd=>
 (qF (lq ⟨PySem.F.slot_list_insert,PySem.F.type_list_insert,Em⟩ (jq xv xv) (a2 (wn a (a2 xv (qI gu (cn fy (a1 (jq xv xv))) qK))) (eD (a2 (cn fy (a1 xv)) qK)))) (qF (lq ⟨PySem.F.slot_list_insert,PySem.F.type_list_insert,Em⟩ (jq xv xv) (a2 (wn a (a2 xv (qI gu (cn fy (a1 (jq xv xv))) qK))) (eD (a2 (cn fy (a1 xv)) qK)))) (qG (lq ap xv (a1 (eD (a2 xv xv)))))))
abbrev jm:d0:=top 23
def ix:FT:=(mB (m2 (b2 (jh λi j=>decide (j<i))) (mN (b1 fc) (d4 (mV 3) d5)) (m2 (b2 gB) (mC (D.int 1)) (mN (d8 2 d7) (d4 (mV 0) (d4 (mV 2) d5))))))
def iw:FS:=(fF (pL (b2 Bf) (mV 3) (d4 (mN (d8 2 d7) (d4 (mV 0) (d4 (mN (b1 fc) (d4 (mV 3) d5)) d5))) d5)))
def jn:FS:=(eA (eE (AU (d4 (mV 1) d5)) (gN 3))
  (eA (s9 ix iw 100000)
  (eA (eE (mN (d8 2 d7) (d4 (mV 0) (d4 (mC (D.int 2)) d5))) (gN 4))
  (fA (fg (d4 (mN (b1 gTup) (d4 (mV 3) d5)) (d4 (mN (b1 gTup) (d4 (fe 1 [4,0] (pN (d4 (mV 1) d5)) (gN 0) (mB (m2 (b2 pP) (m2 (b2 jY) (mV 1) (mN (d8 2 d7) (d4 (mV 2) (d4 (mC (D.int 3)) d5)))) (mC (D.int 1)))) (eQ (mV 0))) d5)) d5)))))))
def fL:FN:=iH 5 jn
theorem mh {f:dP}(F:eU K "_law_standing" jm f)(a:fR P w K mg base 1 "_law_take" 2 d7):
  fR P w K mg base 2 "_law_standing" 3 fL:=xq ["_law_hand_here","_law_many","_law_most","_law_rooms","_law_some"] X G F λb=>
 (qF (sq (vc O O (bz B) O (bz B) (a1 xv))) (qF (l0 100000 PassesOwn.never (ct yq (cn fy (a1 xv)) (qI gu qK (wn a (a2 xv xv)))) (qG (lq ⟨PySem.F.slot_list_pop,PySem.F.type_list_pop,HG⟩ xv (a1 (wn a (a2 xv (cn fy (a1 xv)))))))) (qF (sq (wn a (a2 xv qK))) (qG (qU (eD (a2 (cz e9 (a1 xv)) (cz e9 (a1 (fk ["_law_room"] (ir (a1 xv)) ⟨gq,(ft (ct (oq nr) (qI k9 xv (wn a (a2 xv qK))) qK)),xv⟩))))))))))
abbrev iM:d0:=top 24
def iX:FS:=(fA (mN (b1 gTup) (d4 (fe 1 [0] (iU (fg (d4 (mC (D.str "came")) (d4 (mC (D.str "chalk")) (d4 (mC (D.str "doors")) (d4 (mC (D.str "others")) d5)))))) (gN 0) (mB (m2 (b2 pP) (mN (d8 2 d7) (d4 (mV 1) (d4 (mC (D.int 2)) d5))) (mC (D.int 0)))) (eQ (mV 0))) d5)))
def fh:FN:=iH 1 iX
theorem k8 {f:dP}(F:eU K "_law_some_eyes" iM f)(a:fR P w K mg base 1 "_law_take" 2 d7):
  fR P w K mg base 2 "_law_some_eyes" 1 fh:=xq ["_law_hand_here"] X G F λb=>
 (qG (qU (cz e9 (a1 (fk ["_law_eye"] (qd (eD (qA eS (a3 eS eS eS)))) ⟨gq,(ft (ct (oq nr) (wn a (a2 xv qK)) qK)),xv⟩)))))
abbrev mP:d0:=top 27
def kd:FS:=(eA (eE (m2 (b2 d6) (m2 (b2 d6) (m2 (b2 d6) (mV 3) (mC (D.int 0))) (mV 6)) (mC (D.int 2))) (gN 7))
  (fF (pL (b2 jZ) (mV 4) (d4 (sC (mV 2) (fg (d4 (mV 7) (d4 (mN (d8 4 fv) (d4 (mV 0) (d4 (mV 1) (d4 (mV 3) (d4 (mV 6) d5))))) d5))) (fg (d4 (mV 7) (d4 (mC (D.str "leave")) (d4 (mC D.non) d5))))) d5))))
def kb:FS:=(eA (hB (vI (mB (m2 (b2 iB) (mV 12) (mC D.non))) (mB (m2 (b2 xp) (mV 12) (mN (b1 fc) (d4 (m2 (b2 d6) (mV 0) (mV 8)) d5))))) (eE (fg (d4 (m2 (b2 d6) (m2 (b2 d6) (m2 (b2 d6) (mV 0) (mV 8)) (mV 12)) (mC (D.int 0))) (d4 (m2 (b2 gB) (mC (D.int 1)) (m2 (b2 d6) (m2 (b2 d6) (m2 (b2 d6) (mV 0) (mV 8)) (mV 12)) (mC (D.int 1)))) d5))) (gT 2 (fQ (gN 8) (fQ (gN 9) jp)))) pK)
  (fF (pL (b2 jZ) (mV 5) (d4 (fg (d4 (mV 8) (d4 (mV 9) (d4 (mV 10) d5)))) d5))))
def nj:FS:=(eA (eE (fg (d4 (ip d5) (d4 (ip d5) d5))) (gT 2 (fQ (gN 4) (fQ (gN 5) jp))))
  (eA (hC (pN (d4 (mN (b1 fc) (d4 (m2 (b2 d6) (mV 3) (mC (D.int 0))) d5)) d5)) (gN 6) kd)
  (eA (hC (B3 (d4 (m2 (b2 d6) (mV 3) (mC (D.int 0))) (d4 (mV 4) d5))) (gT 2 (fQ (gT 3 (fQ (gN 8) (fQ (gN 9) (fQ (gN 7) jp)))) (fQ (gT 3 (fQ (gN 10) (fQ (gN 11) (fQ (gN 12) jp)))) jp))) kb)
  (fA (fg (d4 (mN (b1 gTup) (d4 (mV 5) d5)) (d4 (mN (d8 3 fU) (d4 (mV 0) (d4 (mV 3) (d4 (mV 4) d5)))) d5)))))))
def gR:FN:=iH 13 nj
theorem sx {f:dP}(F:eU K "_law_beat" mP f)(b:fR P w K mg base 1 "_law_chalked" 3 fU)(a:fR P w K mg base 1 "_law_sight" 4 fv):
  fR P w K mg base 2 "_law_beat" 4 gR:=xq ["_law_web_here","_law_eyes","_law_rows","_law_whole","_law_dealt","_law_walkers","_law_k","_law_mood","_law_room","_law_came","_law_later","_law_hand_here","_law_step"] X G F λc=>
 (qF (nA 4 5 O (g9 O) O O (by decide) O O (a2 (fC qN) (fC qN))) (qF (fo (ir (a1 (cn fy (a1 (jq xv qK))))) gq (qF (sq (jq (jq (jq xv qK) xv) qK)) (qG (lq ap xv (a1 (xZ c.units xv (eD (a2 xv (wn a (qA xv (a3 xv xv xv))))) (eD (a3 xv eS gr)))))))) (qF (fo (kI O (bz B) (a2 (jq xv qK) xv)) (tg2 (iq O (eH gq (eH gq (eH gq gM)))) (iq O (eH gq (eH gq (eH gq gM))))) (qF (qV (nP (nz (ct oD xv gr) (kG (ct (oq ke) xv (cn fy (a1 (jq xv xv))))))) (qG (nA 8 9 O (g9 O) O O (by decide) O O (a2 (jq (jq (jq xv xv) xv) qK) (qI gu qK (jq (jq (jq xv xv) xv) qK))))) qQ) (qG (lq ap xv (a1 (eD (a3 xv xv xv))))))) (qG (qU (eD (a2 (cz e9 (a1 xv)) (wn b (a3 xv xv xv)))))))))
abbrev mO:d0:=top 28
def nh:FS:=(fA (fg (d4 (mN (d8 2 d7) (d4 (mV 0) (d4 (mC (D.int 4)) d5))) (d4 (mC (D.str "leave")) (d4 (m2 (b2 d6) (fg (d4 (mC D.non) (d4 (mC (D.int 0)) (d4 (mC (D.int 1)) (d4 (mC (D.int 2)) (d4 (mC (D.int 3)) (d4 (mC (D.int 0)) (d4 (mC (D.int 1)) d5)))))))) (mN (d8 2 d7) (d4 (mV 0) (d4 (mC (D.int 7)) d5)))) d5)))))
def gQ:FN:=iH 1 nh
theorem sw {f:dP}(F:eU K "_law_deed" mO f)(a:fR P w K mg base 1 "_law_take" 2 d7):
  fR P w K mg base 2 "_law_deed" 1 gQ:=xq ["_law_hand_here"] X G F λb=>
 (qG (qU (eD (a3 (wn a (a2 xv qK)) eS (jq (eD (qA gr (qA qK (qA qK (qA qK (a3 qK qK qK)))))) (wn a (a2 xv qK)))))))
abbrev j8:d0:=top 31
def kl:FS:=(eA (eE (fe 1 [3,2] (pN (d4 (mV 1) d5)) (gN 0) (mB (m2 (b2 xp) (m2 (b2 d6) (mV 1) (mV 0)) (mV 2))) (eQ (mV 0))) (gN 4))
  (eA (eE (fe 1 [0] (iU (mV 4)) (gN 0) (mB (m2 (b2 pP) (mN (d8 2 d7) (d4 (mV 1) (d4 (mC (D.int 2)) d5))) (mC (D.int 0)))) (eQ (mV 0))) (gN 5))
  (eA (hB (mB (m2 (b2 pP) (mV 5) (ip d5))) (eE (ip (d4 (m2 (b2 d6) (mV 4) (mN (d8 2 d7) (d4 (mV 0) (d4 (mN (b1 fc) (d4 (mV 4) d5)) d5)))) d5)) (gN 5)) pK)
  (fA (mN (b1 gTup) (d4 (mV 5) d5))))))
def gg:FN:=iH 6 kl
theorem oB {f:dP}(F:eU K "_law_choice" j8 f)(a:fR P w K mg base 1 "_law_take" 2 d7):
  fR P w K mg base 2 "_law_choice" 4 gg:=xq ["_law_hand_here","_law_many","_law_beats","_law_counts","_law_some","_law_found"] X G F λb=>
 (qF (gm 4 O (T:=["_law_k"]) (keep:=[3,2]) ⟨O,by decide+kernel,(kc "_law_counts" (kc "_law_beats" (cU _)))⟩ O (ir (a1 xv)) (λ_ _ _=>⟨gq,(ft (ct (oq ke) (jq xv xv) xv)),xv⟩) (g9 O) O (by first|exact Or.inl rfl|exact Or.inr rfl)) (qF (gm 5 rfl (T:=["_law_k"]) (keep:=[0]) ⟨rfl,by decide+kernel,(kc "_law_hand_here" (cU _))⟩ rfl (qd xv) (λ_ _ _=>⟨gq,(ft (ct (oq nr) (wn a (a2 xv qK)) qK)),xv⟩) (g9 O) O (by first|exact Or.inl rfl|exact Or.inr rfl)) (qF (qV (ct (oq nr) xv (fC qN)) (qG (sq (fC (a1 (jq xv (wn a (a2 xv (cn fy (a1 xv))))))))) qQ) (qG (qU (cz e9 (a1 xv)))))))
abbrev n9:d0:=top 13
def pu:FS:=(fA (fe 2 [1] (iU (mN (d8 3 ll) (d4 (mV 0) (d4 (m2 (b2 d6) (mV 1) (mC (D.int 0))) (d4 (mV 2) d5))))) (gT 2 (fQ (gN 0) (fQ (gN 1) jp))) gU (eQ (mN (d8 3 iS) (d4 (mV 2) (d4 (mV 0) (d4 (mV 1) d5)))))))
def ij:FN:=iH 3 pu
theorem t0 {f:dP}(F:eU K "deeds_of" n9 f)(b:fR P w K mg base 2 "deed_of" 3 iS)(a:fR P w K mg base 2 "wants" 3 ll):
  fR P w K mg base 3 "deeds_of" 3 ij:=xq ["web","machine","whole"] X G F λc=>
 (qG (qU (fk ["mood","sight"] (qd (wn a (a3 xv (jq xv qK) xv))) ⟨(tg2 gq gq),fD,(wn b (a3 xv xv xv))⟩)))
abbrev kU:d0:=top 14
def jy:FS:=(fF (pL (b2 jZ) (mV 4) (d4 (vH (mB (m2 (b2 im) (mV 5) (mV 3))) (m2 (b2 d6) (mV 2) (mV 5)) (fg (d4 (mV 8) (d4 (mC (D.str "leave")) (d4 (mC D.non) d5))))) d5)))
def lP:FS:=(eA (eE (ip d5) (gN 4))
  (eA (hC (GV (d4 (m2 (b2 d6) (mV 1) (mC (D.int 0))) d5)) (gT 2 (fQ (gN 5) (fQ (gT 3 (fQ (gN 6) (fQ (gN 7) (fQ (gN 8) jp)))) jp))) jy)
  (fA (mN (d8 3 lm) (d4 (mV 0) (d4 (mV 1) (d4 (mV 4) d5)))))))
def gy:FN:=iH 9 lP
theorem pF {f:dP}(F:eU K "moved_some" kU f)(a:fR P w K mg base 2 "moved" 3 lm):
  fR P w K mg base 3 "moved_some" 4 gy:=xq ["web","whole","all_deeds","choice","done","k","room","came","mood"] X G F λb=>
 (qF (sq (fC qN)) (qF (fo (ie (a1 (jq xv qK))) (tg2 gq (iq O (eH gq (eH gq (eH gq gM))))) (qG (lq ap xv (a1 (nQ (ct (oq lf) xv xv (by with_unfolding_all rfl)) (jq xv xv) (eD (a3 xv eS gr))))))) (qG (qU (wn a (a3 xv xv xv))))))
abbrev oe:d0:=top 22
def i9:FS:=(eA (eE (fe 1 [3] (pN (d4 (mV 5) d5)) (gN 0) (mB (m2 (b2 xp) (mN (b1 fc) (d4 (m2 (b2 d6) (mV 1) (mV 0)) d5)) (mC (D.int 4)))) (eQ (mV 0))) (gN 6))
  (fF (mN (d8 5 gl) (d4 (mV 0) (d4 (mV 3) (d4 (mV 4) (d4 (m2 (b2 d6) (mV 6) (mN (d8 2 d7) (d4 (mV 0) (d4 (mN (b1 fc) (d4 (mV 6) d5)) d5)))) (d4 (mV 5) d5))))))))
def i8:FS:=(eA (eE (fg (d4 (mN (d8 2 d7) (d4 (mV 0) (d4 (mV 2) d5))) (d4 (mN (d8 2 d7) (d4 (mV 0) (d4 (mV 2) d5))) d5))) (gT 2 (fQ (gN 8) (fQ (gN 9) jp))))
  (hB (vI (mB (m2 (b2 xp) (mN (b1 fc) (d4 (m2 (b2 d6) (mV 3) (mV 8)) d5)) (mC (D.int 4)))) (mB (m2 (b2 xp) (mN (b1 fc) (d4 (m2 (b2 d6) (mV 3) (mV 9)) d5)) (m2 (b2 gSub) (mC (D.int 4)) (mN (b1 lF) (d4 (m2 (b2 pP) (mV 8) (mV 9)) d5)))))) (fF (mN (d8 5 gl) (d4 (mV 0) (d4 (mV 3) (d4 (mV 4) (d4 (mV 8) (d4 (mV 9) d5))))))) pK))
def px:FS:=(eA (eE (m2 (b2 gB) (mC (D.int 1)) (mN (d8 2 d7) (d4 (mV 0) (d4 (mV 1) d5)))) (gN 2))
  (eA (eE (fg (d4 (fe 1 [] (pN (d4 (mV 2) d5)) (gN 0) gU (eQ (ip d5))) (d4 (ip d5) d5))) (gT 2 (fQ (gN 3) (fQ (gN 4) jp))))
  (eA (hC (IS (d4 (mC (D.int 1)) (d4 (mV 2) d5))) (gN 5) i9)
  (eA (hC (pN (d4 (mN (d8 2 d7) (d4 (mV 0) (d4 (mC (D.int 7)) d5))) d5)) (gN 7) i8)
  (fA (mN (b1 gTup) (d4 (fe 1 [3,4] (iU (mV 3)) (gN 0) gU (eQ (mN (b1 gTup) (d4 (fe 1 [1,2] (iU (mV 0)) (gN 0) gU (eQ (mN (d8 3 gE) (d4 (mV 1) (d4 (mV 2) (d4 (mV 0) d5)))))) d5)))) d5)))))))
def ik:FN:=iH 10 px
theorem t5 {f:dP}(F:eU K "_law_web" oe f)(c:fR P w K mg base 1 "_law_far" 3 gE)(a:fR P w K mg base 1 "_law_take" 2 d7)(b:fR P w K mg base 2 "_law_tie" 5 gl):
  fR P w K mg base 3 "_law_web" 2 ik:=xq ["_law_hand_here","_law_most","_law_many","_law_ends","_law_pairs","_law_room","_law_some","_law_turn","_law_one","_law_other"] X G F λd=>
 (qF (sq (qI gu qK (wn a (a2 xv xv)))) (qF (qR (eD (a2 (fk ["_law_room"] (ir (a1 xv)) ⟨gq,fD,(fC qN)⟩) (fC qN))) (tg2 gq gq)) (qF (fo (va O (bz B) (a2 qK xv)) gq (qF (gm 6 O (T:=["_law_one"]) (keep:=[3]) ⟨O,by decide+kernel,(kc "_law_ends" (cU _))⟩ O (ir (a1 xv)) (λ_ _ _=>⟨gq,(ft (ct (oq ke) (cn fy (a1 (jq xv xv))) qK)),xv⟩) (g9 O) O (by first|exact Or.inl rfl|exact Or.inr rfl)) (qG (kH (wn b (qA xv (qA xv (a3 xv (jq xv (wn a (a2 xv (cn fy (a1 xv))))) xv)))))))) (qF (fo (ir (a1 (wn a (a2 xv qK)))) gq (qF (nA 8 9 rfl (g9 rfl) rfl rfl (by decide) rfl rfl (a2 (wn a (a2 xv xv)) (wn a (a2 xv xv)))) (qG (qV (nP (nz (ct (oq ke) (cn fy (a1 (jq xv xv))) qK) (kG (ct (oq ke) (cn fy (a1 (jq xv xv))) (qI wU qK (cz ro (a1 (ce (oq nr) xv xv)))))))) (qG (kH (wn b (qA xv (qA xv (a3 xv xv xv)))))) qQ)))) (qG (qU (cz e9 (a1 (fk ["_law_row"] (qd xv) ⟨gq,fD,(cz e9 (a1 (fk ["_law_end"] (qd xv) ⟨gq,fD,(wn c (a3 xv xv xv))⟩)))⟩)))))))))
abbrev kY:d0:=top 29
def jz:FS:=(eA (eE (fg (d4 (m2 (b2 d6) (m2 (b2 d6) (m2 (b2 d6) (mV 4) (mC (D.int 0))) (mV 5)) (mC (D.int 2))) (d4 (mN (d8 4 fv) (d4 (mV 1) (d4 (mV 2) (d4 (mV 4) (d4 (mV 5) d5))))) d5))) (gN 6))
  (hB (mB (m2 (b2 jX) (mV 6) (mV 3))) (eA (eE (mC D.non) (gS (b3 jG) (mV 3) (mV 6)))
  (hB (mB (m2 (b2 (jh λi j=>decide (j<i))) (mN (d8 2 d7) (d4 (mV 0) (d4 (mC (D.int 12)) d5))) (mC (D.int 0)))) (eE (mN (d8 1 gQ) (d4 (mV 0) d5)) (gS (b3 jG) (mV 3) (mV 6))) pK)) pK))
def lS:FS:=(hC (pN (d4 (mN (b1 fc) (d4 (m2 (b2 d6) (mV 4) (mC (D.int 0))) d5)) d5)) (gN 5) jz)
def gA:FN:=iH 7 lS
theorem pI {f:dP}(F:eU K "_law_grown" kY f)(a:fR P w K mg base 2 "_law_deed" 1 gQ)(d:fR P w K mg base 1 "_law_sight" 4 fv)(c:fR P w K mg base 1 "_law_take" 2 d7):
  fR P w K mg base 3 "_law_grown" 5 gA:=xq ["_law_hand_here","_law_web_here","_law_eyes","_law_rows","_law_whole","_law_k","_law_asked"] X G F (hb:=λ_ _ _ _ _ _ g e=>Kw e λ_ _ _ _ _=>rfl) λb=>
 (qG (fo (ir (a1 (cn fy (a1 (jq xv qK))))) gq (qF (sq (eD (a2 (jq (jq (jq xv qK) xv) qK) (wn d (qA xv (a3 xv xv xv)))))) (qG (qV (ct (oq AA) xv xv (by with_unfolding_all rfl)) (qF (qR gr (nB xv xv (rV b.units))) (qG (qV (ct yq (wn c (a2 xv qK)) qK) (qG (qR (wn a (a1 xv)) (nB xv xv (rV b.units)))) qQ))) qQ)))))
abbrev mK:d0:=top 12
def ng:FS:=(fA (mN (d8 4 gy) (d4 (mV 0) (d4 (mV 2) (d4 (mN (d8 3 ij) (d4 (mV 0) (d4 (mV 1) (d4 (mV 2) d5)))) (d4 (mV 3) d5))))))
def gP:FN:=iH 4 ng
theorem ss {f:dP}(F:eU K "slow_beat" mK f)(a:fR P w K mg base 3 "deeds_of" 3 ij)(b:fR P w K mg base 3 "moved_some" 4 gy):
  fR P w K mg base 4 "slow_beat" 4 gP:=xq ["web","machine","whole","choice"] X G F λc=>
 (qG (qU (wn b (qA xv (a3 xv (wn a (a3 xv xv xv)) xv)))))
abbrev iu:d0:=top 30
def g0:FS:=(eA (fF (mN (d8 5 gA) (d4 (mV 0) (d4 (mV 1) (d4 (mV 2) (d4 (mV 5) (d4 (m2 (b2 d6) (mV 6) (mV 7)) d5)))))))
  (eA (eE (mN (b1 oP) (d4 (my 1 [5] (mV 5) (gN 0) (mB (m2 (b2 iB) (m2 (b2 d6) (mV 1) (mV 0)) (mC D.non))) (eQ (fg (d4 (mV 0) (d4 (m2 (b2 d6) (mV 1) (mV 0)) d5))))) d5)) (gN 8))
  (fF (pL (b2 jZ) (mV 6) (d4 (mN (d8 4 gR) (d4 (mV 1) (d4 (mV 2) (d4 (mV 8) (d4 (m2 (b2 d6) (mV 6) (mV 7)) d5))))) d5)))))
def iD:FS:=(eA (eE (fg (d4 AV (d4 (ip (d4 (fg (d4 (mN (b1 gTup) (d4 (fe 1 [] (iU (m2 (b2 d6) (mV 3) (mC (D.int 0)))) (gN 0) gU (eQ (fg (d4 (mV 0) (d4 (mC (D.int 0)) (d4 (mC (D.int 0)) d5)))))) d5)) (d4 (m2 (b2 d6) (mV 3) (mC (D.int 1))) d5))) d5)) d5))) (gT 2 (fQ (gN 5) (fQ (gN 6) jp))))
  (eA (hC (pN (d4 (mV 4) d5)) (gN 7) g0)
  (eA (eE (fg (d4 (mV 2) (d4 (mN (b1 gTup) (d4 (mN (b1 oN) (d4 (my 1 [5] (mV 5) (gN 0) (mB (m2 (b2 iB) (m2 (b2 d6) (mV 1) (mV 0)) (mC D.non))) (eQ (fg (d4 (mV 0) (d4 (m2 (b2 d6) (mV 1) (mV 0)) d5))))) d5)) d5)) d5))) (gN 9))
  (fA (fg (d4 (mV 9) (d4 (mV 6) d5)))))))
def e6:FN:=iH 10 iD
theorem ku {f:dP}(F:eU K "_law_drawn_walk" iu f)(b:fR P w K mg base 2 "_law_beat" 4 gR)(a:fR P w K mg base 3 "_law_grown" 5 gA):
  fR P w K mg base 4 "_law_drawn_walk" 5 e6:=xq ["_law_hand_here","_law_web_here","_law_eyes","_law_standing_here","_law_beats","_law_rows","_law_wholes","_law_turn","_law_there","_law_machine"] X G F (hb:=λ_ _ _ _ _ _ e d=>Kw d λ_ _ _ _ _=>rfl) λc=>
 (qF (qR (eD (a2 zA (fC (a1 (eD (a2 (cz e9 (a1 (fk ["_law_room"] (qd (jq xv qK)) ⟨gq,fD,(eD (a3 xv qK qK))⟩))) (jq xv qK))))))) (tg2 gq gq)) (qF (fo (ir (a1 xv)) gq (qF (kH (wn a (qA xv (qA xv (a3 xv xv (jq xv xv)))))) (qF (sq (cz (D5 c) (a1 (pZ O (T:=["_law_asked"]) (keep:=[5]) ⟨O,by decide+kernel,(kc "_law_rows" (cU _))⟩ O xv (λ_ _ _=>⟨gq,(ft (ct oD (jq xv xv) gr)),(eD (a2 xv (jq xv xv)))⟩))))) (qG (lq ap xv (a1 (wn b (qA xv (a3 xv xv (jq xv xv)))))))))) (qF (sq (eD (a2 xv (cz e9 (a1 (cn (D3 c.units) (a1 (pZ O (T:=["_law_asked"]) (keep:=[5]) ⟨O,by decide+kernel,(kc "_law_rows" (cU _))⟩ O xv (λ_ _ _=>⟨gq,(ft (ct oD (jq xv xv) gr)),(eD (a2 xv (jq xv xv)))⟩))))))))) (qG (qU (eD (a2 xv xv)))))))
abbrev mJ:d0:=top 16
def j9:FS:=(fF (pL (b2 jZ) (mV 4) (d4 (mN (d8 4 gP) (d4 (mV 0) (d4 (mV 1) (d4 (m2 (b2 d6) (mV 4) (m1 (b1 Bg) (mC (D.int 1)))) (d4 (mV 5) d5))))) d5)))
def m9:FS:=(eA (eE (ip (d4 (mV 2) d5)) (gN 4))
  (eA (hC (iU (mV 3)) (gN 5) j9)
  (fA (mV 4))))
def gO:FN:=iH 6 m9
theorem sn {f:dP}(F:eU K "walked_on" mJ f)(a:fR P w K mg base 4 "slow_beat" 4 gP):
  fR P w K mg base 5 "walked_on" 4 gO:=xq ["web","machine","whole","choices","wholes","choice"] X G F λb=>
 (qF (sq (fC (a1 xv))) (qF (fo (qd xv) gq (qG (lq ap xv (a1 (wn a (qA xv (a3 xv (jq xv (zy Eu qK)) xv))))))) (qG (qU xv))))
abbrev j7:d0:=top 15
def kk:FS:=(fA (mN (b1 gTup) (d4 (mN (d8 4 gO) (d4 (mV 0) (d4 (mV 1) (d4 (mN (d8 1 ln) (d4 (mV 2) d5)) (d4 (mV 3) d5))))) d5)))
def gf:FN:=iH 4 kk
theorem oA {f:dP}(F:eU K "slow_walked" j7 f)(a:fR P w K mg base 1 "begun" 1 ln)(b:fR P w K mg base 5 "walked_on" 4 gO):
  fR P w K mg base 6 "slow_walked" 4 gf:=xq ["web","machine","standing","choices"] X G F λc=>
 (qG (qU (cz e9 (a1 (wn b (qA xv (a3 xv (wn a (a1 xv)) xv)))))))
abbrev tL:d0:=top 33
def sj:FS:=(hB (mB (m2 (b2 xp) (mN (b1 uB) (d4 (mV 11) d5)) (mV 6))) (eA (fF (pL (b2 jZ) (mV 10) (d4 (mN (d8 4 gg) (d4 (mV 2) (d4 (mV 7) (d4 (mV 6) (d4 (mV 11) d5))))) d5)))
  (eE (fe 1 [11,10] (pN (d4 (mV 7) d5)) (gN 0) gU (eQ (m2 (b2 gB) (m2 (b2 d6) (mV 1) (mV 0)) (mN (b1 lF) (d4 (m2 (b2 im) (mV 0) (m2 (b2 d6) (mV 2) (m1 (b1 Bg) (mC (D.int 1))))) d5))))) (gN 11))) pK)
def si:FS:=(fF (pL (b2 DN) (mV 13) (d4 (m2 (b2 oO) (ip (d4 (fg (d4 (mV 14) d5)) d5)) (mV 6)) d5)))
def se:FS:=(hB (AS (Hv (mN (d8 4 gz) (d4 (mN (d8 4 gf) (d4 (mV 3) (d4 (mV 8) (d4 (mV 5) (d4 (mV 15) d5))))) (d4 (mV 9) (d4 (mV 15) (d4 (mV 7) d5))))))) (fA (mC (D.bl J))) pK)
def sd:FS:=(eA (eE (mN (d8 2 fT) (d4 (mV 0) (d4 (mV 1) d5))) (gN 2))
  (eA (eE (mN (d8 2 (apart ik)) (d4 (mV 2) (d4 (mC (D.int 8)) d5))) (gN 3))
  (eA (eE (mN (b1 gTup) (d4 (fe 1 [] (iU (mN (d8 1 (apart fh)) (d4 (mV 2) d5))) (gN 0) (mB (m2 (b2 GW) (mV 0) (mC (D.str "others")))) (eQ (mV 0))) d5)) (gN 4))
  (eA (eE (mN (d8 3 (apart fL)) (d4 (mV 2) (d4 (mN (b1 fc) (d4 (mV 3) d5)) (d4 (mC (D.int 4)) d5)))) (gN 5))
  (eA (eE (fg (d4 (mN (d8 2 (apart d7)) (d4 (mV 2) (d4 (mC (D.int 21)) d5))) (d4 (mN (b1 fc) (d4 (m2 (b2 d6) (mV 5) (mC (D.int 0))) d5)) d5))) (gT 2 (fQ (gN 6) (fQ (gN 7) jp))))
  (eA (eE (mN (d8 5 (apart e6)) (d4 (mV 2) (d4 (mV 3) (d4 (mV 4) (d4 (mV 5) (d4 (mV 6) d5)))))) (gT 2 (fQ (gN 8) (fQ (gN 9) jp))))
  (eA (eE (fg (d4 (ip d5) (d4 (m2 (b2 oO) (ip (d4 (mC (D.int 0)) d5)) (mV 7)) d5))) (gT 2 (fQ (gN 10) (fQ (gN 11) jp))))
  (eA (hC (pN (d4 (mN (d8 2 (apart d7)) (d4 (mV 2) (d4 (mC (D.int 61)) d5))) d5)) (gN 12) sj)
  (eA (eE (ip d5) (gN 13))
  (eA (hC (pN (d4 (mV 7) d5)) (gN 14) si)
  (hC (iU (fg (d4 (mN (b1 gTup) (d4 (mV 10) d5)) (d4 (mN (b1 gTup) (d4 (mV 13) d5)) (d4 (fg d5) d5))))) (gN 15) se)))))))))))
def wR:FS:=(qr [M,M,J,J,J,J,J,J,J,J,J,J,J,J,J,J] [M,J,J,J,J,J,J,J,J,J,J,J,J,J,J,J] sd)
def BN:FS:=(eA (hC (pN (d4 (mN (b2 DJ) (d4 (mC (D.int 1)) (d4 (mN (b2 DI) (d4 (mC (D.int 3)) (d4 (mN (b1 fc) (d4 (mV 0) d5)) d5))) d5))) d5)) (gN 1) wR)
  (fA (mC (D.bl M))))
def m_law:FN:=iH 16 BN
theorem F6 {f:dP}{fd:dZ}(F:zt K "law" "law" tL f fd)(h:fR P w K mg base 2 "_law_choice" 4 gg)(d:fR P w K mg base 4 "_law_drawn_walk" 5 e6)(m:fR P w K mg base 1 "_law_hand" 2 fT)(g:fR P w K mg base 1 "_law_right" 4 gz)(e:fR P w K mg base 2 "_law_some_eyes" 1 fh)(l:fR P w K mg base 2 "_law_standing" 3 fL)(o:fR P w K mg base 1 "_law_take" 2 d7)(j:fR P w K mg base 3 "_law_web" 2 ik)(i:fR P w K mg base 6 "slow_walked" 4 gf):
  j6 P w K mg base uY 7 f fd ["_law_script"] (B1 K 1 m_law):=EM (k:=6) (n:=1) (N:=["_law_script","_law_k","_law_hand_here","_law_web_here","_law_eyes","_law_standing_here","_law_beats","_law_many","_law_machine","_law_wholes","_law_rows","_law_counts","_law_turn","_law_alone","_law_j","_law_some"]) (ps:=["_law_script"]) (b:=BN) F sk O λp A c s H E a=>
 (qF (fo (ir (a1 (cn (Jo O) (a2 qK (cn (Jn O) (a2 qK (cn fy (a1 xv)))))))) gq (xX [M,M,J,J,J,J,J,J,J,J,J,J,J,J,J,J] [M,J,J,J,J,J,J,J,J,J,J,J,J,J,J,J] (qF (sq (wn m (a2 xv xv))) (qF (sq (qH j.ap a (by first|decide|omega) rfl (a2 xv qK))) (qF (sq (cz e9 (a1 (fk ["_law_eye"] (qd (qH e.ap a (by first|decide|omega) rfl (a1 xv))) ⟨gq,(ft (ct (oq F8) xv eS)),xv⟩)))) (qF (sq (qH l.ap a (by first|decide|omega) rfl (a3 xv (cn fy (a1 xv)) qK))) (qF (nA 6 7 rfl (g9 rfl) rfl rfl (by decide) rfl rfl (a2 (qH o.ap a (by first|decide|omega) rfl (a2 xv qK)) (cn fy (a1 (jq xv qK))))) (qF (qR (qH d.ap a (by first|decide|omega) rfl (qA xv (qA xv (a3 xv xv xv)))) (tg2 gq gq)) (qF (qR (eD (a2 (fC qN) (qI vC (fC (a1 qK)) xv))) (tg2 gq gq)) (qF (fo (ir (a1 (qH o.ap a (by first|decide|omega) rfl (a2 xv qK)))) gq (qG (qV (ct (oq ke) (cn (He rfl) (a1 xv)) xv) (qF (lq ap xv (a1 (wn h (qA xv (a3 xv xv xv))))) (qG (sq (fk ["_law_j"] (ir (a1 xv)) ⟨gq,fD,(qI gu (jq xv xv) (cz ro (a1 (ce (oq lf) xv (jq xv (zy Eu qK)) (by with_unfolding_all rfl)))))⟩)))) qQ))) (qF (sq (fC qN)) (qF (fo (ir (a1 xv)) gq (qG (lq ⟨PySem.F.slot_list_extend,PySem.F.type_list_extend,HI⟩ xv (a1 (qI vC (fC (a1 (eD (a1 xv)))) xv))))) (qG (fo (qd (eD (a3 (cz e9 (a1 xv)) (cz e9 (a1 xv)) (eD qN)))) gq (qG (qV (wg (wf (wn g (qA (wn i (qA xv (a3 xv xv xv))) (a3 xv xv xv))))) (qG (qU nR)) qQ)))))))))))))))) (qG (qU nR)))
end
theorem all_mk {l:PySem.W.OpenLaw}{w:dS}{K:Fg1}{h:dY}{mg:Str->Option dM}{fa f1 f2 f3 f4 f5 f6 f7 f8 f9 aq f11 f12 f13 f14 f15 U N f18 f19 f20 f21 Q f23 I q S f27 f28 f29:dP}(X:K.In h)(G:h.Ns dU mg)(hfa:mg "law"=some (.ref fa))
  {g1 g2 g5 g8 d:dP}
  {t3 t4 t6 t7 t9 t10 F t13:Tok}
  {od2 V wq b m:Option dP} {n2 n5 n8 n n1:Nat} {sl2 L r c R:Array (Option dM)}
  (a1:eU K "first_of" n6 f1)
  (a2:eU K "begun" wE f2)
  (a3:eU K "sight_of" n4 f3)
  (a4:eU K "handled" qf f4)
  (a5:eU K "stepped" qc f5)
  (a6:eU K "_law_hand" mM f6)
  (a7:eU K "_law_take" mL f7)
  (a8:eU K "_law_far" oh f8)
  (a9:eU K "_law_sight" kW f9)
  (a10:eU K "_law_chalked" jw aq)
  (T:eU K "_law_right" kX f11)
  (a12:eU K "deed_of" qg f12)
  (a13:eU K "wants" wC f13)
  (a14:eU K "moved" wD f14)
  (a15:eU K "_law_tie" og f15)
  (o:eU K "_law_standing" jm U)
  (a17:eU K "_law_some_eyes" iM N)
  (a18:eU K "_law_beat" mP f18)
  (W:eU K "_law_deed" mO f19)
  (a20:eU K "_law_choice" j8 f20)
  (g:eU K "deeds_of" n9 f21)
  (a22:eU K "moved_some" kU Q)
  (C:eU K "_law_web" oe f23)
  (a24:eU K "_law_grown" kY I)
  (j:eU K "slow_beat" mK q)
  (a26:eU K "_law_drawn_walk" iu S)
  (a27:eU K "walked_on" mJ f27)
  (y:eU K "slow_walked" j7 f28)
  (f:eU K "law" tL f29)
  (e_PARTS:wN1 K dU "PARTS"=Z (Z (Value.ref g1)))
  (h1:K.lookup g1=Z ⟨.type "tuple",m,.seq ([(Value.ref g2),(Value.ref g5),(Value.ref g8),(Value.ref d)]:List dM).toArray n1,R⟩)
  (h2:K.lookup g2=Z ⟨.type "tuple",od2,.seq ([(Value.str "came" t3),(Value.int (5) t4)]:List dM).toArray n2,sl2⟩)
  (h5:K.lookup g5=Z ⟨.type "tuple",V,.seq ([(Value.str "chalk" t6),(Value.int (2) t7)]:List dM).toArray n5,L⟩)
  (h8:K.lookup g8=Z ⟨.type "tuple",wq,.seq ([(Value.str "doors" t9),(Value.int (5) t10)]:List dM).toArray n8,r⟩)
  (h11:K.lookup d=Z ⟨.type "tuple",b,.seq ([(Value.str "others" F),(Value.int (2) t13)]:List dM).toArray n,c⟩)
  (z:Jy K BL):∃fd:dZ,(∀(s:dN) (v:dM),BindsTo s fd ⟨[v],[]⟩ [("_law_script",v)]) /\ ∀base:dY,K.In base->base.Ns dU mg->j6 l.prog w K mg base uY 7 fa fd ["_law_script"] (B1 K 1 m_law):=by
 have e:=hfa.symm.trans (wM1 X G f.ns);cases e;have B:Blt BL mg:=z.blt X G;have c0:CGl K mg "PARTS" nJ:=Hb (wM1 X G e_PARTS) (oZ h1 (by show 4<=dW;decide) (fM (oZ h2 (by show 2<=dW;decide) (fM sQ (fM sR lJ))) (fM (oZ h5 (by show 2<=dW;decide) (fM sQ (fM sR lJ))) (fM (oZ h8 (by show 2<=dW;decide) (fM sQ (fM sR lJ))) (fM (oZ h11 (by show 2<=dW;decide) (fM sQ (fM sR lJ))) lJ)))));obtain⟨_,⟨⟨_,_,kV,dc,pm,an,cd,ct,_,rfl,lL,cL⟩,kL⟩⟩:=f.fn;refine⟨wF1 "law" "law" (iC tL) (fK tL) (eG tL) .none kV dc pm an cd ct,λs v=>.of_eq O,λbase _ _=>?_⟩;have o0:=tZ (P:=l.prog) (w:=w) (base:=base) X G B a1;have o18:=Ax (P:=l.prog) (w:=w) (base:=base) X G B a2;have o1:=tY (P:=l.prog) (w:=w) (base:=base) X G B a3 c0;have o2:=vA (P:=l.prog) (w:=w) (base:=base) X G B a4;have o3:=vz (P:=l.prog) (w:=w) (base:=base) X G B a5;have o22:=sv (P:=l.prog) (w:=w) (base:=base) X G B a6;have a:=su (P:=l.prog) (w:=w) (base:=base) X G B a7;have o10:=ua (P:=l.prog) (w:=w) (base:=base) X G B a8;have o6:=pG (P:=l.prog) (w:=w) (base:=base) X G B a9;have o5:=nq (P:=l.prog) (w:=w) (base:=base) X G B a10;have u:=pH (P:=l.prog) (w:=w) (base:=base) X G B T;have o7:=vB X G B a12 o0;have o8:=Av X G B a13 o1;have o9:=Aw X G B a14 o2 o3;have o11:=t8 X G B a15 a;have A:=mh X G B o a;have t:=k8 X G B a17 a;have x:=sx X G B a18 o5 o6;have ao:=sw X G B W a;have av:=oB X G B a20 a;have i:=t0 X G B g o7 o8;have H:=pF X G B a22 o9;have au:=t5 X G B C o10 a o11;have o16:=pI X G B a24 ao o6 a;have k:=ss X G B j i H;have D:=ku X G B a26 x o16;have E:=sn X G B a27 k;have p:=oA X G B y o18 E;exact F6 (P:=l.prog) (w:=w) (base:=base) X G B (Bk lL cL kL) av D o22 u t A a au p
noncomputable def hnd(g m c:Int):Ob:=.lst [.int g,.int m,.int c]
noncomputable def Gn(m c:Int):Int:=(m+65537*c*c+11)*48271%2305843009213693921
def AK(m c:Int):Int:=Gn m c*(Gn m c%1000003+99991*c)%2305843009213693907
theorem Jq{a b c:D}:u5 [a,b,c] 0=Z a:=by rfl
theorem KJ{a b c:D}:u5 [a,b,c] 1=Z b:=by rfl
theorem KI{a b c:D}:u5 [a,b,c] 2=Z c:=by rfl
theorem E5{T:Sto}{g m c k:Int}(hg:0<g)(hk:0<k)(a:k<1073741824):
  d7 [.ref 0,.int k] (hnd g m c::T)=Z (.int (g%k),hnd (g/k) m c::T):=by
 simp[d7,iH,hI,jK,eA,hB,mB,m2,b2,jh,mV,mC,d6,mw,Bh,et,hnd,hg,hk,a,eE,gN,lE,pQ,gS,b3,jG,mZ,kx,fA,Jq,xg]
theorem E3{T:Sto}{g m c k:Int}(hg:¬ 0<g)(hk:0<k)(a:k<1073741824)(hc:0<=c)(d:c<2^60):
  d7 [.ref 0,.int k] (hnd g m c::T)=Z (.int ((AK m (c+1)/97+AK m (c+1)/1000033)%k),hnd g m (c+1)::T):=by
 have f:fi 65537 (c+1)=M:=qp (by decide) (by decide);have h:fi (65537*(c+1)) (c+1)=M:=wY (by omega) (by omega);have i:fi (m+65537*(c+1)*(c+1)+11) 48271=M:=wY (by decide) (by decide);have b:fi 99991 (c+1)=M:=qp (by decide) (by decide);have q:=Int.emod_lt_of_pos ((m+65537*(c+1)*(c+1)+11)*48271) (show(0:Int)<2305843009213693921 by decide);have j:=Int.emod_nonneg ((m+65537*(c+1)*(c+1)+11)*48271) (show(2305843009213693921:Int)≠0 by decide);have e:fi ((m+65537*(c+1)*(c+1)+11)*48271%2305843009213693921) ((m+65537*(c+1)*(c+1)+11)*48271%2305843009213693921%1000003+99991*(c+1))=M:=qp (by omega) (by omega);simp[d7,iH,hI,jK,eA,hB,mB,m2,b2,jh,mV,mC,d6,mw,Bh,et,hnd,hg,hk,a,eE,gN,lE,pQ,gS,b3,jG,mZ,kx,fA,Jq,KJ,KI,xg,pK,gB,jY,f,h,i,b,e,Gn,AK]
def gp(o:Ob)(n:Nat):Prop:=∃g m c:Int,o=hnd g m c/\0<=c/\c<=n
theorem gp.und{o:Ob}{n k:Nat}(h:gp o n):o.und k=M:=by
 obtain⟨g,m,c,rfl,_⟩:=h;rfl
theorem gp.more{o:Ob}{n k:Nat}(h:gp o n)(hk:n<=k):gp o k:=by
 obtain⟨g,m,c,e,a,h1⟩:=h;exact⟨g,m,c,e,a,by lia⟩
theorem fP{o:Ob}{n:Nat}{k:Int}{T:Sto}{Q:D×Sto->Prop}(ho:gp o n)(hn:n<=2^50)(hk:0<k)(a:k<1073741824)(h:∀(d:Nat) o',gp o' (n+1)->(d:Int)<k->Q (.int d,o'::T)):W (d8 2 d7 [.ref 0,.int k] (o::T)) Q:=by
 obtain⟨g,m,c,rfl,f,h1⟩:=ho;have call:∀d o',d7 [.ref 0,.int k] (hnd g m c::T)=Z (d,o'::T)->d8 2 d7 [.ref 0,.int k] (hnd g m c::T)=Z (d,o'::T):=λd o e=>mF e O (by simp[D.unds,D.und]) (by simp);by_cases i:0<g
 ·have b:=Int.emod_nonneg g (show k≠0 by lia);obtain⟨d,e⟩:=Int.eq_ofNat_of_zero_le b;refine⟨_,call _ _ (E5 i hk a),?_⟩;rw[e];exact h d _ ⟨_,_,_,O,f,by lia⟩ (by rw[<- e];exact Int.emod_lt_of_pos _ hk)
 ·have b:=Int.emod_nonneg (AK m (c+1)/97+AK m (c+1)/1000033) (show k≠0 by lia);obtain⟨d,e⟩:=Int.eq_ofNat_of_zero_le b;refine⟨_,call _ _ (E3 i hk a f (by lia)),?_⟩;rw[e];exact h d _ ⟨_,_,_,O,by lia,by push_cast;lia⟩ (by rw[<- e];exact Int.emod_lt_of_pos _ hk)
theorem Bd(ns:List Int)(k:Int)(h0:0<=k)(hk:k<63):∃g m,fT [.rol (ns.map D.int),.int k] []=Z (.ref 0,[hnd g m 0]):=by
 have h:fi (10^60) (10^30)=M:=by decide+kernel
 have d:fi 7919 k=M:=qp (by decide) (by decide);have e:fi 0 0=M:=qp (by decide) (by decide);have c:∀(x:Int) (b:Prop) [Decidable b],fi x (if b then 1 else 0)=M:=λx b _=>by
  split
  ·exact wY (by decide) (by decide)
  ·exact wY (by decide) (by decide)
 have lt:xp (.int k) (.int ns.length) []=Z (.bl (decide (k<ns.length)),[]):=by rfl
 by_cases f:k<ns.length
 ·have a:u5 (ns.map D.int) k=some (.int (ns[k.toNat]'(by lia))):=by
   unfold u5 xg;rw[ak h0,ak (by simpa using f)];simp[show k.toNat<ns.length by lia]
  generalize i:ns[k.toNat]'(by lia)=x at a
  simp[fT,iH,hI,jL,eA,hB,mB,m2,b2,b1,mN,d4,d5,jh,mV,mC,d6,mw,Bh,fc,et,eE,gN,lE,jY,gB,vR,lF,fA,ip,lt,f,a,d,c,dW,hnd,pK];simp[show fi 1000000000000000000000000000000000000000000000000000000000000 1000000000000000000000000000000=M from h,d,c]
 ·simp[fT,iH,hI,jL,eA,hB,mB,m2,b2,b1,mN,d4,d5,jh,mV,mC,d6,mw,Bh,fc,et,eE,gN,lE,jY,gB,vR,lF,fA,ip,lt,f,d,c,dW,hnd,pK];simp[show fi 1000000000000000000000000000000000000000000000000000000000000 1000000000000000000000000000000=M from h,e,d,c]
theorem DE(ns:List Int)(k:Int)(h0:0<=k)(hk:k<63):∃o,d8 2 fT [.rol (ns.map D.int),.int k] []=Z (.ref 0,[o])/\gp o 0:=by
 have key:=Bd ns k h0 hk;obtain⟨g,m,e⟩:=key;refine⟨hnd g m 0,?_,_,_,_,O,Int.le_refl _,Int.le_refl _⟩;rw[pf (n:=2) e O (by rw[D.unds,D.und,l6];rfl) (by simp[D.und])];simp[D.sh,Ob.sh,D.shs,hnd]
noncomputable def ins(k:Nat)(e:Nat×Nat)(row:List (Nat×Nat)):List (Nat×Nat):=row.take k++e::row.drop k
theorem lD{k:Nat}{e:Nat×Nat}{row:List (Nat×Nat)}:(ins k e row).length=row.length+1:=by
 unfold ins;rw[lA1,lC1,aT,cV];lia
theorem mem_ins{k:Nat}{e x:Nat×Nat}{row:List (Nat×Nat)}:x∈ins k e row↔x=e\/x∈row:=by
 unfold ins;rw[aH,aG]
 conv=>rhs;rhs;rw[<- cM k row,aH]
 constructor
 ·rintro(h|h|h)
  ·exact .inr (.inl h)
  ·exact .inl h
  ·exact .inr (.inr h)
 ·rintro(h|h|h)
  ·exact .inr (.inl h)
  ·exact .inl h
  ·exact .inr (.inr h)
theorem xh{k:Nat}{e:Nat×Nat}{row:List (Nat×Nat)}:(row.map pD).take k++pD e::(row.map pD).drop k=(ins k e row).map pD:=by
 unfold ins;rw[cG,mP1,List.map_take,List.map_drop]
theorem jN{t m i:Nat}{T:Sto}{E:List (List (Nat×Nat))}{P:List (Nat×Nat)}{U:Sto}{o:Ob}{Q:D×Sto->Prop}(w:WS t m T E P U)(hi:i<m)(q:Q (.ref (t+i+1),o::U)):W (d6 (.ref (t+m+1)) (.int i) (o::U)) Q:=
 iZ (xs:=kn (t+1) m) (x:=.ref (t+i+1)) (by rw[gC1];exact w.ends) (by rw[rW hi];congr 2;lia) q
theorem zQ{t m a b n:Nat}{T:Sto}{E:List (List (Nat×Nat))}{P:List (Nat×Nat)}{U:Sto}{o:Ob}{Q:D×Sto->Prop}(w:WS t m T E P U)(ho:gp o n)(hn:n<=2^45)(ha:a<m)(hb:b<m){f:List (Nat×Nat)}(l:E[a]? = some f)(K:f.length<100)(I:∀ rb,E[b]? = some rb->rb.length<100)(L:P.length<500)(h:∀g i rb o' A,gp o' (n+2)->(E.set a (ins g (P.length,0) f))[b]?=some rb->WS t m T ((E.set a (ins g (P.length,0) f)).set b (ins i (P.length,1) rb)) (P++[(a,b)]) A->Q (.non,o'::A)):
  W (d8 5 gl [.ref 0,.ref (t+m+1),.ref (t+m+2),.int a,.int b] (o::U)) Q:=by
 have key:W (gl [.ref 0,.ref (t+m+1),.ref (t+m+2),.int a,.int b] (o::U)) λp=>p.2.length=(o::U).length/\Q p:=by
  unfold gl;refine mx ?_;unfold py;refine eO (λr S=>∃g o',gp o' (n+1)/\r=[Z (.ref 0),Z (.ref (t+m+1)),Z (.ref (t+m+2)),Z (.int a),Z (.int b)]/\S=o'::U.set (t+a) (tN (ins g (P.length,0) f))) ?_ ?_
  ·walk_at"w";refine iY ?_;walk_at"w";refine jN w ha ?_;refine⟨t+a+1,f.map pD,O,by rw[gC1];exact w.row a f l,?_⟩;walk_at"w";refine jN w ha ?_;walk_at"w";refine eL (xs:=f.map pD) (by rw[gC1];exact w.row a f l) ?_;walk_at"w";rw[lM1,show((f.length:Int)+1)=((f.length+1:Nat):Int) by push_cast;rfl];refine fP ho (by lia) (by lia) (by lia) λg z u G=>?_;walk_at"w";refine eL (xs:=P.map pD) (by rw[gC1];exact w.prs) ?_;walk_at"w";rw[lM1];refine EI (xs:=f.map pD) (v:=pD (P.length,0)) (k:=g) (by rw[gC1];exact w.row a f l) (by rw[lM1];lia) (by rw[lM1];lia) ?_;refine⟨g,z,u,?_⟩;rw[xh,db];rfl
  rintro r S ⟨g,z,u,rfl,rfl⟩;have j:=w.setRow (row:=ins g (P.length,0) f) ha;obtain⟨rb,c⟩:∃rb,(E.set a (ins g (P.length,0) f))[b]?=some rb:=by
   have:b<(E.set a (ins g (P.length,0) f)).length:=by rw[j.el];exact hb
   exact⟨_,gG1 this⟩
  have C:rb.length<200:=by
   by_cases e:a=b
   ·subst e;rw[aJ (by rw[w.el];exact ha)]at c;cases c;rw[lD];lia
   ·rw[gS1 e]at c;have:=I rb c;lia
  refine eO (λr S=>∃i o',gp o' (n+2)/\r=[Z (.ref 0),Z (.ref (t+m+1)),Z (.ref (t+m+2)),Z (.int a),Z (.int b)]/\S=o'::(U.set (t+a) (tN (ins g (P.length,0) f))).set (t+b) (tN (ins i (P.length,1) rb))) ?_ ?_
  ·walk_at"w";refine iY ?_;walk_at"w";refine jN j hb ?_;refine⟨t+b+1,rb.map pD,O,by rw[gC1];exact j.row b rb c,?_⟩;walk_at"w";refine jN j hb ?_;walk_at"w";refine eL (xs:=rb.map pD) (by rw[gC1];exact j.row b rb c) ?_;walk_at"w";rw[lM1,show((rb.length:Int)+1)=((rb.length+1:Nat):Int) by push_cast;rfl];refine fP u (by lia) (by lia) (by lia) λi x s H=>?_;walk_at"w";refine eL (xs:=P.map pD) (by rw[gC1];exact j.prs) ?_;walk_at"w";rw[lM1];refine EI (xs:=rb.map pD) (v:=pD (P.length,1)) (k:=i) (by rw[gC1];exact j.row b rb c) (by rw[lM1];lia) (by rw[lM1];lia) ?_;refine⟨i,x,s,?_⟩;rw[xh,db];rfl
  rintro r S ⟨i,x,s,rfl,rfl⟩;have y:=j.setRow (row:=ins i (P.length,1) rb) hb;walk_at"w";refine iY ?_;walk_at"w";refine⟨t+m+2,P.map pD,O,by rw[gC1];exact y.prs,?_⟩
  try walk_at"w"
  rw[lW (xs:=P.map pD) (by rw[gC1];exact y.prs)];refine⟨ev (by rw[lM1];lia),?_,?_⟩
  ·simp
  ·have F:=y.setPrs (P':=P++[(a,b)]);rw[db];have e:P.map pD++[D.tup [D.int ↑a,D.int ↑b]]=(P++[(a,b)]).map pD:=by simp[pD]
   rw[e];exact h g i rb x _ s c F
 obtain⟨⟨d,ao⟩,e,B,q⟩:=key;exact⟨_,mF e O O B,q⟩
abbrev ee:=List (List (Nat×Nat))
structure WI (m:Nat)(E:ee)(P:List (Nat×Nat)):Prop where
 len:E.length=m
 pr:∀(i:Nat) (p:Nat×Nat),P[i]?=some p->(∃r0,E[p.1]?=some r0/\(i,0)∈r0) /\ ∃r1,E[p.2]?=some r1/\(i,1)∈r1
 en:∀(i:Nat) (row:List (Nat×Nat)),E[i]?=some row -> ∀e∈row,e.1<P.length/\e.2<=1
 le:∀(i:Nat) (row:List (Nat×Nat)),E[i]?=some row->row.length<=4
 tt:tot E=2*P.length
theorem n3{E:ee}{i k:Nat}{e:Nat×Nat}{row:List (Nat×Nat)}(h:E[i]?=Z row){j:Nat}{r:List (Nat×Nat)}(a:E[j]?=Z r):∃r',(E.set i (ins k e row))[j]?=Z r' /\ ∀x∈r,x∈r':=by
 by_cases z:i=j
 ·subst z;rw[h]at a;cases a;exact⟨_,aJ (gE1.mp h).1,λx b=>mem_ins.mpr (.inr b)⟩
 ·exact⟨r,by rw[gS1 z];exact a,λx b=>b⟩
theorem kT{E:ee}{i k:Nat}{e:Nat×Nat}{row:List (Nat×Nat)}(h:E[i]?=Z row){j:Nat}{b:List (Nat×Nat)}(a:(E.set i (ins k e row))[j]?=Z b):(i=j/\b=ins k e row)\/(i≠j/\E[j]?=Z b):=by
 by_cases z:i=j
 ·subst z;rw[aJ (gE1.mp h).1]at a;cases a;exact .inl ⟨O,O⟩
 ·rw[gS1 z]at a;exact .inr ⟨z,a⟩
theorem WI.tie{m a b h o:Nat}{E:ee}{P:List (Nat×Nat)}{f r:List (Nat×Nat)}(w:WI m E P)(ha:E[a]? = some f)(K:f.length<4)(hb:(E.set a (ins h (P.length,0) f))[b]? = some r)(aq:r.length<4):
  WI m ((E.set a (ins h (P.length,0) f)).set b (ins o (P.length,1) r)) (P++[(a,b)]):=by
 have a1:(E.set a (ins h (P.length,0) f))[a]?=Z (ins h (P.length,0) f):=aJ (gE1.mp ha).1;refine⟨by rw[aX,aX];exact w.len,λi p n=>?_,λj c d e g=>?_,λj c d=>?_,?_⟩
 ·by_cases hi:i<P.length
  ·rw[gL1 hi]at n;obtain⟨⟨ao,C,H⟩,L,h1,m1⟩:=w.pr i p n;obtain⟨v,l,z⟩:=n3 (k:=h) (e:=(P.length,0)) ha C;obtain⟨t,u,A⟩:=n3 (k:=o) (e:=(P.length,1)) hb l;obtain⟨I,B,G⟩:=n3 (k:=h) (e:=(P.length,0)) ha h1;obtain⟨s,q,x⟩:=n3 (k:=o) (e:=(P.length,1)) hb B;exact⟨⟨t,u,A _ (z _ H)⟩,s,q,x _ (G _ m1)⟩
  ·have y:i=P.length:=by
    have:=(gE1.mp n).1;simp at this;lia
   subst y;rw[dA]at n;cases n;obtain⟨v,l,z⟩:=n3 (k:=o) (e:=(P.length,1)) hb a1;exact⟨⟨v,l,z _ (mem_ins.mpr (.inl O))⟩,_,aJ (gE1.mp hb).1,mem_ins.mpr (.inl O)⟩
 ·rw [lA1,bf];have old:∀ (j:Nat) (c:List (Nat×Nat)),(E.set a (ins h (P.length,0) f))[j]? = some c -> ∀ e∈c,e.1<P.length+1/\e.2<=1:=fun j c d e g=>by
   rcases kT ha d with⟨_,rfl⟩|⟨_,d⟩
   ·rcases mem_ins.mp g with rfl|g
    ·exact⟨by simp,by simp⟩
    ·have:=w.en a f ha e g;exact⟨by lia,this.2⟩
   ·have:=w.en j c d e g;exact⟨by lia,this.2⟩
  rcases kT hb d with⟨_,rfl⟩|⟨_,d⟩
  ·rcases mem_ins.mp g with rfl|g
   ·exact⟨by simp,by simp⟩
   ·exact old b r hb e g
  ·exact old j c d e g
 ·rcases kT hb d with⟨_,rfl⟩|⟨_,d⟩
  ·rw[lD];lia
  ·rcases kT ha d with⟨_,rfl⟩|⟨_,d⟩
   ·rw[lD];lia
   ·exact w.le j c d
 ·have D:=rL (row':=ins h (P.length,0) f) ha;have F:=rL (row':=ins o (P.length,1) r) hb;have:=w.tt;rw[lD]at D F;rw[lA1,bf];lia
def webD(w:ee):D:=.tup (w.map λrow=>.tup (row.map pD))
structure lU (m:Nat)(w:ee):Prop where
 len:w.length=m
 le:∀row∈w,row.length<=4
 to:∀row∈w,∀e∈row,∃r,w[e.1]?=some r/\e.2<r.length
theorem fS(w:ee):(webD w).und 0=M:=by
 unfold webD;rw[D.und];exact eW λa _=>by rw[D.und];exact eW λ_ _=>rfl
noncomputable def vU(E:ee)(P:List (Nat×Nat))(e:Nat×Nat):Nat×Nat:=
 let p:=P.getD e.1 (0,0)
 let room:=if e.2=0 then p.2 else p.1
 (room,((E.getD room []).findIdx? (· == (e.1,1-e.2))).getD 0)
theorem Bn{m:Nat}{E:ee}{P:List (Nat×Nat)}(w:WI m E P){i:Nat}{row:List (Nat×Nat)}(hr:E[i]? = some row){e:Nat×Nat}(he:e∈row):
  ∃p a r j,P[e.1]?=Z p/\e.2<=1/\a=(if e.2=0 then p.2 else p.1)/\E[a]?=Z r/\r.findIdx? (· == (e.1,1-e.2))=Z j/\j<r.length/\vU E P e=(a,j):=by
 obtain⟨h1,h2⟩:=w.en i row hr e he;obtain⟨p,c⟩:∃p,P[e.1]?=some p:=⟨_,gG1 h1⟩;obtain⟨⟨l,q,s⟩,n,o,m1⟩:=w.pr _ p c;have b:∀(r:List (Nat×Nat)) (x:Nat×Nat),x∈r -> ∃j,r.findIdx? (· == x)=Z j/\j<r.length:=λr x t=>by
  cases h:r.findIdx? (· == x)with
  |none=>
   rw[List.findIdx?_eq_none_iff]at h;have:=h x t;simp at this
  |some j=>exact⟨j,O,(ca.mp h).1⟩
 by_cases g:e.2=0
 ·obtain⟨j,d,k⟩:=b n (e.1,1) m1;refine⟨p,p.2,n,j,c,h2,by rw[ak g],o,by rw[g];exact d,k,?_⟩;simp[vU,bP,c,o,g,d]
 ·have f:e.2=1:=by lia
  obtain⟨j,d,k⟩:=b l (e.1,0) s;refine⟨p,p.1,l,j,c,h2,by rw[aj g],q,by rw[f];exact d,k,?_⟩;simp[vU,bP,c,q,f,d]
theorem ER{m:Nat}{E:ee}{P:List (Nat×Nat)}(w:WI m E P):lU m (E.map λb=>b.map (vU E P)):=by
 refine⟨by rw[lM1];exact w.len,?_,?_⟩
 ·intro b c;obtain⟨r,a,rfl⟩:=cj.mp c;obtain⟨i,hi⟩:=bA a;rw[lM1];exact w.le i r hi
 ·intro b c e h;obtain⟨r,a,rfl⟩:=cj.mp c;obtain⟨i,hi⟩:=bA a;obtain⟨x,n,rfl⟩:=cj.mp h;obtain⟨p,d,g,j,_,_,_,f,o,k,l⟩:=Bn w hi n;rw[l];exact⟨g.map (vU E P),by rw[gP1,f];rfl,by rw[lM1];exact k⟩
theorem qh:∀(k n:Nat),kn n (k+1)=kn n k++[.ref (n+k)]
 |0,n=>rfl
 |k+1,n=>by
  rw[kn,qh k (n+1),kn,bt,show n+1+k=n+(k+1) by lia]
theorem zB{t m:Nat}{T:Sto}(tl:T.length=t):WS t m T (aR m []) [] (T++(aR m (.lst [])++[.lst (kn (t+1) m),.lst []])):=by
 refine⟨tl,by rw[<- tl,df],by simp,λi a h=>?_,?_,?_⟩
 ·have hi:i<m:=by have:=(gE1.mp h).1;simpa using this
  rw[aU,ak hi]at h;cases h;rw[<- tl,fY,gL1 (by simpa using hi),aU,ak hi];rfl
 ·rw[<- tl,fY,gR1 (by simp)];simp
 ·rw[<- tl,bu,fY,gR1 (by simp)];simp
theorem zC(m:Nat):WI m (aR m []) []:=by
 refine⟨by simp,λi p h=>by simp at h,λi a h=>?_,λi a h=>?_,by simp[tot]⟩
 ·rw[aU]at h;split at h
  ·cases h;intro e b;simp at b
  ·cases h
 ·rw[aU]at h;split at h
  ·cases h;simp
  ·cases h
theorem E2{t m i n:Nat}{T U:Sto}{E:ee}{P:List (Nat×Nat)}{o:Ob}{x6:Option D}{Q:Fl×Ev×Sto->Prop}(w:WS t m T E P U)(v:WI m E P)(ho:gp o n)(hn:n<=2^44)(hP:P.length=i)(hi:i+1<m)(hm:m<=8)(he:∀j row,i+1<=j->E[j]?=some row->row=[])(h:∀ao S o' X R,WS t m T ao S X->WI m ao S->gp o' (n+3)->S.length=i+1->(∀j row,i+2<=j->ao[j]?=some row->row=[]) ->
   Q (.nx,[Z (.ref 0),Z (.int 8),Z (.int m),Z (.ref (t+m+1)),Z (.ref (t+m+2)),Z (.int ((i+1:Nat):Int)),R,Y,Y,Y],o'::X)):
  W (i9 [Z (.ref 0),Z (.int 8),Z (.int m),Z (.ref (t+m+1)),Z (.ref (t+m+2)),Z (.int ((i+1:Nat):Int)),x6,Y,Y,Y] (o::U)) Q:=by
 have e:∀j,j<m -> ∃row,E[j]?=Z row:=λj f=>⟨_,gG1 (by rw[v.len];exact f)⟩
 let k:Nat->Bool:=λj=>decide ((E.getD j []).length<4)
 unfold i9;walk_at"w";rw[iz,Int.toNat_natCast];refine⟨fz (by lia),?_⟩;refine gH k (λj:Nat=>.int j) (λr=>∃x,r=[x,Z (.ref (t+m+1))]) O (af (i+1)) _ ⟨_,O⟩ ?_ ?_
 ·rintro j f r ⟨x,rfl⟩;have p:j<m:=by have:=aC.mp f;lia
  obtain⟨row,c⟩:=e j p;walk_at"w";refine jN w p ?_;walk_at"w";refine eL (xs:=row.map pD) (by rw[gC1];exact w.row j row c) ?_;walk_at"w";refine⟨?_,⟨_,O⟩,λ_=>trivial⟩;simp only[k,bP,c,cb,lM1];rw[bW,am,am];lia
 ·rintro r' _;walk_at"w";have q:(List.range (i+1)).filter k≠[]:=by
   intro z;have F:∀j row,j<i+1->E[j]?=Z row->4<=row.length:=λj row f hr=>by
    have:=List.filter_eq_nil_iff.mp z j (aC.mpr f);simp only[k,bP,hr,cb,am]at this;lia
   have:=zL (E:=E) (k:=i+1) (by rw[v.len];lia) F;have:=v.tt;lia
  generalize au:(af (i+1)).filter k=L at q;have K:∀j∈L,j<i+1/\k j=M:=λj f=>by
   rw[<- au,aB]at f;exact⟨aC.mp f.1,f.2⟩
  have hLl:L.length<=8:=by
   rw[<- au];have:=dB k (af (i+1));simp at this;lia
  refine⟨ev (by rw[lM1];lia),?_⟩;refine eL (xs:=L.map λj:Nat=>D.int j) (by rw[gC1,eJ];rfl) ?_;walk_at"w";rw[lM1];have hL0:0<L.length:=cP.mpr q;refine fP ho (by lia) (by lia) (by lia) λd o1 av hd=>?_;have C:d<L.length:=by lia
  refine iZ (i:=d) (xs:=L.map λj:Nat=>D.int j) (x:=.int (L[d]:Nat)) (by rw[gC1,eJ];rfl) (by rw[gP1,gG1 C];rfl) ?_;generalize f:L[d]=j;obtain⟨hj1,u⟩:=K j (by rw[<- f];exact bY C);obtain⟨row,c⟩:=e j (by lia);have aq:row.length<4:=by
   simp only[k,bP,c,cb,am]at u;exact u
  obtain⟨I,l⟩:=e (i+1) hi;have y:=he (i+1) I (nR1 _) l;subst y;walk_at"w";refine zQ (a:=j) (b:=i+1) (w.app (G:=[Ob.lst (L.map λj:Nat=>D.int j)])) av (by lia) (by lia) hi c (by lia) (λI V=>by rw[l]at V;cases V;simp) (by lia) λk1 k2 I o2 U2 N g w2=>?_;have B:j≠i+1:=by lia
  have A:I=[]:=by
   rw[gS1 B,l]at g;cases g;rfl
  walk_at"w";refine h _ _ o2 U2 _ w2 (v.tie c aq g (by rw[A];simp)) (N.more (by lia)) (by simp[hP]) λwq H p s=>?_;rw[gS1 (by lia),gS1 (by lia)]at s;exact he wq H (by lia) s
theorem Gm{t m n:Nat}{T U:Sto}{E:ee}{P:List (Nat×Nat)}{o:Ob}{H B ao S au:Option D}{Q:Fl×Ev×Sto->Prop}(w:WS t m T E P U)(v:WI m E P)(ho:gp o n)(hn:n<=2^44)(hP:P.length<100)(wq:0<m)(hm:m<=8)(h:∀L I o' N F u,WS t m T L I N->WI m L I->gp o' (n+4)->I.length<=P.length+1 ->
   Q (.nx,[Z (.ref 0),Z (.int 8),Z (.int m),Z (.ref (t+m+1)),Z (.ref (t+m+2)),H,B,ao,F,u],o'::N)):
  W (i8 [Z (.ref 0),Z (.int 8),Z (.int m),Z (.ref (t+m+1)),Z (.ref (t+m+2)),H,B,ao,S,au] (o::U)) Q:=by
 have e:∀j,j<m -> ∃row,E[j]?=Z row:=λj av=>⟨_,gG1 (by rw[v.len];exact av)⟩;unfold i8;walk_at"w";refine fP ho (by lia) (by lia) (by lia) λa o1 G ha=>?_;walk_at"w";refine fP G (by lia) (by lia) (by lia) λb K k q=>?_;obtain⟨aq,d⟩:=e a (by lia);obtain⟨r,f⟩:=e b (by lia);walk_at"w";refine jN w (by lia) ?_;walk_at"w";refine eL (xs:=aq.map pD) (by rw[gC1];exact w.row a aq d) ?_;walk_at"w";rw[lM1];have g:Q (.nx,[Z (.ref 0),Z (.int 8),Z (.int m),Z (.ref (t+m+1)),Z (.ref (t+m+2)),H,B,ao,Z (.int a),Z (.int b)],K::U):=
  h E P K U _ _ w v (k.more (by lia)) (by lia)
 split
 ·rename_i x;rw [decide_eq_true_eq] at x;refine jN w (by lia) ?_;walk_at"w";refine eL (xs:=r.map pD) (by rw [gC1];exact w.row b r f) ?_;walk_at"w";rw [lM1];have X:((a:Int) == (b:Int))=decide (a=b):=by
   rw[bW,beq_iff_eq,am];lia
  rw[X];by_cases l:a=b
  ·subst l;rw[d]at f;cases f;walk_at"w";split
   ·rename_i i;simp at i;refine zQ w k (by lia) (by lia) (by lia) d (by lia) (fun r q=>by rw [d] at q;cases q;lia) (by lia) fun V R r C z p c A=>?_;have y:r.length<4:=by
     rw[aJ (by rw[v.len];lia)]at c;cases c;rw[lD];lia
    exact h _ _ C z _ _ A (v.tie d (by lia) c y) (p.more (by lia)) (by simp)
   ·exact g
  ·simp only[ai l];walk_at"w";split
   ·rename_i i;simp at i;refine zQ w k (by lia) (by lia) (by lia) d (by lia) (fun s q=>by rw [f] at q;cases q;lia) (by lia) fun V R s C z p c A=>?_;have y:s.length<4:=by
     rw[gS1 l,f]at c;cases c;lia
    exact h _ _ C z _ _ A (v.tie d (by lia) c y) (p.more (by lia)) (by simp)
   ·exact g
 ·try walk_at"w"
  exact g
theorem Jb{t m i:Nat}{T U:Sto}{E:ee}{P:List (Nat×Nat)}{o:Ob}{row:List (Nat×Nat)}{e:Nat×Nat}{Q:D×Sto->Prop}(w:WS t m T E P U)(v:WI m E P)(hr:E[i]? = some row)(he:e∈row)(q:Q (pD (vU E P e),o::U)):
  W (d8 3 gE [.ref (t+m+1),.ref (t+m+2),pD e] (o::U)) Q:=by
 obtain⟨p,a,r,j,h1,h2,n,c,z,B,u⟩:=Bn v hr he;have key:W (gE [.ref (t+m+1),.ref (t+m+2),pD e] (o::U)) λp=>p.2=o::U/\Q p:=by
  unfold gE;refine mx ?_;unfold pz;have b:a<m:=by rw[<- v.len];exact(gE1.mp c).1
  have h:∀Q:D×Sto->Prop,Q (.int e.1,o::U)->W (d6 (pD e) (.int 0) (o::U)) Q:=λQ q=>gC (i:=0) O q;have k:∀Q:D×Sto->Prop,Q (.int e.2,o::U)->W (d6 (pD e) (.int 1) (o::U)) Q:=λQ q=>gC (i:=1) O q;have f:((1:Int)-(e.2:Int))=((1-e.2:Nat):Int):=by lia
  walk_at"w";refine h _ ?_;refine iZ (i:=e.1) (xs:=P.map pD) (x:=pD p) (by rw[gC1];exact w.prs) (by rw[gP1,h1];rfl) ?_;refine k _ ?_;walk_at"w";rw[f];refine gC (i:=1-e.2) (x:=.int a) ?_ ?_
  ·rw[n];by_cases l:e.2=0
   ·rw[l,ak O];rfl
   ·rw[aj l,show e.2=1 by lia];rfl
  walk_at"w";refine iY ?_;walk_at"w";refine jN w b ?_;refine⟨t+a+1,r.map pD,O,by rw[gC1];exact w.row a r c,?_⟩;walk_at"w";refine h _ ?_;refine k _ ?_;walk_at"w";rw[f];refine Hl (e:=(e.1,1-e.2)) (row:=r) (j:=j) (by rw[gC1];exact w.row a r c) (by have:=v.le a r c;lia) z ?_;refine⟨O,?_⟩;rw[u]at q;exact q
 obtain⟨⟨d,A⟩,y,g,s⟩:=key;dsimp only at g;subst g;exact⟨_,mF y O O O,s⟩
theorem HE{o:Ob}{n:Nat}{T:Sto}{Q:D×Sto->Prop}(ho:gp o n)(hn:n<=2^40)(hT:T.all (Ob.und (T.length+1))=M)(h:∀m w o',0<m->m<=8->lU m w->gp o' (n+100)->Q (webD w,o'::T)):W (d8 2 ik [.ref 0,.int 8] (o::T)) Q:=by
 refine uQ O O hT ?_;unfold ik;refine mx ?_;unfold px;generalize au:T.length=t;refine eO (λr S=>∃(m:Nat) (s:Ob),0<m/\m<=8/\gp s (n+1)/\r=[Z (.ref 0),Z (.int 8),Z (.int m),Y,Y,Y,Y,Y,Y,Y]/\S=s::T) ?_ ?_
 ·walk_at"w";refine fP ho (by lia) (by lia) (by lia) λc s z hc=>?_;walk_at"w";exact⟨c+1,s,by lia,by lia,z,by simp[Int.add_comm],O⟩
 rintro r S ⟨m,s,ao,R,z,rfl,rfl⟩;refine eO (λr S=>∃U,WS t m T (aR m []) [] U/\r=[Z (.ref 0),Z (.int 8),Z (.int m),Z (.ref (t+m+1)),Z (.ref (t+m+2)),Y,Y,Y,Y,Y]/\S=s::U) ?_ ?_
 ·walk_at"w";refine⟨fz (by lia),?_⟩;rw[Int.toNat_natCast];refine je (λi p r S=>p=kn (t+1) i/\S=s::(T++aR i (.lst [])) /\ ∃x,r=[x]) (hU 0 m) 0 [] _ _ ⟨O,by simp,_,O⟩ (λ_ _ _ _ _=>rfl) ?_ ?_
  ·rintro i d q p r S ⟨rfl,rfl,x,rfl⟩;walk_at"w";rw[bT];refine⟨?_,?_,_,O⟩
   ·rw[qh,au,lR1]
    congr 3
    lia
   ·rw[List.replicate_succ']
  ·rintro xs r S ⟨e,rfl,_⟩;rw[bg,bT,gx]at e;subst e;rw[bT,gx];walk_at"w";rw[k4];refine⟨ev (by lia),_,zB au,?_,O⟩;simp[au]
 rintro r S ⟨U0,w0,rfl,rfl⟩;refine eO (λr S=>∃E P b U k g,WS t m T E P U/\WI m E P/\P.length<=8/\gp b (n+40)/\r=[Z (.ref 0),Z (.int 8),Z (.int m),Z (.ref (t+m+1)),Z (.ref (t+m+2)),k,g,Y,Y,Y]/\S=b::U) ?_ ?_
 ·walk_at"w";refine⟨Hf (by decide) (by decide),fz (by lia),?_⟩;refine fJ (λi r S=>i<=m-1 /\ ∃E P b U k g,WS t m T E P U/\WI m E P/\P.length=i/\(∀j row,i+1<=j->E[j]?=Z row->row=[])/\gp b (n+1+3*i)/\r=[Z (.ref 0),Z (.int 8),Z (.int m),Z (.ref (t+m+1)),Z (.ref (t+m+2)),k,g,Y,Y,Y]/\S=b::U) _ 0 _ _ ?_ (λ_ _ _ _=>rfl) ?_ ?_
  ·refine⟨by lia,_,_,s,U0,Y,Y,w0,zC m,O,λj row _ K=>?_,z,O,O⟩;rw[aU]at K;split at K
   ·cases K;rfl
   ·cases K
  ·rintro i d q r S ⟨hi,E,P,b,U,k,g,w,v,I,L,a,rfl,rfl⟩;have l:=(gE1.mp q).1;rw [gx] at l;have av:d = .int ((i+1:Nat):Int):=by
    rw[sy,gP1,cO l]at q;simp at q;rw[<- q]
    push_cast
    congr 1
    lia
   subst av;rw[bT]at *
   walk_at"w";refine E2 w v a (by lia) I (by lia) R L λN wq o' V x6' A X u H aq=>?_;exact⟨O,by lia,N,wq,o',V,_,_,A,X,H,aq,u.more (by lia),O,O⟩
  ·rintro r S ⟨hi,E,P,b,U,k,g,w,v,I,L,a,rfl,rfl⟩;exact⟨O,E,P,b,U,k,g,w,v,by lia,a.more (by lia),O,O⟩
 rintro r S ⟨E,P,b,U,k,g,w,v,I,a,rfl,rfl⟩;refine eO (λr S=>∃E P b U k g F B C,WS t m T E P U/\WI m E P/\gp b (n+100)/\r=[Z (.ref 0),Z (.int 8),Z (.int m),Z (.ref (t+m+1)),Z (.ref (t+m+2)),k,g,F,B,C]/\S=b::U) ?_ ?_
 ·walk_at"w";refine fP a (by lia) (by lia) (by lia) λc o3 ho3 hc=>?_;walk_at"w";refine⟨fz (by lia),?_⟩;rw[Int.toNat_natCast];refine fJ (λi r S=>i<=c /\ ∃E P b U k g F B C,WS t m T E P U/\WI m E P/\P.length<=8+i/\gp b (n+41+4*i)/\r=[Z (.ref 0),Z (.int 8),Z (.int m),Z (.ref (t+m+1)),Z (.ref (t+m+2)),k,g,F,B,C]/\S=b::U) _ 0 _ _ ⟨by lia,E,P,o3,U,k,g,Y,Y,Y,w,v,by lia,ho3,O,O⟩ (λ_ _ _ _=>rfl) ?_ ?_
  ·rintro i d q r S ⟨hi,E,P,b,U,k,g,F,B,C,w,v,I,a,rfl,rfl⟩;have l:=(gE1.mp q).1;rw[gx]at l;rw[bT]at *
   walk_at"w";refine Gm w v a (by lia) (by lia) ao R λN wq o' V x8' x9' A X u H=>?_;exact⟨O,by lia,N,wq,o',V,_,_,_,_,_,A,X,by lia,u.more (by lia),O,O⟩
  ·rintro r S ⟨hi,E,P,b,U,k,g,F,B,C,w,v,I,a,rfl,rfl⟩;rw[gx,bT]at a;exact⟨O,E,P,b,U,_,_,_,_,_,w,v,a.more (by lia),O,O⟩
 rintro r S ⟨E,P,b,U,k,g,F,B,C,w,v,a,rfl,rfl⟩;walk_at"w";refine eL (S:=b::U) (xs:=kn (t+1) m) (by rw[gC1];exact w.ends) ?_;have y:∀j,j<m -> ∃row,E[j]?=Z row:=λj hj=>⟨_,gG1 (by rw[v.len];exact hj)⟩;refine je (λi p r S=>∃G x,S=b::(U++G)/\r=[x,Z (.ref (t+m+1)),Z (.ref (t+m+2))]/\p=((E.take i).map λrow=>.tup ((row.map (vU E P)).map pD))) (kn (t+1) m) 0 [] _ _ ⟨[],Y,by simp,O,O⟩ ?_ ?_ ?_
 ·rintro i p r S ⟨G,x,rfl,_⟩;exact iy (by rw[gC1];exact(w.app (G:=G)).ends)
 ·rintro i d q p r S ⟨G,x,rfl,rfl,rfl⟩;have hi:=(gE1.mp q).1;rw[k4]at hi;rw[rW hi]at q;cases q;obtain⟨row,f⟩:=y i hi;have A:=w.app (G:=G);walk_at"w";refine eL (S:=b::(U++G)) (xs:=row.map pD) (by rw[show t+1+i=t+i+1 by lia,gC1];exact A.row i row f) ?_;refine oF (λe=>pD (vU E P e)) (λr=>∃x,r=[x,Z (.ref (t+m+1)),Z (.ref (t+m+2))]) (iy (by rw[show t+1+i=t+i+1 by lia,gC1];exact A.row i row f)) row _ ⟨_,O⟩ ?_ ?_
  ·rintro e L r ⟨x,rfl⟩;walk_at"w";refine Jb A v f L ?_;exact⟨O,O,_,O⟩
  ·rintro r' _;walk_at"w";have hl:=v.le i row f;refine⟨ev (by rw[lM1];lia),?_⟩;refine eL (xs:=row.map λe=>pD (vU E P e)) (by rw[<- bc,gC1,<- lA1,eJ];rfl) ?_;refine⟨G++[Ob.lst (row.map λe=>pD (vU E P e))],_,O,O,?_⟩;rw[bT,cH,f];simp[Function.comp_def]
 ·rintro xs r S ⟨G,x,rfl,rfl,e⟩;rw [bg,bT,k4,<- v.len,cg] at e;subst e;walk_at"w";have hlE:=v.len;refine ⟨ev (by rw [lM1];lia),?_⟩;refine eL (xs:=E.map fun row=>.tup ((row.map (vU E P)).map pD)) (by rw [<- bc,gC1,<- lA1,eJ];rfl) ?_;have e:D.tup (E.map fun row=>.tup ((row.map (vU E P)).map pD))=webD (E.map fun row=>row.map (vU E P)):=by
   simp[webD,Function.comp_def]
  refine⟨webD (E.map λrow=>row.map (vU E P)),b,U.drop t++(G++[Ob.lst (E.map λrow=>.tup ((row.map (vU E P)).map pD))]),?_,fS _,a.und,?_⟩
  ·rw[e,<- bc T,<- w.split]
  ·exact h m _ b ao R (ER v) a
theorem FC{items:List D}{k:Int}{n:Nat}{o:Ob}{T:Sto}{g:Option D}{Q:List D×Ev×Sto->Prop}(ho:gp o n)(hn:n+items.length<=2^50)(hk:0<k)(f:k<1073741824)(h:∀xs o' m,gp o' (n+items.length)->xs.Sublist items->Q (xs,[m,some (.ref 0)],o'::T)):
  W (gh [] (gN 0) (mB (m2 (b2 pP) (mN (d8 2 d7) (d4 (mV 1) (d4 (mC (D.int k)) d5))) (mC (D.int (0))))) (eQ (mV 0)) items [g,Z (.ref 0)] (o::T)) Q:=by
 refine je (λi c r S=>∃o x,S=o::T/\r=[x,Z (.ref 0)]/\gp o (n+i)/\i<=items.length/\c.Sublist (items.take i)) items 0 [] _ _ ⟨o,g,O,O,by simpa using ho,by lia,by simp⟩ (λ_ _ _ _ _=>rfl) ?_ ?_
 ·rintro i d l c r S ⟨o,x,rfl,rfl,ho,hi,a⟩;have p:i<items.length:=(gE1.mp l).1;have j:items.take (i+1)=items.take i++[d]:=by rw[cH,l];rfl
  walk_at"w";refine fP ho (by lia) hk f λe o' b q=>?_;walk_at"w";split
  ·exact⟨o',Z d,O,O,b.more (by lia),by lia,by rw[bT,j];simp at a;exact a.append (List.Sublist.refl _)⟩
  ·exact⟨o',Z d,O,O,b.more (by lia),by lia,by rw[bT,j];simp at a;exact a.trans (List.sublist_append_left _ _)⟩
 ·rintro xs r S ⟨o,x,rfl,rfl,ho,_,a⟩;refine h _ _ _ (by simpa using ho) (by simpa using a)
theorem GX{o:Ob}{n:Nat}{T:Sto}{Q:D×Sto->Prop}(ho:gp o n)(hn:n<=2^45)(g:T.all (Ob.und (T.length+1))=M)(h:∀a b c d o',gp o' (n+4)->Q (.tup (ff a b c d),o'::T)):W (d8 1 fh [.ref 0] (o::T)) Q:=by
 refine uQ O O g ?_;unfold fh;refine mx ?_;unfold iX;walk_at"w";rw[hK];refine FC ho (by simp;lia) (by decide) (by decide) λxs f k e i=>?_;obtain⟨a,b,c,d,rfl⟩:=Bo i;walk_at"w";have j:=Bp a b c d;refine⟨ev (by lia),?_⟩;refine eL (xs:=ff a b c d) (by rw[gC1,eJ];rfl) ?_;exact⟨_,f,_,O,by rw[D.und];exact iW a b c d,e.und,h a b c d f e⟩
theorem xT{w:ee}{i:Nat}{row:List (Nat×Nat)}{S:Sto}{Q:D×Sto->Prop}(h:w[i]?=Z row)(q:Q (.tup (row.map pD),S)):W (d6 (webD w) (.int i) S) Q:=
 gC (x:=.tup (row.map pD)) (by rw[gP1,h];rfl) q
theorem w6{w:ee}{S:Sto}:fc (webD w) S=Z (.int w.length,S):=by simp[webD,fc,et]
noncomputable def crowd(ws:List Wk)(rm:Nat):Nat:=(ws.filter λu=>u.1 == rm).length
def wB(a b c d:Bool)(ws:List Wk)(cs:List Nat)(u:Wk)(row:List (Nat×Nat)):D:=
 vp a b c d u.2.1 (if cs.contains u.1 then 1 else 0) row.length (if 1<crowd ws u.1 then 1 else 0)
theorem q0{ws:List Wk}{a:Nat}{S:Sto}{c:Option D}{Q:List D×Ev×Sto->Prop}(h:∀ b,Q ((ws.filter fun u=>u.1 == a).map fm,b,S)):
  W (gh [] (gN 0) (mB (m2 (b2 pP) (m2 (b2 d6) (mV 0) (mC (D.int (0)))) (mV 1))) (eQ (mV 0)) (eK ws) [c,Z (.int a)] S) Q:=by
 refine gH (λu:Wk=>u.1 == a) fm (λr=>∃x,r=[x,Z (.int a)]) O ws _ ⟨_,O⟩ ?_ λb _=>h b;rintro u d r ⟨x,rfl⟩;walk_at"w";refine gC (i:=0) O ?_;walk_at"w";refine⟨?_,⟨_,O⟩,λ_=>trivial⟩;rw[bW,beq_iff_eq,beq_iff_eq];lia
theorem EE {w x y z:D}{S:Sto}{r:Ev}{m1 m2 b a:FE}{Q:D×Sto->Prop}(h1:m1 r S=some (w,S))(h2:m2 r S=some (x,S))(c:b r S=some (y,S))(d:a r S=some (z,S))
  (q:Q (.ref S.length,S++[.dct [(.inr "came",w),(.inr "chalk",x),(.inr "doors",y),(.inr "others",z)]])):
  W (ui [(mC (.str "came"),m1),(mC (.str "chalk"),m2),(mC (.str "doors"),b),(mC (.str "others"),a)] r S) Q:=by
 refine W.of ?_ q;simp only[ui,De,mC,h1,h2,c,d,oS1,oP1,xa,uo];rfl
theorem Dt {w x y z:D}{S:Sto}{n:Nat}(h:S[n]? = some (.dct [(.inr "came",w),(.inr "chalk",x),(.inr "doors",y),(.inr "others",z)])):
  d6 (.ref n) (.str "came") S=Z (w,S)/\d6 (.ref n) (.str "chalk") S=Z (x,S)/\d6 (.ref n) (.str "doors") S=Z (y,S)/\d6 (.ref n) (.str "others") S=Z (z,S):=by
 refine⟨?_,?_,?_,?_⟩<;>(simp only[d6,h,mw,uo,oS1];rfl)
noncomputable def sN:Nat->D
 |0=>.str "came" |1=>.str "chalk" |2=>.str "doors" |_=>.str "others"
noncomputable def Ew:Nat->D
 |0=>.int 5|1=>.int 2|2=>.int 5|_=>.int 2
noncomputable def hL(a b c d:Bool)(w x y z:Int):Nat->D
 |0=>if a then .int w else .non
 |1=>if b then .int x else .non
 |2=>if c then .int y else .non
 |_=>if d then .int z else .non
theorem wO {a b c d:Bool}{w x y z:Int}{S:Sto}{n:Nat}(h:S[n]? = some (.dct [(.inr "came",.int w),(.inr "chalk",.int x),(.inr "doors",.int y),(.inr "others",.int z)])){i:Nat}(hi:i∈[0,1,2,3]){r:Ev}{f j g:Nat}
  (h1:r[f]?=Z (Z (sN i))) (h2:r[j]?=Z (Z (.tup (ff a b c d)))) (e:r[g]?=Z (Z (.ref n))):
  vH (mB (m2 (b2 im) (mV f) (mV j))) (m2 (b2 d6) (mV g) (mV f)) (mC D.non) r S=Z (hL a b c d w x y z i,S):=by
 obtain⟨o,l,m,k⟩:=Dt h;simp only[aG,bR,or_false]at hi;rcases hi with rfl|rfl|rfl|rfl
 ·cases a<;>simp only[vH,mB,m2,b2,mV,h1,h2,e,sN,oS1,DC,o,hL,mC]<;>rfl
 ·cases b<;>simp only[vH,mB,m2,b2,mV,h1,h2,e,sN,oS1,A8,l,hL,mC]<;>rfl
 ·cases c<;>simp only[vH,mB,m2,b2,mV,h1,h2,e,sN,oS1,A7,m,hL,mC]<;>rfl
 ·cases d<;>simp only[vH,mB,m2,b2,mV,h1,h2,e,sN,oS1,yN,k,hL,mC]<;>rfl
theorem Ck{w:ee}{ws:List Wk}{cs:List Nat}{a b c d:Bool}{k:Nat}{u:Wk}{row:List (Nat×Nat)}{S:Sto}{Q:D×Sto->Prop}(g:ws[k]? = Z u)(hr:w[u.1]? = Z row)(o:ws.length<=1000)(q:Q (wB a b c d ws cs u row,S)):W (d8 4 ic [webD w,.tup (ff a b c d),ea ws cs,.int k] S) Q:=by
 refine m6 O (by simp[D.unds,fS,gn];rw[D.und];exact⟨iW a b c d,O⟩) ?_;unfold ic;refine mx ?_;unfold pk;refine eO (λr S=>S=[]/\r=[Z (webD w),Z (.tup (ff a b c d)),Z (ea ws cs),Z (.int k),Z (.tup (eK ws)),Z (.tup (eR cs)),Y,Y,Y,Y,Y]) ?_ ?_
 ·rw[ea];walk_at"w"
 rintro r S ⟨rfl,rfl⟩;refine eO (λr S=>S=[]/\r=[Z (webD w),Z (.tup (ff a b c d)),Z (ea ws cs),Z (.int k),Z (.tup (eK ws)),Z (.tup (eR cs)),Z (.int u.1),Z (.int u.2.1),Z (.int u.2.2),Y,Y]) ?_ ?_
 ·walk_at"w";refine gC (i:=k) (x:=fm u) (by rw[eK,gP1,g];rfl) ?_;rw[fm];walk_at"w"
 rintro r S ⟨rfl,rfl⟩;refine eO (λr S=>S=[.lst ((ws.filter λv=>v.1 == u.1).map fm)]/\r=[Z (webD w),Z (.tup (ff a b c d)),Z (ea ws cs),Z (.int k),Z (.tup (eK ws)),Z (.tup (eR cs)),Z (.int u.1),Z (.int u.2.1),Z (.int u.2.2),Z (.ref 0),Y]) ?_ ?_
 ·walk_at"w";rw[hK];refine q0 λj=>?_;walk_at"w";have:=dB (λv:Wk=>v.1 == u.1) ws;have h2:((ws.filter λv:Wk=>v.1 == u.1).map fm).length<=100000:=by rw[lM1];lia
  exact⟨ev h2,trivial⟩
 rintro r S ⟨rfl,rfl⟩;generalize m:[Ob.lst ((ws.filter λv=>v.1 == u.1).map fm)]=S1;have f:S1[0]?=Z (Ob.lst ((ws.filter λv=>v.1 == u.1).map fm)):=by rw[<- m];rfl
 refine eO (λr S=>S=S1++[.dct [(.inr "came",.int u.2.1),(.inr "chalk",.int (if cs.contains u.1 then 1 else 0)),(.inr "doors",.int row.length),(.inr "others",.int (if 1<crowd ws u.1 then 1 else 0))]]/\r=[Z (webD w),Z (.tup (ff a b c d)),Z (ea ws cs),Z (.int k),Z (.tup (eK ws)),Z (.tup (eR cs)),Z (.int u.1),Z (.int u.2.1),Z (.int u.2.2),Z (.ref 0),Z (.ref S1.length)]) ?_ ?_
 ·unfold eE;rw[ei];have hc:(List.map fm (ws.filter λv=>v.1 == u.1)).length=crowd ws u.1:=by rw[lM1];rfl
  refine EE (w:=.int u.2.1) (x:=.int (if cs.contains u.1 then 1 else 0)) (y:=.int row.length) (z:=.int (if 1<crowd ws u.1 then 1 else 0)) O ?_ ?_ ?_ ?_
  ·simp only[vH,mB,m2,b2,mV,gC1,dz,oS1,qM,mC];split<;>rfl
  ·have:W (d6 (webD w) (.int u.1) S1) λp=>p=(.tup (row.map pD),S1):=xT hr O;obtain⟨p,e,rfl⟩:=this;simp only[mN,d4,d5,m2,b1,b2,mV,gC1,dz,oS1,e,gj,lM1]
  ·simp only[vH,mB,mN,d4,d5,m2,b1,b2,mV,mC,gC1,dz,oS1,fc,jR f,oP1,jh,hc];by_cases h1:1<crowd ws u.1
   ·rw[ak h1,ak (by rw[am];lia)]
   ·rw[aj h1,aj (by rw[am];lia)]
  ·walk_at"w"
 rintro r S ⟨rfl,rfl⟩;generalize n:S1++[Ob.dct [(.inr "came",.int u.2.1),(.inr "chalk",.int (if cs.contains u.1 then 1 else 0)),(.inr "doors",.int row.length),(.inr "others",.int (if 1<crowd ws u.1 then 1 else 0))]]=S2;have l:S2[S1.length]?=Z (Ob.dct [(.inr "came",.int u.2.1),(.inr "chalk",.int (if cs.contains u.1 then 1 else 0)),(.inr "doors",.int row.length),(.inr "others",.int (if 1<crowd ws u.1 then 1 else 0))]):=by rw[<- n,eJ];rfl
 walk_at"w";have h:nJ = .tup ([0,1,2,3].map λi:Nat=>D.tup [sN i,Ew i]):=rfl;rw[h,hK];refine oF (hL a b c d u.2.1 (if cs.contains u.1 then 1 else 0) row.length (if 1<crowd ws u.1 then 1 else 0)) (λr=>∃x y,r=[x,y,Z (.tup (ff a b c d)),Z (.ref S1.length)]) O _ _ ⟨_,_,O⟩ ?_ ?_
 ·rintro i hi r ⟨x,y,rfl⟩;refine⟨([Z (sN i),Z (Ew i),Z (.tup (ff a b c d)),Z (.ref S1.length)],S2),O,?_⟩;refine⟨(M,S2),O,O,?_⟩;exact⟨_,wO l hi O O O,O,O,_,_,O⟩
 ·rintro j _;walk_at"w";refine eL (xs:=[hL a b c d u.2.1 (if cs.contains u.1 then 1 else 0) row.length (if 1<crowd ws u.1 then 1 else 0) 0,hL a b c d u.2.1 (if cs.contains u.1 then 1 else 0) row.length (if 1<crowd ws u.1 then 1 else 0) 1,hL a b c d u.2.1 (if cs.contains u.1 then 1 else 0) row.length (if 1<crowd ws u.1 then 1 else 0) 2,hL a b c d u.2.1 (if cs.contains u.1 then 1 else 0) row.length (if 1<crowd ws u.1 then 1 else 0) 3]) (by rw[eJ];rfl) ?_;exact⟨qa,q⟩
theorem uj{w:ee}{ws:List Wk}{cs:List Nat}{a b c d:Bool}{k:Nat}{u:Wk}{row:List (Nat×Nat)}{S:Sto}{Q:D×Sto->Prop}(j:ws[k]? = Z u)(hr:w[u.1]? = Z row)(t:ws.length<=1000)(q:Q (wB a b c d ws cs u row,S)):W (d8 4 fv [webD w,.tup (ff a b c d),ea ws cs,.int k] S) Q:=by
 refine m6 O (by simp[D.unds,fS,gn];rw[D.und];exact⟨iW a b c d,O⟩) ?_;unfold fv;refine mx ?_;unfold lQ;have g:∀(S:Sto) (Q:D×Sto->Prop),Q (.tup (eK ws),S)->W (d6 (ea ws cs) (.int 0) S) Q:=λS Q q=>gC (i:=0) O q;have n:∀(S:Sto),d6 (ea ws cs) (.int 1) S=Z (.tup (eR cs),S):=λS=>by
  obtain⟨p,e,h⟩:W (d6 (ea ws cs) (.int 1) S) λp=>p=(.tup (eR cs),S):=gC (i:=1) O O;rw[e,h]
 refine eO (λr S=>S=[]/\r=[Z (webD w),Z (.tup (ff a b c d)),Z (ea ws cs),Z (.int k),Z (.int u.1),Z (.int u.2.1),Z (.int u.2.2),Y,Y]) ?_ ?_
 ·walk_at"w";refine g _ _ ?_;refine gC (i:=k) (x:=fm u) (by rw[eK,gP1,j];rfl) ?_;rw[fm];walk_at"w"
 rintro r S ⟨rfl,rfl⟩;refine eO (λr S=>r=[Z (webD w),Z (.tup (ff a b c d)),Z (ea ws cs),Z (.int k),Z (.int u.1),Z (.int u.2.1),Z (.int u.2.2),Z (.int (crowd ws u.1)),Y]) ?_ ?_
 ·walk_at"w";refine g _ _ ?_;rw[hK];refine q0 λm=>?_;walk_at"w";have:=dB (λv:Wk=>v.1 == u.1) ws;have h2:((ws.filter λv:Wk=>v.1 == u.1).map fm).length<=100000:=by rw[lM1];lia
  refine⟨ev h2,?_⟩;refine eL (xs:=(ws.filter λv:Wk=>v.1 == u.1).map fm) O ?_;rw[lM1];rfl
 rintro r f rfl;refine eO (λr S=>S=f++[.dct [(.inr "came",.int u.2.1),(.inr "chalk",.int (if cs.contains u.1 then 1 else 0)),(.inr "doors",.int row.length),(.inr "others",.int (if 1<crowd ws u.1 then 1 else 0))]]/\r=[Z (webD w),Z (.tup (ff a b c d)),Z (ea ws cs),Z (.int k),Z (.int u.1),Z (.int u.2.1),Z (.int u.2.2),Z (.int (crowd ws u.1)),Z (.ref f.length)]) ?_ ?_
 ·unfold eE;rw[ei];refine EE (w:=.int u.2.1) (x:=.int (if cs.contains u.1 then 1 else 0)) (y:=.int row.length) (z:=.int (if 1<crowd ws u.1 then 1 else 0)) O ?_ ?_ ?_ ?_
  ·simp only[mN,d4,d5,b1,m2,b2,mV,gC1,dz,oS1,n,qM,mC,lF]
  ·obtain⟨p,e,rfl⟩:W (d6 (webD w) (.int u.1) f) λp=>p=(.tup (row.map pD),f):=xT hr O;simp only[mN,d4,d5,m2,b1,b2,mV,gC1,dz,oS1,e,gj,lM1]
  ·simp only[mN,d4,d5,m2,b1,b2,mV,mC,gC1,dz,oS1,jh,lF];by_cases h1:1<crowd ws u.1
   ·rw[ak h1,ak (by rw[am];lia)]
   ·rw[aj h1,aj (by rw[am];lia)]
  ·walk_at"w"
 rintro r S ⟨rfl,rfl⟩;generalize s:f++[Ob.dct [(.inr "came",.int u.2.1),(.inr "chalk",.int (if cs.contains u.1 then 1 else 0)),(.inr "doors",.int row.length),(.inr "others",.int (if 1<crowd ws u.1 then 1 else 0))]]=S2;have o:S2[f.length]?=Z (Ob.dct [(.inr "came",.int u.2.1),(.inr "chalk",.int (if cs.contains u.1 then 1 else 0)),(.inr "doors",.int row.length),(.inr "others",.int (if 1<crowd ws u.1 then 1 else 0))]):=by rw[<- s,eJ];rfl
 walk_at"w";have l:([D.str "came",D.str "chalk",D.str "doors",D.str "others"]:List D)=[0,1,2,3].map sN:=rfl;rw[hK,l];refine oF (hL a b c d u.2.1 (if cs.contains u.1 then 1 else 0) row.length (if 1<crowd ws u.1 then 1 else 0)) (λr=>∃x,r=[x,Z (.tup (ff a b c d)),Z (.ref f.length)]) O _ _ ⟨_,O⟩ ?_ ?_
 ·rintro i hi r ⟨x,rfl⟩;refine⟨([Z (sN i),Z (.tup (ff a b c d)),Z (.ref f.length)],S2),O,?_⟩;refine⟨(M,S2),O,O,?_⟩;exact⟨_,wO o hi O O O,O,O,_,O⟩
 ·rintro m _;walk_at"w";refine eL (xs:=[hL a b c d u.2.1 (if cs.contains u.1 then 1 else 0) row.length (if 1<crowd ws u.1 then 1 else 0) 0,hL a b c d u.2.1 (if cs.contains u.1 then 1 else 0) row.length (if 1<crowd ws u.1 then 1 else 0) 1,hL a b c d u.2.1 (if cs.contains u.1 then 1 else 0) row.length (if 1<crowd ws u.1 then 1 else 0) 2,hL a b c d u.2.1 (if cs.contains u.1 then 1 else 0) row.length (if 1<crowd ws u.1 then 1 else 0) 3]) (by rw[eJ];rfl) ?_;exact⟨qa,q⟩
noncomputable def pt(b:Bool)(x:Nat):D:=if b=M then .int x else .non
def K4(a b c d:Bool)(x y z w:Nat):D:=.tup [pt a x,pt b y,pt c z,pt d w]
noncomputable def mY:List D:=[.str "leave"]
noncomputable def mI:List D:=[.non,.int 0,.int 1,.int 2,.int 3]
structure fN (x:D):Prop where
 is:∃m h t,x = .tup [.int (m:Nat),h,t]/\m<4000/\h∈mY/\t∈mI
theorem fN.und{x:D}(h:fN x):x.und 0=M:=by
 obtain⟨m,x,t,rfl,_,h1,h2⟩:=h.is;have b:x.und 0=M:=by simp[mY]at h1;subst h1;rfl
 have a:t.und 0=M:=by simp[mI]at h2;rcases h2 with z|z|z|z|z<;>subst z<;>rfl
 simp[D.und,D.unds,b,a]
noncomputable def cx(b:Bool)(x:Nat):Nat:=if b=M then x else 0
def jJ:List Bool->List Nat->Nat
 |b::bs,x::xs=>cx b x*8^bs.length+jJ bs xs
 |_,_=>0
theorem mE:∀{bs:List Bool} {xs:List Nat},(∀x∈xs,x<=7)->jJ bs xs<8^bs.length
 |[],_,_=>by rw[jJ];simp;simp
 |b::bs,[],_=>by
  rw[jJ]
  ·exact Nat.pos_of_ne_zero (by simp)
  ·simp
 |b::bs,x::xs,h=>by
  have h1:=mE (bs:=bs) λy a=>h y (mC1 _ a);have h2:cx b x<=7:=by unfold cx;split;exact h x mS1;lia
  rw[jJ,lC1,Nat.pow_succ];have c:cx b x*8^bs.length<=7*8^bs.length:=dD _ h2;lia
theorem Jg{S:Sto}{n:Nat}{xs ys:List D}:gI S (n+1) (.tup xs) (.tup ys)=oT (gI S n) xs ys:=by
 rw[gI];simp[et]
theorem Ku{S:Sto}{n:Nat}{xs ys:List D}:kE S (n+1) (.tup xs) (.tup ys)=pM (gI S n) (kE S n) xs ys:=by
 rw[kE];simp[JL,et]
theorem EB{S:Sto}{n:Nat}{b:Bool}{x y:Nat}:gI S (n+1) (pt b x) (pt b y)=Z (decide (cx b x=cx b y)):=by
 cases b with
 |false=>rfl
 |true=>
  show Z ((x:Int) == (y:Int))=Z (decide (x=y))
  congr 1
  rw[bW,beq_iff_eq,am];lia
theorem IK{S:Sto}{n:Nat}{b:Bool}{x y:Nat}(h:cx b x≠cx b y):kE S (n+1) (pt b x) (pt b y)=Z (decide (cx b x<cx b y)):=by
 cases b with
 |false=>exact absurd O h
 |true=>
  show Z (decide ((x:Int)<(y:Int)))=Z (decide (x<y))
  congr 1
  rw[bW,am,am];omega
theorem Ji{A B P u v:Nat}(a:u<P)(hv:v<P):(A*P+u=B*P+v↔A=B/\u=v)/\(A*P+u<B*P+v↔A<B\/(A=B/\u<v)):=by
 rcases Nat.lt_trichotomy A B with h|h|h
 ·have:=dD P (show A+1<=B from h);rw[Nat.succ_mul]at this;constructor<;>lia
 ·subst h;constructor<;>lia
 ·have:=dD P (show B+1<=A from h);rw[Nat.succ_mul]at this;constructor<;>lia
theorem sP{S:Sto}{n:Nat}:∀ {bs:List Bool} {xs ys:List Nat},xs.length=bs.length->ys.length=bs.length->(∀ x∈xs,x<=7)->(∀ y∈ys,y<=7) ->
  oT (gI S (n+1)) (dE pt bs xs) (dE pt bs ys)=Z (decide (jJ bs xs=jJ bs ys))
 |[],xs,ys,_,_,_,_=>by simp[oT,jJ]
 |b::bs,[],ys,h,_,_,_=>by simp at h
 |b::bs,x::xs,[],_,h,_,_=>by simp at h
 |b::bs,x::xs,y::ys,h1,h2,hx,hy=>by
  have ih:=sP (S:=S) (n:=n) (bs:=bs) (xs:=xs) (ys:=ys) (by simpa using h1) (by simpa using h2) (λz a=>hx z (mC1 _ a)) (λz a=>hy z (mC1 _ a));have b1:=mE (bs:=bs) (xs:=xs) λz a=>hx z (mC1 _ a);have b2:=mE (bs:=bs) (xs:=ys) λz a=>hy z (mC1 _ a);rw[dF,dF,oT,EB,ih,jJ,jJ];have c:=(Ji (A:=cx b x) (B:=cx b y) b1 b2).1;rw[oS1,oP1]
  congr 1
  rw[bW,bA1,am,am,am];exact c.symm
theorem AW{S:Sto}{n:Nat}:∀ {bs:List Bool} {xs ys:List Nat},xs.length=bs.length->ys.length=bs.length->(∀ x∈xs,x<=7)->(∀ y∈ys,y<=7) ->
  pM (gI S (n+1)) (kE S (n+1)) (dE pt bs xs) (dE pt bs ys)=Z (decide (jJ bs xs<jJ bs ys))
 |[],xs,ys,_,_,_,_=>by simp[pM,jJ]
 |b::bs,[],ys,h,_,_,_=>by simp at h
 |b::bs,x::xs,[],_,h,_,_=>by simp at h
 |b::bs,x::xs,y::ys,h1,h2,hx,hy=>by
  have ih:=AW (S:=S) (n:=n) (bs:=bs) (xs:=xs) (ys:=ys) (by simpa using h1) (by simpa using h2) (λz a=>hx z (mC1 _ a)) (λz a=>hy z (mC1 _ a));have b1:=mE (bs:=bs) (xs:=xs) λz a=>hx z (mC1 _ a);have b2:=mE (bs:=bs) (xs:=ys) λz a=>hy z (mC1 _ a);have c:=(Ji (A:=cx b x) (B:=cx b y) b1 b2).2;rw[dF,dF,pM,EB,oS1,jJ,jJ];by_cases z:cx b x=cx b y
  ·rw[ak (ah z),ih]
   congr 1
   rw[bW,am,am];lia
  ·rw[aj (by rw[am];exact z),IK z]
   congr 1
   rw[bW,am,am];lia
structure Ky where
 m:Nat
 x:Nat
 y:Nat
 z:Nat
 w:Nat
structure Ky.Ok (k:Ky):Prop where
 m:k.m<4000
 x:k.x<=4
 y:k.y<=4
 z:k.z<=4
 w:k.w<=4
abbrev E4:=Bool×Bool×Bool×Bool
noncomputable def E4.bs(e:E4):List Bool:=[e.1,e.2.1,e.2.2.1,e.2.2.2]
noncomputable def Ky.xs(k:Ky):List Nat:=[k.x,k.y,k.z,k.w]
noncomputable def Et(b:Bool)(x:Nat):TK:=if b=M then .int x else .non
def Ky.sg(k:Ky)(e:E4):D:=K4 e.1 e.2.1 e.2.2.1 e.2.2.2 k.x k.y k.z k.w
def Ky.d(k:Ky)(e:E4):D:=.tup [.int k.m,k.sg e]
def Ky.tk(k:Ky)(e:E4):TK:=.tup [.int k.m,.tup [Et e.1 k.x,Et e.2.1 k.y,Et e.2.2.1 k.z,Et e.2.2.2 k.w]]
def Ky.code(k:Ky)(e:E4):Nat:=k.m*4096+jJ e.bs k.xs
theorem Ky.keyT(k:Ky)(e:E4):Mi.keyT (k.d e)=Z (k.tk e):=by
 obtain⟨a,b,c,d⟩:=e;cases a<;>cases b<;>cases c<;>cases d<;>rfl
theorem Ky.tkD(k:Ky)(e:E4):Mi.tkD (k.tk e)=k.d e:=(xb (k.keyT e)).1
theorem Ky.sg_zip(k:Ky)(e:E4):k.sg e = .tup (dE pt e.bs k.xs):=rfl
theorem Ky.Ok.all{k:Ky}(h:k.Ok):∀x∈k.xs,x<=7:=by
 intro x a;have:=h.x;have:=h.y;have:=h.z;have:=h.w
 simp[Ky.xs]at a;lia
theorem gY{k:Ky}(h:k.Ok)(e:E4):jJ e.bs k.xs<4096:=mE (bs:=e.bs) h.all
theorem Ky.eq{k l:Ky}{e:E4}{S:Sto}{n:Nat}(hk:k.Ok)(a:l.Ok):gI S (n+3) (k.d e) (l.d e)=Z (decide (k.code e=l.code e)):=by
 have d:gI S (n+2) (.int k.m) (.int l.m)=Z ((k.m:Int) == (l.m:Int)):=rfl;have b:gI S (n+2) (k.sg e) (l.sg e)=Z (decide (jJ e.bs k.xs=jJ e.bs l.xs)):=by rw[Ky.sg_zip,Ky.sg_zip,Jg,sP O O hk.all a.all]
 unfold Ky.d Ky.code;rw[Jg,oT,d,oS1,oT,b,oT];have c:=(Ji (A:=k.m) (B:=l.m) (gY hk e) (gY a e)).1;show Z (((k.m:Int) == (l.m:Int))&&(decide (jJ e.bs k.xs=jJ e.bs l.xs)&&M))=_
 congr 1
 rw[bW,bS,bA1,am,am,beq_iff_eq,c];lia
theorem Ky.lt{k l:Ky}{e:E4}{S:Sto}{n:Nat}(hk:k.Ok)(a:l.Ok):kE S (n+3) (k.d e) (l.d e)=Z (decide (k.code e<l.code e)):=by
 have c:gI S (n+2) (.int k.m) (.int l.m)=Z ((k.m:Int) == (l.m:Int)):=rfl;have d:kE S (n+2) (.int k.m) (.int l.m)=Z (decide ((k.m:Int)<(l.m:Int))):=rfl;have g:gI S (n+2) (k.sg e) (l.sg e)=Z (decide (jJ e.bs k.xs=jJ e.bs l.xs)):=by rw[Ky.sg_zip,Ky.sg_zip,Jg,sP O O hk.all a.all]
 have f:kE S (n+2) (k.sg e) (l.sg e)=Z (decide (jJ e.bs k.xs<jJ e.bs l.xs)):=by rw[Ky.sg_zip,Ky.sg_zip,Ku,AW O O hk.all a.all]
 unfold Ky.d Ky.code;have h:=(Ji (A:=k.m) (B:=l.m) (gY hk e) (gY a e)).2;rw[Ku,pM,c,oS1];by_cases z:k.m=l.m
 ·rw[ak (by rw[beq_iff_eq];lia),pM,g,oS1];by_cases b:jJ e.bs k.xs=jJ e.bs l.xs
  ·rw[ak (ah b),pM]
   congr 1
   rw[eq_comm,decide_eq_false_iff_not];lia
  ·rw[aj (by rw[am];exact b),f]
   congr 1
   rw[bW,am,am];lia
 ·rw[aj (by rw[beq_iff_eq];lia),d]
  congr 1
  rw[bW,am,am];lia
theorem Ky.und(k:Ky)(e:E4)(n:Nat):(k.d e).und n=M:=by
 rw[<- k.tkD e];exact vg _
theorem Ky.sgu(k:Ky)(e:E4)(n:Nat):(k.sg e).und n=M:=by
 have:=k.und e n;unfold Ky.d at this;simp only[D.und,D.unds,bS,Bool.true_and]at this;exact this
noncomputable def dO(F:List (TK×D)):Ob:=match F with
 |[]=>.dct []
 |_=>.dcT F
theorem Jk{F:List (TK×D)}(h:F≠[]):dO F = .dcT F:=by
 cases F with
 |nil=>exact absurd O h
 |cons _ _=>rfl
structure RW (e:E4)(F:List (TK×D)):Prop where
 row:∀p∈F,∃k:Ky,k.Ok/\p.1=k.tk e/\fN p.2
 nd:(F.map (·.1)).Nodup
theorem RW.und{e:E4}{F:List (TK×D)}(h:RW e F)(n:Nat):(dO F).und n=M:=by
 have:D.unds n (F.map (·.2))=M:=Mi.eW λp a=>by
  obtain⟨_,_,_,b⟩:=h.row p a;exact gb b.und
 cases F with
 |nil=>rfl
 |cons _ _=>exact this
theorem HZ{e:E4}{F:List (TK×D)}{k:Ky}{x:D}{n:Nat}{S:Sto}(b:S[n]?=Z (dO F))(c:F.length<=100000):jG (.ref n) (k.d e) x S=Z (.non,S.set n (dO (fB F (k.tk e) x))):=by
 cases F with
 |nil=>
  have a:S[n]?=Z (.dct []):=b;simp only[jG,a,k.keyT e];rfl
 |cons p F=>
  have a:S[n]?=Z (.dcT (p::F)):=b;rw[Jk Fs];simp only[jG,a,k.keyT e,oS1];rw[ak (bN c (by decide))]
abbrev Rw:=Ky×D
def fX(e:E4)(p:Rw):D:=.tup [p.1.d e,p.2]
def iJ(p:Rw):Prop:=p.1.Ok/\fN p.2
theorem RW.list{e:E4}:∀{F:List (TK×D)},(∀p∈F,∃k:Ky,k.Ok/\p.1=k.tk e/\fN p.2) -> ∃L:List Rw,L.map (λp=>(p.1.tk e,p.2))=F /\ ∀p∈L,iJ p
 |[],_=>⟨[],O,λp a=>by cases a⟩
 |x::F,h=>by
  obtain⟨L,h1,h2⟩:=RW.list (F:=F) λp a=>h p (mC1 _ a);obtain⟨k,c,d,b⟩:=h x mS1;refine⟨(k,x.2)::L,by rw[mP1,h1,<- d],λp a=>?_⟩;rcases aG.mp a with z|z
  ·subst z;exact⟨c,b⟩
  ·exact h2 p z
theorem Fu(b:Bool)(x:Nat):Et b x=if b=M then .int (cx b x)else .non:=by unfold Et cx;cases b<;>rfl
theorem xG{b:Bool}{x y:Nat}(h:Et b x=Et b y):cx b x=cx b y:=by
 cases b with
 |false=>rfl
 |true=>
  have h':TK.int (x:Int)=TK.int (y:Int):=h;injection h' with h';exact(by lia:x=y)
theorem Jm(a b c d x y z w:_):jJ [a,b,c,d] [x,y,z,w]=((cx a x*8+cx b y)*8+cx c z)*8+cx d w:=by
 simp only[jJ,lC1,bn];lia
theorem wu{k l:Ky}{e:E4}(hk:k.Ok)(f:l.Ok):k.tk e=l.tk e↔k.code e=l.code e:=by
 obtain⟨a,b,c,d⟩:=e;have i:k.code (a,b,c,d)=k.m*4096+(((cx a k.x*8+cx b k.y)*8+cx c k.z)*8+cx d k.w):=by unfold Ky.code;rw[<- Jm];rfl
 have r:l.code (a,b,c,d)=l.m*4096+(((cx a l.x*8+cx b l.y)*8+cx c l.z)*8+cx d l.w):=by unfold Ky.code;rw[<- Jm];rfl
 have le:∀(b:Bool) (x:Nat),x<=4->cx b x<=4:=λb x h=>by unfold cx;split<;>lia
 rw[i,r];constructor
 ·intro h;unfold Ky.tk at h;injection h with h;injection h with h1 h2;injection h1 with h1;injection h2 with h2 _;injection h2 with h2;injection h2 with o h2;injection h2 with p2 h2;injection h2 with g h2;injection h2 with m _;rw[xG o,xG p2,xG g,xG m,show k.m=l.m by lia]
 ·intro h;have u:=le a _ hk.x;have w:=le b _ hk.y;have A:=le c _ hk.z;have z:=le d _ hk.w
  have t:=le a _ f.x;have r2:=le b _ f.y;have y:=le c _ f.z;have v:=le d _ f.w
  have p:k.m=l.m:=by lia
  have q:cx a k.x=cx a l.x:=by lia
  have s:cx b k.y=cx b l.y:=by lia
  have j:cx c k.z=cx c l.z:=by lia
  have n:cx d k.w=cx d l.w:=by lia
  unfold Ky.tk;simp only[Fu,p,q,s,j,n]
def BZ(e:E4)(L:List Rw):Prop:=L.Pairwise λp q=>p.1.code e<q.1.code e
theorem oS{α:Type}{p q:α->Bool}:∀{l:List α},(∀x∈l,p x=q x)->l.find? p=l.find? q
 |[],_=>rfl
 |a::l,h=>by
  rw[bj,bj,h a mS1,oS λx b=>h x (mC1 _ b)]
theorem iV{α:Type}{f:α->Nat}{c:Nat}{a:α}:∀{l:List α},(l.map f).Nodup->((l.find? λx=>decide (f x=c))=Z a↔a∈l/\f a=c)
 |[],_=>by simp
 |b::l,nd=>by
  rw[mP1,aQ]at nd;rw[bj];by_cases z:f b=c
  ·rw[ah z];constructor
   ·intro h;cases h;exact⟨mS1,z⟩
   ·rintro⟨h1,h2⟩;rcases aG.mp h1 with y|y
    ·rw[y]
    ·exact absurd (cj.mpr ⟨a,y,h2.trans z.symm⟩) nd.1
  ·rw[ai z];show(l.find? λx=>decide (f x=c))=Z a↔_;rw[iV nd.2];constructor
   ·rintro⟨h1,h2⟩;exact⟨mC1 _ h1,h2⟩
   ·rintro⟨h1,h2⟩;rcases aG.mp h1 with y|y
    ·rw[y]at h2;exact absurd h2 z
    ·exact⟨y,h2⟩
theorem yS{α:Type}{f:α->Nat}{c:Nat}{l m:List α}(p:l.Perm m)(nd:(m.map f).Nodup):(l.find? λx=>decide (f x=c))=m.find? λx=>decide (f x=c):=by
 have b:(l.map f).Nodup:=(p.map f).nodup_iff.mpr nd;apply Option.ext;intro a;rw[iV b,iV nd,p.mem_iff]
theorem BZ.le{e:E4}{L:List Rw}(h:BZ e L)(ok:∀p∈L,iJ p){i j:Nat}{p q:Rw}(hi:L[i]?=Z p)(a:L[j]?=Z q)(c:i<=j):p.1.m<=q.1.m/\(i<j->p.1.code e<q.1.code e):=by
 have b:=(ok p (gM1 hi)).1;have f:=(ok q (gM1 a)).1;by_cases z:i=j
 ·subst z;rw[hi]at a;cases a;exact⟨nR1 _,λz=>by lia⟩
 ·obtain⟨h1,d⟩:=gE1.mp hi;obtain⟨h2,g⟩:=gE1.mp a;have:=cw.mp h i j h1 h2 (by lia);rw[d,g]at this;refine⟨?_,λ_=>this⟩;have l:=gY b e;have k:=gY f e;unfold Ky.code at this;lia
theorem KA{e:E4}{L:List Rw}{i:Nat}{p:Rw}{S:Sto}(h:L[i]?=Z p):d6 (.tup (L.map (fX e))) (.int (i:Nat)) S=Z (fX e p,S):=by
 obtain⟨x,b,a⟩:=(gC (i:=i) (xs:=L.map (fX e)) (x:=fX e p) (S:=S) (Q:=λx=>x=(fX e p,S)) (by rw[gP1,h];rfl) O);rw[b,a]
theorem KB{e:E4}{p:Rw}{S:Sto}:d6 (fX e p) (.int 0) S=Z (p.1.d e,S):=rfl
theorem LY{e:E4}{p:Rw}{S:Sto}:d6 (fX e p) (.int 1) S=Z (p.2,S):=rfl
theorem Lf{e:E4}{k:Ky}{S:Sto}:d6 (k.d e) (.int 0) S=Z (.int k.m,S):=rfl
theorem LX{e:E4}{k:Ky}{S:Sto}:d6 (k.d e) (.int 1) S=Z (k.sg e,S):=rfl
theorem kZ{e:E4}{L:List Rw}(ok:∀p∈L,iJ p)(n:Nat):(D.tup (L.map (fX e))).und n=M:=by
 rw[D.und];refine Mi.eW λp a=>?_;have h1:=p.1.und e n;have h2:=gb (n:=n) (ok p a).2.und;simp[fX,D.und,D.unds,h1,h2]
theorem GF{e:E4}{L:List Rw}{S:Sto}:fc (.tup (L.map (fX e))) S=Z (.int L.length,S):=by simp[fc,et]
theorem Ej{c:FT}{b:FS}{Q:Fl×Ev×Sto->Prop}(I:Nat->Ev->Sto->Prop)(N:Nat)(step:∀k r S,I k r S->W (c r S) fun p=>if p.1=true then k<N/\W (b r p.2) fun q=>q.1 = .nx/\I (k+1) q.2.1 q.2.2 else Q (.nx,r,p.2)):
  ∀(a k:Nat) (r:Ev) (S:Sto),N-k<a->I k r S->W (s9 c b a r S) Q
 |0,k,r,S,hf,_=>by lia
 |a+1,k,r,S,hf,hi=>by
  rw[s9];dsimp only;rw[ei];obtain⟨⟨t,n⟩,e,h⟩:=step k r S hi;refine⟨_,e,?_⟩;dsimp only at h ⊢;cases t with
  |true=>
   rw[ak O]at h ⊢;obtain⟨m,⟨f,i,j⟩,l,d,g⟩:=h;dsimp only at d g;subst d;rw[l,oS1];exact Ej I N step a (k+1) i j (by lia) g
  |false=>
   rw[aj (by decide)]at h ⊢;exact eN.mpr h
theorem DS{e:E4}{L:List Rw}{q:Nat}{S:Sto}{Q:D×Sto->Prop}(g:BZ e L)(ok:∀ p∈L,iJ p)(v:L.length<=4000)(h:∀a:Nat,a<=L.length->(∀i p,L[i]?=Z p->i<a->p.1.m<q)->(∀i p,L[i]?=Z p->a<=i->q<=p.1.m)->Q (.int a,S)):W (d8 2 ig [.tup (L.map (fX e)),.int (q:Nat)] S) Q:=by
 refine m6 O (by rw[D.unds,kZ ok,D.unds,D.und];rfl) ?_;unfold ig;refine mx ?_;unfold pp;generalize m:D.tup (L.map (fX e))=R;refine eO (λr S=>S=[]/\r=[Z R,Z (.int (q:Nat)),Z (.int ((0:Nat):Int)),Y,Y]) ?_ ?_
 ·walk_at"w";rfl
 rintro r o ⟨rfl,rfl⟩;refine eO (λr S=>S=[]/\r=[Z R,Z (.int (q:Nat)),Z (.int ((0:Nat):Int)),Z (.int (L.length:Nat)),Y]) ?_ ?_
 ·subst m
  ((try walk_at"w");repeat(simp only[GF];try walk_at"w"))
  rw[lM1]
 rintro r o ⟨rfl,rfl⟩;refine eO (λr S=>∃(a:Nat) (d:Option D),S=[]/\a<=L.length/\(∀i p,L[i]?=Z p->i<a->p.1.m<q)/\(∀i p,L[i]?=Z p->a<=i->q<=p.1.m)/\r=[Z R,Z (.int (q:Nat)),Z (.int (a:Nat)),Z (.int (a:Nat)),d]) ?_ ?_
 ·refine Ej (λk r S=>∃(a high:Nat) (d:Option D),S=[]/\a<=high/\high<=L.length/\high-a+k<=L.length/\(∀i p,L[i]?=Z p->i<a->p.1.m<q)/\(∀i p,L[i]?=Z p->high<=i->q<=p.1.m)/\r=[Z R,Z (.int (q:Nat)),Z (.int (a:Nat)),Z (.int (high:Nat)),d]) L.length ?_ 100000 0 _ _ (by lia) ⟨0,L.length,_,O,by lia,by lia,by lia,λi p _ z=>by lia,λi p c z=>?_,O⟩
  ·rintro k r S ⟨a,high,d,rfl,h1,h2,l,n,s,rfl⟩;unfold k7;walk_at"w";by_cases z:a<high
   ·rw[ak (by rw[am];lia)];refine⟨by lia,?_⟩;unfold k6;have f:(a+high)/2<L.length:=by lia
    obtain⟨p,c⟩:∃p,L[(a+high)/2]?=some p:=⟨_,gG1 f⟩;have j:pQ (.int ((a:Int)+(high:Int))) (.int 2) []=Z (.int (((a+high)/2:Nat):Int),[]):=by
     simp only[pQ];rw[ak ⟨by lia,by lia⟩]
     push_cast
     rfl
    subst m
    ((try walk_at"w");repeat(simp only[j,KA c,KB,Lf];try walk_at"w"))
    by_cases u:p.1.m<q
    ·rw[ak (by rw[am];lia)];refine⟨(a+high)/2+1,high,_,by lia,h2,by lia,λi t b hi=>?_,s,by push_cast;rfl⟩;exact bN (g.le ok b c (by lia)).1 u
    ·rw[aj (by rw[am];lia)];refine⟨a,(a+high)/2,_,by lia,by lia,by lia,n,λi t b hi=>?_,O⟩;exact aD (by lia) (g.le ok c b hi).1
   ·rw[aj (by rw[am];lia)];have:a=high:=by lia
    subst this;exact⟨a,_,h2,n,s,O⟩
  ·have:=(gE1.mp c).1;lia
 rintro r o ⟨a,d,rfl,h1,h2,l,rfl⟩;walk_at"w";exact⟨O,h a h1 h2 l⟩
theorem zE{c:FT}{b:FS}{Q:Fl×Ev×Sto->Prop}(I:Nat->Ev->Sto->Prop)(N:Nat)(step:∀k r S,I k r S->W (c r S) fun p=>if p.1=true then k<N/\W (b r p.2) fun q=>(q.1 = .nx/\I (k+1) q.2.1 q.2.2) \/ ∃d,q.1 = .rt d/\Q q else Q (.nx,r,p.2)):
  ∀(a k:Nat) (r:Ev) (S:Sto),N-k<a->I k r S->W (s9 c b a r S) Q
 |0,k,r,S,hf,_=>by lia
 |a+1,k,r,S,hf,hi=>by
  rw[s9];dsimp only;rw[ei];obtain⟨⟨t,u⟩,e,h⟩:=step k r S hi;refine⟨_,e,?_⟩;dsimp only at h ⊢;cases t with
  |true=>
   rw[ak O]at h ⊢;obtain⟨s,⟨f,l,n⟩,o,j⟩:=h;rw[o,oS1];rcases j with⟨g,i⟩|⟨d,g,m⟩
   ·dsimp only at g i;subst g;exact zE I N step a (k+1) l n (by lia) i
   ·dsimp only at g;subst g;exact eN.mpr m
  |false=>
   rw[aj (by decide)]at h ⊢;exact eN.mpr h
theorem Jf{k l:Ky}{e:E4}{S:Sto}(hk:k.Ok)(a:l.Ok):pP (k.sg e) (l.sg e) S=Z (.bl (decide (jJ e.bs k.xs=jJ e.bs l.xs)),S):=by
 show(gI S (58+1+1) (k.sg e) (l.sg e)).map _=_;rw[Ky.sg_zip,Ky.sg_zip,Jg,sP O O hk.all a.all];rfl
theorem BZ.nd{e:E4}:∀{L:List Rw},BZ e L->(L.map λp=>p.1.code e).Nodup:=λh=>
 dw.mpr (List.Pairwise.imp (λz=>nN1 z) h)
noncomputable def pS(k:Ky):D:=.tup [.int k.m,.str "leave",.non]
def jj(e:E4)(L:List Rw)(k:Ky):D:=((L.find? λp=>decide (p.1.code e=k.code e)).map (·.2)).getD (pS k)
theorem Bz{e:E4}{L:List Rw}{k:Ky}{E:D}{S:Sto}{Q:D×Sto->Prop}(m:BZ e L)(ok:∀ p∈L,iJ p)(G:L.length<=4000)(hk:k.Ok)(I:E.und 0=M)(q:Q (jj e L k,S)):W (d8 3 iS [.tup [E,.tup (L.map (fX e))],.int k.m,k.sg e] S) Q:=by
 refine m6 O (by
  have C:=kZ (e:=e) ok 0;have r2:=k.sgu e 0;rw[D.und]at C;simp[D.unds,D.und,I,C,r2]) ?_
 unfold iS;refine mx ?_;unfold rE;generalize ao:D.tup [E,.tup (L.map (fX e))]=aq;refine eO (λr S=>S=[]/\r=[Z aq,Z (.int k.m),Z (k.sg e),Z (.tup (L.map (fX e))),Y]) ?_ ?_
 ·subst ao;have av:d6 (.tup [E,.tup (L.map (fX e))]) (.int 1) []=Z (.tup (L.map (fX e)),[]):=rfl
  ((try walk_at"w");repeat(simp only[av];try walk_at"w"))
 rintro r F ⟨rfl,rfl⟩;refine eO (λr S=>∃a:Nat,S=[]/\a<=L.length/\(∀i p,L[i]?=Z p->i<a->p.1.m<k.m)/\(∀i p,L[i]?=Z p->a<=i->k.m<=p.1.m)/\r=[Z aq,Z (.int k.m),Z (k.sg e),Z (.tup (L.map (fX e))),Z (.int (a:Nat))]) ?_ ?_
 ·walk_at"w";refine DS m ok G λa h1 h2 s=>?_;exact⟨a,O,h1,h2,s,O⟩
 rintro r F ⟨a,rfl,h1,h2,s,rfl⟩;have hnd:=m.nd;have d:(∀(i:Nat) (p:Rw),L[i]?=Z p->p.1.code e≠k.code e)->jj e L k=pS k:=λh=>by
  unfold jj;rw[List.find?_eq_none.mpr λp c=>?_]
  ·rfl
  ·obtain⟨i,hi⟩:=bA c;rw[am];exact h i p hi
 have o:∀p,p∈L->p.1.m≠k.m->p.1.code e≠k.code e:=λp c t z=>by
  have:=(Ji (A:=p.1.m) (B:=k.m) (gY (ok p c).1 e) (gY hk e)).1.mp z;exact t this.1
 unfold eA;refine ei.mpr ?_;refine zE (λj r S=>S=[]/\a+j<=L.length/\(∀i p,L[i]?=Z p->i<a+j->p.1.code e≠k.code e)/\r=[Z aq,Z (.int k.m),Z (k.sg e),Z (.tup (L.map (fX e))),Z (.int ((a+j:Nat):Int))]) L.length ?_ 100000 0 _ _ (by lia) ⟨O,by lia,λi p c hi=>o p (gM1 c) (by have:=h2 i p c (by lia);lia),O⟩;rintro j r S ⟨rfl,P,w,rfl⟩;unfold mT;by_cases v:a+j<L.length
 ·obtain⟨p,c⟩:∃p,L[a+j]?=some p:=⟨_,gG1 v⟩;have l:=gM1 c
  ((try walk_at"w");repeat(simp only[GF,KA c,KB,Lf,lM1];try walk_at"w"))
  rw[ak (by rw[am];lia)];by_cases K:p.1.m=k.m
  ·rw[ak (by rw[beq_iff_eq];lia)];refine⟨by lia,?_⟩;unfold mS
   ((try walk_at"w");repeat(simp only[KA c,KB,LX,LY,Jf (ok p l).1 hk];try walk_at"w"))
   have g:p.1.code e=k.code e↔jJ e.bs p.1.xs=jJ e.bs k.xs:=by unfold Ky.code;rw[K];lia
   by_cases hc:jJ e.bs p.1.xs=jJ e.bs k.xs
   ·rw[ak (ah hc)];right;have H:(L.find? λp=>decide (p.1.code e=k.code e))=Z p:=(iV (f:=λp:Rw=>p.1.code e) hnd).mpr ⟨l,g.mpr hc⟩;have N:jj e L k=p.2:=by unfold jj;rw[H];rfl
    rw[N]at q;exact⟨_,O,(ok p l).2.und,q⟩
   ·rw[aj (by rw[am];exact hc)];refine W.of (x:=(.nx,[Z aq,Z (.int k.m),Z (k.sg e),Z (.tup (L.map (fX e))),Z (.int (((a+j:Nat):Int)+1))],[])) O ?_;left;refine⟨O,O,by lia,λi n b hi=>?_,by push_cast;rfl⟩;by_cases y:i=a+j
    ·subst y;rw[c]at b;cases b;exact λz=>hc (g.mp z)
    ·exact w i n b (by lia)
  ·rw [if_neg (by rw [beq_iff_eq];lia)];have u:jj e L k=pS k:=d fun i n b=>by
    by_cases hi:i<a+j
    ·exact w i n b hi
    ·have b1:=s (a+j) p c (by lia);have b2:=(m.le ok c b (by lia)).1;exact o n (gM1 b) (by lia)
   rw[u]at q;exact⟨O,q⟩
 ·((try walk_at"w");repeat(simp only[GF,lM1];try walk_at"w"))
  rw[aj (by rw[am];lia)];have u:jj e L k=pS k:=d λi n b=>by
   have:=(gE1.mp b).1;exact w i n b (by lia)
  rw[u]at q;exact⟨O,q⟩
noncomputable def dm:D->Nat
 | .tup [.int m,_,_]=>m.toNat
 |_=>0
noncomputable def dh:D->Str
 | .tup [_,.str h,_]=>h
 |_=>""
noncomputable def dt:D->Option Nat
 | .tup [_,_,.int t]=>Z t.toNat
 |_=>Y
noncomputable def tD:Option Nat->D
 |none=>.non
 |some t=>.int (t:Nat)
theorem fN.eta{x:D}(h:fN x):x = .tup [.int (dm x:Nat),.str (dh x),tD (dt x)]/\dm x<4000:=by
 obtain⟨m,y,t,rfl,a,h1,h2⟩:=h.is;simp only[mY,aG,bR,or_false]at h1;simp only[mI,aG,bR,or_false]at h2;subst h1;rcases h2 with e|e|e|e|e<;>subst e<;>exact⟨O,a⟩
theorem fN.quiet{x:D}(h:fN x):dh x="leave":=by
 obtain⟨m,y,t,rfl,a,h1,h2⟩:=h.is;simp only[mY,aG,bR,or_false]at h1;subst h1;rfl
def fj(w:ee)(u:Wk)(x:D):Wk:=match dt x with
 |some t=>match (w[u.1]?).bind (·[t]?)with
  |some p=>(p.1,p.2+1,dm x)
  |none=>(u.1,u.2.1,dm x)
 |none=>(u.1,u.2.1,dm x)
theorem A6{t:Nat}{S:Sto}:DL (.int (t:Nat)) .non S=Z (.bl J,S):=rfl
theorem GT{S:Sto}:DL .non .non S=Z (.bl M,S):=rfl
theorem yd{w:ee}{u:Wk}{row:List (Nat×Nat)}{x:D}{S:Sto}{Q:D×Sto->Prop}(hr:w[u.1]?=Z row)(hx:fN x)(q:Q (fm (fj w u x),S)):W (d8 3 iQ [webD w,fm u,x] S) Q:=by
 refine m6 O (by simp[D.unds,fS,hx.und];rfl) ?_;unfold iQ;refine mx ?_;unfold rB;have ex:=hx.eta.1;unfold fj at q;simp only[hr,oS1]at q;generalize o:dm x=m at *
 generalize l:dh x=h at *
 generalize n:dt x=t at *
 refine eO (λr V=>V=[]/\r=[Z (webD w),Z (fm u),Z x,Z (.int u.1),Z (.int u.2.1),Z (.int u.2.2),Y,Y,Y,Y,Y]) ?_ ?_
 ·generalize g:fm u=U;have d:U = .tup [.int u.1,.int u.2.1,.int u.2.2]:=g.symm;subst d;walk_at"w"
 rintro r V ⟨rfl,rfl⟩;refine eO (λr V=>V=[]/\r=[Z (webD w),Z (fm u),Z x,Z (.int u.1),Z (.int u.2.1),Z (.int u.2.2),Z (.int (m:Nat)),Z (.str h),Z (tD t),Y,Y]) ?_ ?_
 ·subst ex;walk_at"w"
 rintro r V ⟨rfl,rfl⟩;cases t with
 |none=>
  have b:tD Y = .non:=rfl;rw[b]
  ((try walk_at"w");repeat(simp only[GT];try walk_at"w"))
  exact⟨O,q⟩
 |some t=>
  have b:tD (Z t) = .int (t:Nat):=rfl;rw[b];have c:∀a,d6 (webD w) (.int (u.1:Nat)) a=Z (.tup (row.map pD),a):=λa=>by
   obtain⟨p,e,h⟩:W (d6 (webD w) (.int (u.1:Nat)) a) λp=>p=(.tup (row.map pD),a):=xT hr O;rw[e,h]
  dsimp only at q;by_cases j:t<row.length
  ·have f:=gG1 j;rw[f]at q;refine eO (λr V=>V=[]/\r=[Z (webD w),Z (fm u),Z x,Z (.int u.1),Z (.int u.2.1),Z (.int u.2.2),Z (.int (m:Nat)),Z (.str h),Z (.int (t:Nat)),Y,Y]) ?_ ?_
   ·((try walk_at"w");repeat(simp only[A6,c,gj,lM1];try walk_at"w"))
    rw[aj (by rw[am];lia)];trivial
   rintro r V ⟨rfl,rfl⟩;have k:∀a,d6 (.tup (row.map pD)) (.int (t:Nat)) a=Z (pD row[t],a):=λa=>by
    obtain⟨p,e,h⟩:W (d6 (.tup (row.map pD)) (.int (t:Nat)) a) λp=>p=(pD row[t],a):=gC (by rw[gP1,f];rfl) O;rw[e,h]
   generalize row[t]=p at *
   refine eO (λr V=>V=[]/\r=[Z (webD w),Z (fm u),Z x,Z (.int u.1),Z (.int u.2.1),Z (.int u.2.2),Z (.int (m:Nat)),Z (.str h),Z (.int (t:Nat)),Z (.int p.1),Z (.int p.2)]) ?_ ?_
   ·((try walk_at"w");repeat(simp only[c,k,pD];try walk_at"w"))
   rintro r V ⟨rfl,rfl⟩;walk_at"w";have i:(1:Int)+(p.2:Int)=((p.2+1:Nat):Int):=by lia
   rw[i];exact⟨O,q⟩
  ·rw[b8 (by lia)]at q
   ((try walk_at"w");repeat(simp only[A6,c,gj,lM1];try walk_at"w"))
   rw[ak (by rw[am];lia)];exact⟨O,q⟩
theorem yr{S:Sto}{x n:Nat}{cs:List Nat}(h:S[n]?=Z (.lst (eR cs))):fZ (.int x) (.ref n) S=Z (.bl (!cs.contains x),S):=by
 simp only[fZ,jg,ms,h,et,oS1,eZ,show(60:Nat)=59+1 from rfl,vN,oP1]
theorem xf{x:D}(h:fN x)(S:Sto):d6 x (.int 1) S=Z (.str (dh x),S):=by
 have e:=h.eta.1;generalize dm x=a at e;generalize dt x=c at e;generalize dh x=b at *
 subst e;rfl
theorem xc{u:Wk}{S:Sto}:d6 (fm u) (.int 0) S=Z (.int u.1,S):=rfl
theorem sE{u:Wk}{S:Sto}:d6 (fm u) (.int 2) S=Z (.int u.2.2,S):=rfl
def jo(ws:List Wk)(dd:Wk->D)(h:Str)(r:Nat):Bool:=ws.any λu=>u.1 == r&&dh (dd u) == h
def eM(m:Nat)(ws:List Wk)(dd:Wk->D)(cs:List Nat):List Nat:=(af m).filter λr=>jo ws dd "mark" r||(cs.contains r && !jo ws dd "wipe" r)
theorem Ga(a b:List Nat):eR a++eR b=eR (a++b):=by simp[eR]
def nv(e:E4):D:=.tup (ff e.1 e.2.1 e.2.2.1 e.2.2.2)
theorem nI(e:E4):(nv e).und 0=M:=by unfold nv;rw[D.und];exact iW _ _ _ _
def mcD(e:E4)(L:List Rw):D:=.tup [nv e,.tup (L.map (fX e))]
theorem lh{e:E4}{L:List Rw}(ok:∀p∈L,iJ p):(mcD e L).und 0=M:=by
 have h1:=nI e;have h2:=kZ (e:=e) ok 0;unfold mcD;rw[D.und,D.unds,D.unds,h1,h2];rfl
theorem oX{e:E4}{L:List Rw}{k:Ky}(ok:∀p∈L,iJ p)(hk:k.Ok):fN (jj e L k):=by
 unfold jj;cases h:L.find? λp=>decide (p.1.code e=k.code e)with
 |none=>exact⟨k.m,_,_,O,hk.m,by simp[mY],by simp[mI]⟩
 |some p=>exact(ok p (List.mem_of_find?_eq_some h)).2
def ky(w:ee)(ws:List Wk)(cs:List Nat)(u:Wk):Ky:=⟨u.2.2,u.2.1,if cs.contains u.1 then 1 else 0,((w[u.1]?).getD []).length,if 1<crowd ws u.1 then 1 else 0⟩
theorem rT{w:ee}{ws:List Wk}{cs:List Nat}{u:Wk}{row:List (Nat×Nat)}{e:E4}(h:w[u.1]?=Z row):wB e.1 e.2.1 e.2.2.1 e.2.2.2 ws cs u row=(ky w ws cs u).sg e:=by
 have c:∀b:Bool,((if b=M then 1 else 0:Nat):Int)=if b=M then(1:Int)else 0:=λb=>by cases b<;>rfl
 have a:((if 1<crowd ws u.1 then 1 else 0:Nat):Int)=if 1<crowd ws u.1 then(1:Int)else 0:=by split<;>rfl
 unfold wB vp Ky.sg K4 ky pt;rw[h];dsimp only;rw[c,a];rfl
structure ga (m:Nat)(w:ee)(ws:List Wk)(cs:List Nat):Prop where
 web:lU m w
 m8:m<=8
 few:ws.length<=8
 cl:cs.length<=8
 wk:∀u∈ws,∃row,w[u.1]?=some row/\u.2.1<=row.length/\u.2.2<4000
 ch:∀r∈cs,r<m
theorem ga.lt{m:Nat}{w:ee}{ws:List Wk}{cs:List Nat}(h:ga m w ws cs):∀u∈ws,u.1<m:=λu b=>by
 obtain⟨a,e,_⟩:=h.wk u b;have:=(gE1.mp e).1;rw[h.web.len]at this;exact this
theorem ga.ky{m:Nat}{w:ee}{ws:List Wk}{cs:List Nat}(h:ga m w ws cs):∀u∈ws,(ky w ws cs u).Ok:=λu b=>by
 obtain⟨a,e,h1,h2⟩:=h.wk u b;have c:=h.web.le a (gM1 e);refine⟨h2,?_,?_,?_,?_⟩
 ·show u.2.1<=4;lia
 ·show(if cs.contains u.1 then 1 else 0)<=4;split<;>lia
 ·show((w[u.1]?).getD []).length<=4;rw[e];exact c
 ·show(if 1<crowd ws u.1 then 1 else 0)<=4;split<;>lia
theorem Ce{m:Nat}{w:ee}{ws:List Wk}{cs:List Nat}{e:E4}{S:Sto}{Q:D×Sto->Prop}(h:ga m w ws cs)(q:Q (.ref S.length,S++[.lst (ws.map λu=>(ky w ws cs u).d e)])):W (d8 3 ll [webD w,nv e,ea ws cs] S) Q:=by
 refine EG O (by simp[D.unds,fS,gn,nI]) ?_;unfold ll;refine mx ?_;unfold xL fA;rw[ei,jl];refine EJ (xs:=eK ws) O ?_;dsimp only;have i:=h.few;rw[eK,vW];refine oF (λp:Wk×Nat=>(ky w ws cs p.1).d e) (λr=>∃x y,r=[x,y,Z (webD w),Z (nv e),Z (ea ws cs)]) O ws.zipIdx _ ⟨_,_,O⟩ ?_ λg _=>?_
 ·rintro⟨u,k⟩ c r ⟨x,y,rfl⟩;have a:ws[k]?=Z u:=lZ c;obtain⟨f,b,_⟩:=h.wk u (gM1 a)
  ((try walk_at"w");repeat(simp only[sE];try walk_at"w"))
  refine Ck a b (by lia) ?_;walk_at"w";rw[rT b];exact⟨O,_,_,O⟩
 ·have d:(ws.zipIdx.map λp:Wk×Nat=>(ky w ws cs p.1).d e)=ws.map λu=>(ky w ws cs u).d e:=km (λu=>(ky w ws cs u).d e) ws;rw[d];refine⟨ev (by dsimp only;rw[lM1];lia),?_⟩;walk_at"w";exact⟨_,O,Mi.eW λu _=>Ky.und _ e 0,q⟩
def ddW(w:ee)(ws:List Wk)(cs:List Nat)(e:E4)(L:List Rw)(u:Wk):D:=jj e L (ky w ws cs u)
def uS(m:Nat)(w:ee)(ws:List Wk)(cs:List Nat)(e:E4)(L:List Rw):D:=ea (ws.map λu=>fj w u (ddW w ws cs e L u)) (eM m ws (ddW w ws cs e L) cs)
theorem sI{S:Sto}{n:Nat}{x:Str}:∀a:List Str,B2 (gI S (n+1)) (.str x) (a.map D.str)=Z (a.contains x)
 |[]=>rfl
 |c::a=>by
  have d:gI S (n+1) (.str c) (.str x)=Z (c == x):=rfl;have b:(c == x)=(x == c):=by rw[bW,beq_iff_eq,beq_iff_eq];exact eq_comm
  rw[mP1,B2,d,b,sI a,dr];rfl
theorem DB{S:Sto}{x:Str}{n:Nat}{cs:List Str}(h:S[n]?=Z (.lst (cs.map D.str))):im (.str x) (.ref n) S=Z (.bl (cs.contains x),S):=by
 simp only[im,vS,Hz,h,et,oS1,eZ,show(60:Nat)=59+1 from rfl,sI,oP1]
theorem vD{S:Sto}{x:Str}{n:Nat}{cs:List Str}(h:S[n]?=Z (.lst (cs.map D.str))):fZ (.str x) (.ref n) S=Z (.bl (!cs.contains x),S):=by
 simp only[fZ,jg,ms,h,et,oS1,eZ,show(60:Nat)=59+1 from rfl,sI,oP1]
def pO(ws:List Wk)(dd:Wk->D)(r:Nat):List Str:=(ws.filter λu=>u.1 == r).map λu=>dh (dd u)
theorem DD{ws:List Wk}{dd:Wk->D}{r:Nat}{h:Str}:(pO ws dd r).contains h=jo ws dd h r:=by
 unfold pO jo;rw[bW,cT,cj,bX];constructor
 ·rintro⟨u,b,e⟩;obtain⟨h1,h2⟩:=aB.mp b;exact⟨u,h1,by rw[h2,e];simp⟩
 ·rintro⟨u,b,e⟩;rw[bA1,beq_iff_eq (a:=dh (dd u))]at e;exact⟨u,aB.mpr ⟨b,e.1⟩,e.2⟩
theorem rJ{ws:List Wk}{cs:List Nat}{S:Sto}:d6 (ea ws cs) (.int 0) S=Z (.tup (eK ws),S):=rfl
theorem EO{ws:List Wk}{cs:List Nat}{S:Sto}:d6 (ea ws cs) (.int 1) S=Z (.tup (eR cs),S):=rfl
theorem y7{m:Nat}{w:ee}{ws:List Wk}{cs:List Nat}{dd:Wk->D}{n:Nat}{S:Sto}{Q:D×Sto->Prop}(z:w.length=m)(hm:m<=8)(hd:∀ u∈ws,fN (dd u))(U:ws.length<=8)(K:S[n]? = Z (.lst (ws.map dd)))(v:S.all (Ob.und S.length)=M)(q:Q (.tup (eR (eM m ws dd cs)),S)):W (d8 3 fU [webD w,ea ws cs,.ref n] S) Q:=by
 refine lO O (by simp[D.unds,D.und]) ?_;unfold fU;refine mx ?_;unfold jM;have av:=(gE1.mp K).1;refine eO (λr V=>V=S++[.lst (eR [])]/\r=[Z (webD w),Z (ea ws cs),Z (.ref n),Z (.ref S.length),Y,Y]) ?_ ?_
 ·walk_at"w";exact⟨O,trivial⟩
 rintro r V ⟨R,rfl⟩;refine eO (λr V=>∃G c a,V=S ++ .lst (eR (eM m ws dd cs))::G/\r=[Z (webD w),Z (ea ws cs),Z (.ref n),Z (.ref S.length),c,a]) ?_ ?_
 ·((try walk_at"w");repeat(simp only[w6];try walk_at"w"))
  rw[iz,Int.toNat_natCast,z];refine⟨fz (by lia),?_⟩;refine fJ (λi r V=>∃G c a,i<=m/\V=S ++ .lst (eR (eM i ws dd cs))::G/\r=[Z (webD w),Z (ea ws cs),Z (.ref n),Z (.ref S.length),c,a]) _ 0 _ _ ⟨[],_,_,by lia,R,O⟩ (λ_ _ _ _=>rfl) ?_ ?_
  ·rintro i d k r H ⟨G,c,a,hi,rfl,rfl⟩;have p:=(gE1.mp k).1;rw[lM1,dG]at p;rw[bT]at *
   have A:d = .int (i:Nat):=by
    rw[gP1,cO p]at k;exact(Option.some.inj k).symm
   subst A;walk_at"w";unfold iO;have E:(S++Ob.lst (eR (eM i ws dd cs))::G)[n]?=Z (.lst (ws.map dd)):=by rw[gL1 av];exact K
   have I:(S++Ob.lst (eR (eM i ws dd cs))::G)[S.length]?=Z (.lst (eR (eM i ws dd cs))):=by rw[eJ];rfl
   refine eO (λr V=>V=S ++ .lst (eR (eM i ws dd cs))::G++[.lst ((pO ws dd i).map D.str)]/\r=[Z (webD w),Z (ea ws cs),Z (.ref n),Z (.ref S.length),Z (.int (i:Nat)),Z (.ref (S++Ob.lst (eR (eM i ws dd cs))::G).length)]) ?_ ?_
   ·unfold eE;rw[ei,jl];refine s0 (xs:=eK ws) (ys:=ws.map dd) (n:=n) O E ?_;dsimp only;rw[eK,nN];refine gH (λu:Wk=>u.1 == i) (λu:Wk=>D.str (dh (dd u))) (λr=>∃x y,r=[x,y,Z (.int (i:Nat))]) (iy E) ws _ ⟨_,_,O⟩ ?_ λT _=>?_
    ·rintro u L r ⟨x,y,rfl⟩
     ((try walk_at"w");repeat(simp only[xc];try walk_at"w"))
     refine⟨?_,⟨_,_,O⟩,λ_=>?_⟩
     ·rw[bW,beq_iff_eq,beq_iff_eq];lia
     ·((try walk_at"w");repeat(simp only[xf (hd u L)];try walk_at"w"))
    ·have e:(ws.filter λu:Wk=>u.1 == i).map (λu:Wk=>D.str (dh (dd u)))=(pO ws dd i).map D.str:=by unfold pO;rw[bD];rfl
     rw[e];have t:=dB (λu:Wk=>u.1 == i) ws;refine⟨ev (by dsimp only;unfold pO;rw[lM1,lM1];lia),?_⟩;walk_at"w"
   rintro r j ⟨g,rfl⟩;have ao:j[(S++Ob.lst (eR (eM i ws dd cs))::G).length]?=Z (.lst ((pO ws dd i).map D.str)):=by rw[g,eJ];rfl
   have B:j[S.length]?=Z (.lst (eR (eM i ws dd cs))):=by rw[g,gL1 (gE1.mp I).1];exact I
   have f:j=S++Ob.lst (eR (eM i ws dd cs))::(G++[Ob.lst ((pO ws dd i).map D.str)]):=by rw[g];simp
   have s:j.set S.length (.lst (eR (eM i ws dd cs)++[.int (i:Nat)]))=S++Ob.lst (eR (eM i ws dd cs++[i]))::(G++[Ob.lst ((pO ws dd i).map D.str)]):=by
    rw[f,c9 _ _ (nR1 _),cS,da];simp[eR]
   have C:∀b:Bool,(jo ws dd "mark" i||(cs.contains i && !jo ws dd "wipe" i))=b->eM (i+1) ws dd cs=if b=M then eM i ws dd cs++[i]else eM i ws dd cs:=λb N=>by
    unfold eM;rw[dH,dI,dq,N];cases b<;>simp
   have P:(eM i ws dd cs).length<=8:=by
    have:=dB (λr=>jo ws dd "mark" r||(cs.contains r && !jo ws dd "wipe" r)) (af i);rw[dG]at this;exact aD this (by lia)
   generalize X:(S++Ob.lst (eR (eM i ws dd cs))::G).length=t at *
   have app:∀ Q':D×Sto->Prop,Q' (.non,S++Ob.lst (eR (eM i ws dd cs++[i]))::(G++[Ob.lst ((pO ws dd i).map D.str)])) ->
     W (pL (b2 jZ) (mV 3) (d4 (mV 4) d5) [Z (webD w),Z (ea ws cs),Z (.ref n),Z (.ref S.length),Z (.int (i:Nat)),Z (.ref t)] j) Q':=λQ' aq=>by
    refine iY ?_;walk_at"w";refine⟨S.length,_,O,B,?_⟩;refine(lW B).mpr ⟨ev (by rw[iG];lia),?_⟩;rw[s];exact aq
   unfold hB;rw[ei]
   ((try walk_at"w");repeat(simp only[DB ao,vD ao,EO,qM,DD];try walk_at"w"))
   have o:(jo ws dd "mark" i||(cs.contains i && !jo ws dd "wipe" i))=M->W (pL (b2 jZ) (mV 3) (d4 (mV 4) d5) [Z (webD w),Z (ea ws cs),Z (.ref n),Z (.ref S.length),Z (.int (i:Nat)),Z (.ref t)] j) λx=>∃G c a,i+1<=m/\x.2=S++Ob.lst (eR (eM (i+1) ws dd cs))::G/\[Z (webD w),Z (ea ws cs),Z (D.ref n),Z (.ref S.length),Z (.int (i:Nat)),Z (.ref t)]=[Z (webD w),Z (ea ws cs),Z (.ref n),Z (.ref S.length),c,a]:=λh=>by
    have h2:=C M h;rw[ak O]at h2;exact app _ ⟨_,_,_,by lia,by rw[h2],O⟩
   have F:(jo ws dd "mark" i||(cs.contains i && !jo ws dd "wipe" i))=J -> ∃G c a,i+1<=m/\j=S++Ob.lst (eR (eM (i+1) ws dd cs))::G/\[Z (webD w),Z (ea ws cs),Z (D.ref n),Z (.ref S.length),Z (.int (i:Nat)),Z (.ref t)]=[Z (webD w),Z (ea ws cs),Z (.ref n),Z (.ref S.length),c,a]:=λh=>by
    have h2:=C J h;rw[aj (by decide)]at h2;exact⟨_,_,_,by lia,by rw[h2];exact f,O⟩
   generalize jo ws dd "mark" i=b1 at *
   generalize cs.contains i=b2 at *
   generalize jo ws dd "wipe" i=b3 at *
   cases b1
   ·rw[aj (by decide)];cases b2
    ·rw[aj (by decide)];exact F O
    ·rw[ak O];cases b3
     ·rw[ak (by decide)];exact o O
     ·rw[aj (by decide)];exact F O
   ·rw[ak O];exact o O
  ·rintro r H ⟨G,c,a,hi,rfl,rfl⟩;rw[lM1,dG,bT];exact⟨O,_,_,_,O,O⟩
 rintro r H ⟨G,c,a,l,rfl⟩;walk_at"w";refine eL (xs:=eR (eM m ws dd cs)) (by rw[l,eJ];rfl) ?_;rw[sL (by rw[D.und];exact kw _) v (by rw[l];exact bE _ _)];exact q
theorem DW{F:List (TK×D)}{n:Nat}{S:Sto}(h:S[n]?=Z (dO F)):yY S n=Z F:=by
 unfold yY;rw[h];cases F<;>rfl
structure RL (e:E4)(F:List (TK×D))(L:List Rw):Prop where
 inc:BZ e L
 ok:∀p∈L,iJ p
 len:L.length<=4000
 lk:∀k:Ky,k.Ok->ej F (k.tk e)=(L.find? λp=>decide (p.1.code e=k.code e)).map (·.2)
theorem IZ{e:E4}{F:List (TK×D)}{L:List Rw}{k:Ky}{n:Nat}{S:Sto}{a b c:FE}{r:Ev}{Q:D×Sto->Prop}(f:RL e F L)(hk:k.Ok)(ha:a r S=Z (.ref n,S))(d:S[n]?=Z (dO F))(hb:b r S=Z (k.d e,S))(hc:c r S=Z (pS k,S))(q:Q (jj e L k,S)):W (sC a b c r S) Q:=by
 refine W.of (x:=(jj e L k,S)) ?_ q;simp only[sC,ha,hb,hc,oS1,DW d,k.keyT e];rw[oP1,f.lk k hk];rfl
abbrev pC(w:ee)(ws:List Wk)(cs:List Nat)(e:E4)(L:List Rw)(S:Sto)(i:Nat):Sto:=S++[.lst (ws.map (ddW w ws cs e L)),.lst (eK ((ws.take i).map λu=>fj w u (ddW w ws cs e L u)))]
abbrev nl(w:ee)(e:E4)(n:Nat)(ws:List Wk)(cs:List Nat)(S:Sto)(r:Ev):Ev:=Z (webD w)::Z (nv e)::Z (.ref n)::Z (ea ws cs)::Z (.ref S.length)::Z (.ref (S.length+1))::r
theorem Di{m:Nat}{w:ee}{ws:List Wk}{cs:List Nat}{e:E4}{F:List (TK×D)}{L:List Rw}{n:Nat}{S:Sto}{Q:D×Sto->Prop}(h:ga m w ws cs)(rl:RL e F L)(hS:S[n]? = some (dO F))(G:S.all (Ob.und S.length)=true)(q:Q (uS m w ws cs e L,S)):
  W (d8 4 gR [webD w,nv e,.ref n,ea ws cs] S) Q:=by
 refine lO O (by simp[D.unds,D.und]) ?_;unfold gR
 refine mx ?_;unfold nj
 have hn:=(gE1.mp hS).1;have hf:=h.few;have au:∀u∈ws,fN (ddW w ws cs e L u):=λu A=>oX rl.ok (h.ky u A);have N:∀a b:Ob,(S++[a,b])[S.length]?=Z a:=λa b=>by rw[eJ];rfl
 have ao:∀a b:Ob,(S++[a,b])[S.length+1]?=Z b:=λa b=>by rw[fY];rfl
 have st:∀a b c:Ob,(S++[a,b]).set S.length c=S++[c,b]:=λa b c=>by rw[c9 _ _ (nR1 _),cS];rfl
 have st1:∀a b c:Ob,(S++[a,b]).set (S.length+1) c=S++[a,c]:=λa b c=>by rw[c9 _ _ (by lia),show S.length+1-S.length=1 by lia];rfl
 have hSn:∀a b:Ob,(S++[a,b])[n]?=Z (dO F):=λa b=>by rw[gL1 hn];exact hS
 refine eO (λr V=>V=S++[.lst [],.lst []]/\r=(nl w e n ws cs S [Y,Y,Y,Y,Y,Y,Y])) ?_ ?_
 ·walk_at"w"
 rintro r V ⟨rfl,rfl⟩;refine eO (λr V=>∃j y,V=S++[.lst (ws.map (ddW w ws cs e L)),.lst []]/\r=(nl w e n ws cs S [j,y,Y,Y,Y,Y,Y])) ?_ ?_
 ·((try walk_at"w");repeat(simp only[rJ,gj,i0];try walk_at"w"))
  rw[iz,Int.toNat_natCast];refine⟨fz (by lia),?_⟩;refine fJ (λi r V=>∃j y,i<=ws.length/\V=S++[.lst ((ws.take i).map (ddW w ws cs e L)),.lst []]/\r=(nl w e n ws cs S [j,y,Y,Y,Y,Y,Y])) _ 0 _ _ ⟨_,_,by lia,O,O⟩ (λ_ _ _ _=>rfl) ?_ ?_
  ·rintro i d x r P ⟨j,y,hi,rfl,rfl⟩;have z:=(gE1.mp x).1;rw[lM1,dG]at z;rw[bT]at *
   have U:d = .int (i:Nat):=by
    rw[gP1,cO z]at x;exact(Option.some.inj x).symm
   subst U;walk_at"w";unfold kd;obtain⟨u,A⟩:∃u,ws[i]?=some u:=⟨_,gG1 z⟩;have B:=gM1 A;obtain⟨g,aq,_⟩:=h.wk u B;have eu:∀f,d6 (.tup (eK ws)) (.int (i:Nat)) f=Z (fm u,f):=λf=>by
    obtain⟨p,e,h⟩:W (d6 (.tup (eK ws)) (.int (i:Nat)) f) λp=>p=(fm u,f):=gC (by rw[eK,gP1,A];rfl) O;rw[e,h]
   refine eO (λr V=>V=S++[.lst ((ws.take i).map (ddW w ws cs e L)),.lst []]/\r=(nl w e n ws cs S [Z (.int (i:Nat)),Z (.int u.2.2),Y,Y,Y,Y,Y])) ?_ ?_
   ·((try walk_at"w");repeat(simp only[rJ,eu,sE];try walk_at"w"))
   rintro r P ⟨rfl,rfl⟩;unfold fF;rw[ei];refine iY ?_;walk_at"w";refine⟨S.length,_,O,N _ _,?_⟩;have es:W (fg (d4 (mV 7) (d4 (mN (d8 4 fv) (d4 (mV 0) (d4 (mV 1) (d4 (mV 3) (d4 (mV 6) d5))))) d5)) (nl w e n ws cs S [Z (.int (i:Nat)),Z (.int u.2.2),Y,Y,Y,Y,Y]) (S++[.lst ((ws.take i).map (ddW w ws cs e L)),.lst []])) λp=>p=((ky w ws cs u).d e,S++[.lst ((ws.take i).map (ddW w ws cs e L)),.lst []]):=by
    walk_at"w";refine uj A aq (by lia) ?_;walk_at"w";rw[rT aq];rfl
   obtain⟨p,es,rfl⟩:=es;refine IZ (n:=n) (F:=F) (L:=L) (e:=e) (k:=ky w ws cs u) rl (h.ky u B) O (hSn _ _) es O ?_;walk_at"w";refine(lW (N _ _)).mpr ⟨ev (by rw[lM1,aT];lia),?_⟩;refine⟨_,_,by lia,?_,O⟩;rw[st,cH,A,cG];rfl
  ·rintro r P ⟨j,y,hi,rfl,rfl⟩;rw[lM1,dG,bT,cg];exact⟨O,_,_,O,O⟩
 rintro r V ⟨j,y,rfl,rfl⟩;refine eO (λr V=>∃j y E C v s l,V=S++[.lst (ws.map (ddW w ws cs e L)),.lst (eK (ws.map λu=>fj w u (ddW w ws cs e L u)))]/\r=(nl w e n ws cs S [j,y,E,C,v,s,l])) ?_ ?_
 ·unfold hC;rw[ei];refine s0 (xs:=eK ws) (ys:=ws.map (ddW w ws cs e L)) (n:=S.length) O (N _ _) ?_;dsimp only;have wq:u8 (eK ws) (ws.map (ddW w ws cs e L))=ws.map λu=>D.tup [fm u,ddW w ws cs e L u]:=nN ws;rw[wq];refine fJ (λi r V=>∃j y E C v s l,i<=ws.length/\V=(pC w ws cs e L S i)/\r=(nl w e n ws cs S [j,y,E,C,v,s,l])) _ 0 _ _ ⟨_,_,_,_,_,_,_,by lia,O,O⟩ (λ_ _ V ⟨_,_,_,_,_,_,_,_,hv,_⟩=>by rw[hv];exact iy (N _ _)) ?_ ?_
  ·rintro i d x r P ⟨j,y,E,C,v,s,l,hi,rfl,rfl⟩;have z:=(gE1.mp x).1;rw[lM1]at z;rw[bT]at *
   obtain ⟨u,A⟩:∃ u,ws[i]? = some u:=⟨_,gG1 z⟩;have B:=gM1 A;obtain ⟨g,aq,_⟩:=h.wk u B;rw [gP1,A] at x;obtain rfl:d=D.tup [fm u,ddW w ws cs e L u]:=(Option.some.inj x).symm;have hx:=au u B;have I:fj w u (ddW w ws cs e L u)=match dt (ddW w ws cs e L u) with
     |some t=>match g[t]? with
      |some p=>(p.1,p.2+1,dm (ddW w ws cs e L u))
      |none=>(u.1,u.2.1,dm (ddW w ws cs e L u))
     |none=>(u.1,u.2.1,dm (ddW w ws cs e L u)):=by
    unfold fj;rw[aq];rfl
   have eT:(ws.take (i+1)).map (λu=>fj w u (ddW w ws cs e L u))=(ws.take i).map (λu=>fj w u (ddW w ws cs e L u))++[fj w u (ddW w ws cs e L u)]:=by
    rw[cH,A,cG];rfl
   have ex:=hx.eta.1;generalize hX:ddW w ws cs e L u=X at *
   generalize hm:dm X=dmx at *
   generalize hh:dh X=dhx at *
   generalize ht:dt X=dtx at *
   have eu:fm u = .tup [.int u.1,.int u.2.1,.int u.2.2]:=rfl;rw[eu,ex];walk_at"w";unfold kb;have K:∀f,d6 (webD w) (.int (u.1:Nat)) f=Z (.tup (g.map pD),f):=λf=>by
    obtain⟨p,e,h⟩:W (d6 (webD w) (.int (u.1:Nat)) f) λp=>p=(.tup (g.map pD),f):=xT aq O;rw[e,h]
   have lw:((ws.take i).map λu=>fj w u (ddW w ws cs e L u)).length<=8:=by rw[lM1,aT];lia
   have H:∀(a b:Nat) (j:Option D),fj w u X=(a,b,dmx)->W (fF (pL (b2 jZ) (mV 5) (d4 (fg (d4 (mV 8) (d4 (mV 9) (d4 (mV 10) d5)))) d5)) (nl w e n ws cs S [j,Z (.int u.2.2),Z (.int (a:Nat)),Z (.int (b:Nat)),Z (.int (dmx:Nat)),Z (.str dhx),Z (tD dtx)]) (pC w ws cs e L S i)) λq=>q.1 = .nx /\ ∃j y E C v s l,i+1<=ws.length/\q.2.2=(pC w ws cs e L S (i+1))/\q.2.1=(nl w e n ws cs S [j,y,E,C,v,s,l]):=by
    intro a b j T;unfold fF;rw[ei];refine iY ?_;walk_at"w";refine⟨S.length+1,_,O,ao _ _,?_⟩;refine(lW (ao _ _)).mpr ⟨ev (by rw[i0];lia),?_⟩;refine⟨_,_,_,_,_,_,_,by lia,?_,O⟩;unfold pC;rw[st1,eT,T];simp[eK,fm]
   cases dtx with
   |none=>
    dsimp only at I;refine eO (λr V=>V=(pC w ws cs e L S i)/\r=(nl w e n ws cs S [j,Z (.int u.2.2),Z (.int u.1),Z (.int u.2.1),Z (.int (dmx:Nat)),Z (.str dhx),Z (tD Y)])) ?_ ?_
    ·have av:iB (tD Y) .non (pC w ws cs e L S i)=Z (.bl J,(pC w ws cs e L S i)):=rfl
     ((try walk_at"w");repeat(simp only[av];try walk_at"w"))
    rintro r V ⟨rfl,rfl⟩;exact H u.1 u.2.1 j I
   |some t=>
    dsimp only at I;have av:∀f,iB (tD (Z t)) .non f=Z (.bl M,f):=λf=>rfl;have el:∀f,xp (tD (Z t)) (.int (g.length:Nat)) f=Z (.bl (decide ((t:Int)<(g.length:Int))),f):=λf=>rfl;by_cases hl:t<g.length
    ·have eg:=gG1 hl;rw [eg] at I;have R:∀ f,d6 (.tup (g.map pD)) (tD (some t)) f=some (pD g[t],f):=fun f=>by
      obtain⟨p,e,h⟩:W (d6 (.tup (g.map pD)) (.int (t:Nat)) f) λp=>p=(pD g[t],f):=gC (by rw[gP1,eg];rfl) O;show d6 (.tup (g.map pD)) (.int (t:Nat)) f=_;rw[e,h]
     generalize g[t]=p at *
     refine eO (λr V=>V=(pC w ws cs e L S i)/\r=(nl w e n ws cs S [j,Z (.int u.2.2),Z (.int p.1),Z (.int ((p.2+1:Nat):Int)),Z (.int (dmx:Nat)),Z (.str dhx),Z (tD (Z t))])) ?_ ?_
     ·have p0:∀f,d6 (pD p) (.int 0) f=Z (.int p.1,f):=λf=>rfl;have p1:∀f,d6 (pD p) (.int 1) f=Z (.int p.2,f):=λf=>rfl
      ((try walk_at"w");repeat(simp only[av,K,gj,lM1,el];try walk_at"w"))
      rw[ak (by rw[am];lia)]
      ((try walk_at"w");repeat(simp only[K,R,p0,p1];try walk_at"w"))
      rw[show(1:Int)+(p.2:Int)=((p.2+1:Nat):Int) by lia]
     rintro r V ⟨rfl,rfl⟩;exact H p.1 (p.2+1) j I
    ·rw[b8 (by lia)]at I;refine eO (λr V=>V=(pC w ws cs e L S i)/\r=(nl w e n ws cs S [j,Z (.int u.2.2),Z (.int u.1),Z (.int u.2.1),Z (.int (dmx:Nat)),Z (.str dhx),Z (tD (Z t))])) ?_ ?_
     ·((try walk_at"w");repeat(simp only[av,K,gj,lM1,el];try walk_at"w"))
      rw[aj (by rw[am];lia)];trivial
     rintro r V ⟨rfl,rfl⟩;exact H u.1 u.2.1 j I
  ·rintro r P ⟨j,y,E,C,v,s,l,hi,rfl,rfl⟩;unfold pC;rw[lM1,bT,cg];exact⟨O,_,_,_,_,_,_,_,O,O⟩
 rintro r V ⟨j,y,E,C,v,s,l,rfl,rfl⟩;walk_at"w";refine eL (ao _ _) ?_;refine y7 (dd:=ddW w ws cs e L) h.web.len h.m8 au h.few (N _ _) ?_ ?_
 ·rw[dJ,bA1,lA1];rw[bI]at G;refine⟨bI.mpr λo ho=>iP (bB _ _) (G o ho),?_⟩;rw[bV,bV,Ob.und,Ob.und,gD (kJ _),Mi.eW λu A=>gb (au u A).und];rfl
 walk_at"w";have R:D.tup [.tup (eK (ws.map λu=>fj w u (ddW w ws cs e L u))),.tup (eR (eM m ws (ddW w ws cs e L) cs))]=uS m w ws cs e L:=rfl;rw[R,sL (d:=uS m w ws cs e L) gn G (bE _ _)];exact q
noncomputable def nU:List D:=[.non,.int 0,.int 1,.int 2,.int 3,.int 0,.int 1]
theorem yc:∀x∈nU,x∈mI:=by
 intro x a;simp only[nU,aG,bR,or_false]at a;rcases a with e|e|e|e|e|e|e<;>subst e<;>simp[mI]
theorem G8{o:Ob}{n:Nat}{T:Sto}{Q:D×Sto->Prop}(ho:gp o n)(hn:n<=2^45)(e:T.all (Ob.und (T.length+1))=M)(q:∀x o',fN x->gp o' (n+5)->Q (x,o'::T)):W (d8 1 gQ [.ref 0] (o::T)) Q:=by
 refine uQ O O e ?_;unfold gQ;refine mx ?_;unfold nh;walk_at"w";refine fP ho (by lia) (by lia) (by lia) λm f b g=>?_;walk_at"w";refine fP b (by lia) (by lia) (by lia) λy d a h=>?_;refine gC (i:=y) (xs:=nU) (x:=nU[y]'(by show y<7;lia)) (gG1 _) ?_;have c:fN (.tup [.int (m:Nat),.str "leave",nU[y]'(by show y<7;lia)]):=⟨m,_,_,O,by lia,by simp[mY],yc _ (bY _)⟩;exact⟨_,d,[],by rw[aP],c.und,a.und,q _ d c (a.more (by lia))⟩
structure RN (e:E4)(F:List (TK×D)):Prop where
 row:∀p∈F,∃k:Ky,k.Ok/\p.1=k.tk e/\(fN p.2\/p.2 = .non)
 nd:(F.map (·.1)).Nodup
theorem RN.nil{e:E4}:RN e []:=⟨λp a=>(by cases a),bw⟩
theorem RN.vu{e:E4}{F:List (TK×D)}(h:RN e F){p:TK×D}(hp:p∈F)(n:Nat):p.2.und n=M:=by
 obtain⟨_,_,_,a⟩:=h.row p hp;rcases a with a|a
 ·exact gb a.und
 ·rw[a];rfl
theorem RN.und{e:E4}{F:List (TK×D)}(h:RN e F)(n:Nat):(dO F).und n=M:=by
 have:D.unds n (F.map (·.2))=M:=Mi.eW λp a=>h.vu a n;cases F with
 |nil=>rfl
 |cons _ _=>exact this
theorem RN.put{e:E4}{F:List (TK×D)}{k:Ky}{x:D}(h:RN e F)(hk:k.Ok)(hx:fN x\/x = .non):RN e (fB F (k.tk e) x):=by
 unfold fB;split
 ·refine⟨λp c=>?_,?_⟩
  ·obtain⟨g,d,rfl⟩:=cj.mp c;obtain⟨l,h1,h2,m⟩:=h.row g d;by_cases z:g.1=k.tk e
   ·rw[ak z];exact⟨l,h1,h2,hx⟩
   ·rw[aj z];exact⟨l,h1,h2,m⟩
  ·rw [bD];have:(F.map ((fun p:TK×D=>p.1)∘fun p=>if p.1=k.tk e then (p.1,x) else p))=F.map (·.1):=by
    apply dk;intro p _;simp only[Function.comp];split<;>rfl
   rw[this];exact h.nd
 ·rename_i i;refine⟨λp c=>?_,?_⟩
  ·rcases aH.mp c with z|z
   ·exact h.row p z
   ·simp at z;subst z;exact⟨k,hk,O,hx⟩
  ·rw[cG,bG];refine⟨h.nd,by simp,λa n b f z=>?_⟩;simp at f;subst f;subst z;obtain⟨p,c,j⟩:=cj.mp n;exact i (bX.mpr ⟨p,c,ah j⟩)
theorem F9{S:Sto}{n:Nat}{F:List (TK×D)}{d:D}{k:TK}(h:S[n]?=Z (dO F))(hk:keyT d=Z k):jX d (.ref n) S=Z (.bl (!(ej F k).isSome),S):=by
 cases F with
 |nil=>
  have h':S[n]?=Z (.dct []):=h;simp only[jX,h',hk];rfl
 |cons p F=>
  have h':S[n]?=Z (.dcT (p::F)):=h;simp only[jX,fZ,h',hk,oP1]
theorem gc_same{n:Nat}{p:D×Sto}(h:p.2.length=n):gc n p=p:=by
 unfold gc;rw[<- h,cg];split<;>rfl
def Sub(F F':List (TK×D)):Prop:=∀k d,ej F k=Z d->ej F' k=Z d
theorem Sub.refl(F:List (TK×D)):Sub F F:=λ_ _ h=>h
theorem Sub.trans{F G ao:List (TK×D)}(a:Sub F G)(b:Sub G ao):Sub F ao:=λk d h=>b k d (a k d h)
theorem Sub.put{F a:List (TK×D)}{k:TK}{v:D}(s:Sub F a)(h:(ej F k).isSome=J):Sub F (fB a k v):=λb d e=>by
 rw[ul];split
 ·rename_i z;subst z;rw[e]at h;cases h
 ·exact s b d e
theorem Cu{F:List (TK×D)}{k:TK}{a b:D}:fB (fB F k a) k b=fB F k b:=by
 by_cases h:(F.any λp=>decide (p.1=k))=M
 ·have h2:((F.map fun p=>if p.1=k then (p.1,a) else p).any fun p=>decide (p.1=k))=true:=by
   obtain⟨p,c,e⟩:=bX.mp h;have e:=of_decide_eq_true e;exact bX.mpr ⟨(p.1,a),cj.mpr ⟨p,c,by rw[ak e]⟩,ah e⟩
  unfold fB;rw[ak h,ak h2,ak h,bD];apply dk;intro p _;simp only[Function.comp];by_cases z:p.1=k
  ·rw[ak z,ak z,ak z]
  ·rw[aj z,aj z]
 ·have h2:((F++[(k,a)]).any fun p=>decide (p.1=k))=true:=bX.mpr ⟨(k,a),mA1 _ (c5.mpr rfl),decide_eq_true rfl⟩;unfold fB;rw [if_neg h,if_neg h,if_pos h2,cG];have e:F.map (fun p=>if p.1=k then (p.1,b) else p)=F:=by
   conv=>rhs;rw[<- List.map_id F]
   apply dk;intro p c;rw[aj λz=>h (bX.mpr ⟨p,c,ah z⟩)];rfl
  rw[e];simp
theorem DF{m:Nat}{w:ee}{ws:List Wk}{cs:List Nat}{e:E4}{F:List (TK×D)}{o:Ob}{n:Nat}{T:Sto}{Q:D×Sto->Prop}(h:ga m w ws cs)(V:RN e F)(hT:T.all (Ob.und 0)=true)(ho:gp o n)(hn:n<=2^40)(hl:F.length<=10000)(q:∀g o',RN e g->g.length<=F.length+ws.length->gp o' (n+100)->Sub F g->(∀u∈ws,(ej g ((ky w ws cs u).tk e)).isSome=true)->Q (.non,o'::dO g::T)):
  W (d8 5 gA [.ref 0,webD w,nv e,.ref 1,ea ws cs] (o::dO F::T)) Q:=by
 refine lO O O ?_;unfold gA;refine mx ?_;unfold lS;have hf:=h.few;have U:∀F,RN e F->(dO F::T).all (Ob.und ((dO F::T).length+1))=M:=λF V=>by
  rw[bV,V.und,Bool.true_and,bI];exact λx hx=>iP (br _) (bI.mp hT x hx)
 ((try walk_at"w");repeat(simp only[rJ,gj,i0];try walk_at"w"))
 rw[iz,Int.toNat_natCast];refine⟨fz (by lia),?_⟩;refine fJ (λi r S=>∃g o' P au,i<=ws.length/\RN e g/\g.length<=F.length+i/\gp o' (n+10*i)/\Sub F g/\(∀j u,j<i->ws[j]?=Z u->(ej g ((ky w ws cs u).tk e)).isSome=M)/\S=o'::dO g::T/\r=[Z (.ref 0),Z (webD w),Z (nv e),Z (.ref 1),Z (ea ws cs),P,au]) _ 0 _ _ ⟨F,o,_,_,by lia,V,by lia,ho,Sub.refl F,λj u aq _=>by lia,O,O⟩ (λ_ _ _ _=>rfl) ?_ ?_
 ·rintro i d C r S ⟨a,y,P,au,hi,f,L,B,b,l,rfl,rfl⟩;have E:=(gE1.mp C).1;rw[lM1,dG]at E;rw[bT]at *
  have R:d = .int (i:Nat):=by
   rw[gP1,cO E]at C;exact(Option.some.inj C).symm
  subst R;walk_at"w";unfold jz;obtain⟨u,G⟩:∃u,ws[i]?=some u:=⟨_,gG1 E⟩;have H:=gM1 G;obtain⟨row,er,_,hmd⟩:=h.wk u H;have hk:=h.ky u H;have eu:∀I,d6 (.tup (eK ws)) (.int (i:Nat)) I=Z (fm u,I):=λI=>by
   obtain⟨p,e,h⟩:W (d6 (.tup (eK ws)) (.int (i:Nat)) I) λp=>p=(fm u,I):=gC (by rw[eK,gP1,G];rfl) O;rw[e,h]
  refine eO (λr S=>S=y::dO a::T/\r=[Z (.ref 0),Z (webD w),Z (nv e),Z (.ref 1),Z (ea ws cs),Z (.int (i:Nat)),Z ((ky w ws cs u).d e)]) ?_ ?_
  ·((try walk_at"w");repeat(simp only[rJ,eu,sE];try walk_at"w"))
   refine uj G er (by lia) ?_;rw[rT er];walk_at"w";rfl
  rintro r S ⟨rfl,rfl⟩;have av:∀(N:List (TK×D)),(∀k d,ej a k=Z d->ej N k=Z d)->(ej N ((ky w ws cs u).tk e)).isSome=M -> ∀j v,j<i+1->ws[j]?=Z v->(ej N ((ky w ws cs v).tk e)).isSome=M:=λN h1 h2 j v aq X=>by
   by_cases z:j=i
   ·subst z;rw[G]at X;cases X;exact h2
   ·obtain⟨d,hd⟩:=aS.mp (l j v (by lia) X);rw[h1 _ _ hd];rfl
  have A:=F9 (S:=y::dO a::T) (n:=1) (F:=a) O ((ky w ws cs u).keyT e);cases hin:(ej a ((ky w ws cs u).tk e)).isSome with
  |true=>
   rw[hin]at A
   ((try walk_at"w");repeat(simp only[A];try walk_at"w"))
   exact⟨a,y,_,_,by lia,f,by lia,B.more (by lia),b,av a (λ_ _ h=>h) hin,O,O⟩
  |false=>
   rw[hin]at A;have s1:=HZ (e:=e) (F:=a) (k:=ky w ws cs u) (x:=.non) (n:=1) (S:=y::dO a::T) O (by lia);have K:=f.put hk (x:=.non) (.inr O);have l2:(fB a ((ky w ws cs u).tk e) D.non).length<=a.length+1:=wH;have s:∀x,(ej (fB a ((ky w ws cs u).tk e) x) ((ky w ws cs u).tk e)).isSome=M:=λx=>by rw[ul,ak O];rfl
   have c:∀x,Sub a (fB a ((ky w ws cs u).tk e) x):=λx=>(Sub.refl a).put hin
   ((try walk_at"w");repeat(simp only[A,s1];try walk_at"w"))
   refine fP B (by lia) (by lia) (by lia) λt o2 ao ht=>?_;walk_at"w";split
   ·refine G8 ao (by lia) (U _ K) λx o3 hx wq=>?_;have s2:=HZ (e:=e) (F:=fB a ((ky w ws cs u).tk e) .non) (k:=ky w ws cs u) (x:=x) (n:=1) (S:=o3::dO (fB a ((ky w ws cs u).tk e) .non)::T) O (by lia)
    ((try walk_at"w");repeat(simp only[s2];try walk_at"w"))
    have e2:fB (fB a ((ky w ws cs u).tk e) .non) ((ky w ws cs u).tk e) x=fB a ((ky w ws cs u).tk e) x:=Cu;rw[e2];have l3:(fB a ((ky w ws cs u).tk e) x).length<=a.length+1:=wH;exact⟨_,o3,_,_,by lia,f.put hk (.inl hx),by lia,wq.more (by lia),b.trans (c x),av _ (c x) (s x),O,O⟩
   ·exact⟨_,o2,_,_,by lia,K,by lia,ao.more (by lia),b.trans (c .non),av _ (c .non) (s .non),O,O⟩
 ·rintro r S ⟨a,y,P,au,hi,f,L,B,b,l,rfl,rfl⟩;rw[lM1,dG,bT]at *
  have e1:gc (T.length+2) (D.non,y::dO a::T)=(D.non,y::dO a::T):=gc_same O;show Q (gc (T.length+2) (D.non,y::dO a::T));rw[e1];exact q a y f L (B.more (by lia)) b λu G=>by
   obtain⟨j,aq⟩:=bA G;exact l j u (gE1.mp aq).1 aq
noncomputable def isT:D->Bool
 | .tup _=>M
 |_=>J
def dv(d:D):Option D:=if isT d=M then Z d else Y
def gW(F:List (TK×D)):List (TK×D):=F.filter λp=>isT p.2
def wI(p:TK×D):D:=.tup [Mi.tkD p.1,p.2]
theorem fN.isT{x:D}(h:fN x):isT x=M:=by
 obtain⟨_,_,_,rfl,_⟩:=h.is;rfl
theorem lz{e:E4}{F:List (TK×D)}(h:RN e F):RW e (gW F):=by
 refine⟨λp b=>?_,List.Sublist.nodup (List.Sublist.map _ List.filter_sublist) h.nd⟩;obtain⟨h1,h2⟩:=aB.mp b;obtain⟨k,c,d,a⟩:=h.row p h1;rcases a with a|a
 ·exact⟨k,c,d,a⟩
 ·rw[a]at h2;cases h2
theorem live_len(F:List (TK×D)):(gW F).length<=F.length:=dB _ _
theorem qu:∀{F:List (TK×D)} (k:TK),(F.map (·.1)).Nodup->ej (gW F) k=(ej F k).bind dv
 |[],_,_=>rfl
 |(a,d)::F,k,nd=>by
  rw[mP1,aQ]at nd;have ih:=qu (F:=F) k nd.2;unfold gW at ih ⊢;rw[dq,fr];by_cases z:a=k
  ·have c:ej F k=none:=mj (by
    rw[Bool.eq_false_iff];intro y;obtain⟨p,b,e⟩:=bX.mp y;exact nd.1 (cj.mpr ⟨p,b,(of_decide_eq_true e).trans z.symm⟩))
   rw[c]at ih;rw[ak z];cases hd:isT d with
   |true=>rw[ak O,fr,ak z];simp[dv,hd]
   |false=>rw[aj (by simp),ih];simp[dv,hd]
  ·rw[aj z];cases hd:isT d with
   |true=>rw[ak O,fr,aj z,ih]
   |false=>rw[aj (by simp),ih]
theorem xt:∀(ps acc:List (TK×D)),((acc++ps).map (·.1)).Nodup->ps.foldl (λF p=>fB F p.1 p.2) acc=acc++ps
 |[],acc,_=>by simp
 |p::ps,acc,nd=>by
  have e:fB acc p.1 p.2=acc++[p]:=by
   unfold fB;rw[aj];intro y;obtain⟨q,a,e⟩:=bX.mp y;rw[cG,bG]at nd;exact nd.2.2 _ (cj.mpr ⟨q,a,O⟩) _ (cj.mpr ⟨p,mS1,O⟩) (of_decide_eq_true e)
  rw[bd,e,xt ps (acc++[p]) (by rw[bc];exact nd),bc];rfl
theorem ql:∀{F:List (TK×D)},(∀p∈F,Mi.keyT (Mi.tkD p.1)=Z p.1)->jx (F.map wI)=Z F
 |[],_=>rfl
 |p::F,h=>by
  rw[mP1,jx,ql λq a=>h q (mC1 _ a)];have:=h p mS1;simp only[wI,wQ,this,oP1,oS1]
theorem RN.key{e:E4}{F:List (TK×D)}(h:RN e F){p:TK×D}(hp:p∈F):Mi.keyT (Mi.tkD p.1)=Z p.1:=by
 obtain⟨k,_,h2,_⟩:=h.row p hp;rw[h2,k.tkD,k.keyT e]
theorem G9(F:List (TK×D)):Ll F=dO F:=by cases F<;>rfl
theorem CB{e:E4}{F:List (TK×D)}(h:RN e F)(n:Nat):D.unds n ((gW F).map wI)=M:=Mi.eW λp a=>by
 have a:=(aB.mp a).1;unfold wI;simp only[D.und,D.unds,h.vu a,vg,dj]
theorem w5:∀{F:List (TK×D)},(F.map (·.1)).Nodup -> ∀{p:TK×D},p∈F->ej F p.1=Z p.2
|[],_,_,hp=>by cases hp
|y::F,nd,p,hp=>by
 rw[mP1,aQ]at nd;obtain⟨a,b⟩:=y;rw[fr];rcases aG.mp hp with z|z
 ·subst z;rw[ak rfl]
 ·rw[aj (λw=>nd.1 (cj.mpr ⟨p,z,w.symm⟩))];exact w5 nd.2 z
theorem wP{e:E4}{F:List (TK×D)}{n:Nat}{r:Ev}{S:Sto}{Q:D×Sto->Prop}(l:RN e F)(u:F.length<=10000)(d:S[n]? = Z (dO F))(hr:r[5]? = Z (Z (.ref n)))(q:Q (.ref S.length,S++[.lst ((gW F).map wI)])):W (my 1 [5] (mV 5) (gN 0) (mB (m2 (b2 iB) (m2 (b2 d6) (mV 1) (mV 0)) (mC D.non))) (eQ (fg (d4 (mV 0) (d4 (m2 (b2 d6) (mV 1) (mV 0)) d5)))) r S) Q:=by
 have m:=(gE1.mp d).1;have s:mV 5 r S=Z (.ref n,S):=by simp[mV,hr]
 have j:oK 1 [5] r=[Y,Z (.ref n)]:=by simp[oK,hr]
 have c:(S.set n (.dcF F))[n]?=Z (.dcF F):=by rw[aJ m]
 unfold my;rw[s,oS1];dsimp only;have o:A3 (dO F)=Z F:=by cases F<;>rfl
 rw[d,oS1,o,oS1,ei,j];refine gH (f:=λq:TK×D=>Mi.tkD q.1) (λp:TK×D=>isT p.2) wI (λr=>∃z,r=[z,Z (.ref n)]) O F _ ⟨_,O⟩ ?_ λw _=>?_
 ·rintro p b r ⟨z,rfl⟩;have t:d6 (.ref n) (Mi.tkD p.1) (S.set n (.dcF F))=some (p.2,S.set n (.dcF F)):=by
   simp only[d6,c];rw[l.key b,oS1,w5 l.nd b];rfl
  have v:iB p.2 .non (S.set n (.dcF F))=Z (.bl (isT p.2),S.set n (.dcF F)):=by
   obtain⟨k,_,_,a⟩:=l.row p b;rcases a with a|a
   ·obtain⟨_,_,_,z,_⟩:=a.is;rw[z];rfl
   ·rw[a];rfl
  ((try walk_at"w");repeat(simp only[t,v];try walk_at"w"))
  exact⟨⟨_,O⟩,λ_=>⟨O,trivial⟩⟩
 ·dsimp only;have g:=live_len F;rw [if_pos (by rw [lM1];exact aD (aD g u) (by decide)),eN,aX,List.set_set];have:S.set n (dO F)=S:=by
   apply b7;intro i;by_cases h:n=i
   ·subst h;rw[aJ m,d]
   ·rw[gS1 h]
  rw[this];exact q
theorem G4{e:E4}{F:List (TK×D)}{n:Nat}{S:Sto}{Q:D×Sto->Prop}(a:RN e F)(d:F.length<=10000)(c:S[n]?=Z (.lst ((gW F).map wI)))(q:Q (.ref S.length,S++[dO (gW F)])):W (oP (.ref n) S) Q:=by
 refine W.of ?_ q;unfold oP;rw[jR c];dsimp only;rw[ql (F:=gW F) λp b=>a.key (aB.mp b).1,oS1,lM1,ak (aD (live_len F) (by lia))];have:m4 (gW F)=gW F:=by
  unfold m4;rw[xt _ _ (by rw[bg];exact(lz a).nd),bg]
 rw[this,G9]
theorem xj{α:Type}{f:α->D}{c:α->Nat}{a:α}:∀ {zs:List α},(∀ b∈zs,kE [] 51 (f a) (f b)=some (decide (c a<c b)))->(∀ b∈zs,c b≠c a)->zs.Pairwise (fun x y=>c x<c y) ->
  ∃ys:List α,yM (f a) (zs.map f)=ys.map f/\ys.Perm (a::zs)/\ys.Pairwise (λx y=>c x<c y)
 |[],_,_,_=>⟨[a],O,.refl _,by simp⟩
 |b::zs,h,hn,hp=>by
  rw[cf]at hp;rw[mP1,yM];have k:=h b mS1;unfold Kv;rw[k];by_cases z:c a<c b
  ·rw[ah z,ak (show(Z M == Z M)=M from rfl)];refine⟨a::b::zs,O,.refl _,cf.mpr ⟨λy d=>?_,cf.mpr hp⟩⟩;rcases aG.mp d with rfl|d
   ·exact z
   ·exact bq z (hp.1 y d)
  ·rw[ai z,aj (by decide)];obtain⟨ys,e,i,j⟩:=xj (λx g=>h x (mC1 _ g)) (λx g=>hn x (mC1 _ g)) hp.2;refine⟨b::ys,by rw[e];rfl,(i.cons b).trans (.swap _ _ _),cf.mpr ⟨λy d=>?_,j⟩⟩;rcases aG.mp (i.mem_iff.mp d)with rfl|d
   ·have:=hn b mS1;lia
   ·exact hp.1 y d
theorem tJ{α:Type}{f:α->D}{c:α->Nat}:∀ {ks:List α},(∀ a∈ks,∀ b∈ks,kE [] 51 (f a) (f b)=some (decide (c a<c b)))->(ks.map c).Nodup ->
  ∃zs:List α,kP (ks.map f)=zs.map f/\zs.Perm ks/\zs.Pairwise (λx y=>c x<c y)/\mQ (zs.map f)=M
 |[],_,_=>⟨[],O,.refl _,.nil,O⟩
 |a::ks,h,hn=>by
  rw[mP1,aQ]at hn;obtain⟨zs,e,m,q,_⟩:=tJ (ks:=ks) (λx j y k=>h x (mC1 _ j) y (mC1 _ k)) hn.2;obtain⟨ys,p,l,g⟩:=xj (a:=a) (zs:=zs) (λb n=>h a mS1 b (mC1 _ (m.mem_iff.mp n))) (λb n z=>hn.1 (cj.mpr ⟨b,m.mem_iff.mp n,z⟩)) q;have i:ys.Perm (a::ks):=l.trans (m.cons a);refine⟨ys,by rw[mP1,kP,e,p],i,g,?_⟩;have k:∀x∈ys,∀y∈ys,kE [] 51 (f x) (f y)=Z (decide (c x<c y)):=λx j y k=>h x (i.mem_iff.mp j) y (i.mem_iff.mp k);clear p l i
  induction ys with
  |nil=>rfl
  |cons y ys ih=>
   rw[cf]at g;rw[mP1,mQ,ih g.2 λx j z s=>k x (mC1 _ j) z (mC1 _ s),bS,bI];intro d r;obtain⟨x,j,rfl⟩:=cj.mp r;unfold qv;have o:=g.1 x j;rw[k y mS1 x (mC1 _ j),k x (mC1 _ j) y mS1,ah o,ai (by lia)];rfl
theorem DV{x:D}{S:Sto}{n:Nat}(h:fN x):gI S (n+3) x x=Z M:=by
 have e:=h.eta.1;generalize dm x=a at e;generalize dh x=b at e;generalize dt x=c at e;subst e;have d:∀i:Int,gI S (n+2) (.int i) (.int i)=Z M:=λi=>by show Z (i == i)=_;simp
 have g:gI S (n+2) (.str b) (.str b)=Z M:=by show Z (b == b)=_;simp
 have f:gI S (n+2) (tD c) (tD c)=Z M:=by
  cases c with
  |none=>rfl
  |some t=>exact d t
 rw[Jg,oT,d,oS1,oT,g,oS1,oT,f,oS1,oT];rfl
theorem Fm{e:E4}{p q:Rw}(hp:iJ p)(a:iJ q)(h:p.1.code e=q.1.code e->p=q):kE [] 51 (fX e p) (fX e q)=Z (decide (p.1.code e<q.1.code e)):=by
 unfold fX;rw[Ku,pM,Ky.eq (n:=47) hp.1 a.1,oS1];by_cases z:p.1.code e=q.1.code e
 ·rw[ak (ah z),pM];have:=h z;subst this;rw[DV (n:=47) hp.2,oS1,ak O,pM];simp
 ·rw[aj (by rw[am];exact z),Ky.lt (n:=47) hp.1 a.1]
theorem pl_tk:∀k:TK,pl (Mi.tkD k)=M:=λk=>k.rec (motive_1:=λk=>pl (Mi.tkD k)=M) (motive_2:=λks=>nF (Mi.iE ks)=M) O (λ_=>rfl) (λ_ ih=>by rw[Mi.tkD,pl];exact ih) O (λ_ _ a b=>by rw[Mi.iE,nF,a,b];rfl)
theorem CD{x:D}(h:fN x):pl x=M:=by
 have e:=h.eta.1;generalize dm x=a at e;generalize dh x=b at e;generalize dt x=c at e;subst e;cases c<;>rfl
theorem wJ{α:Type}{f:α->D}:∀{l:List α},(∀x∈l,pl (f x)=M)->nF (l.map f)=M
 |[],_=>rfl
 |x::l,h=>by rw[mP1,nF,h x mS1,wJ λy a=>h y (mC1 _ a)];rfl
theorem vO{e:E4}:∀L:List Rw,∃f,oM (L.map (fX e))=Z f
 |[]=>⟨_,O⟩
 |p::L=>by
  refine⟨J,?_⟩;have a:∀q:Rw,jE (fX e q)=Z J:=λq=>rfl;rw[mP1,oM,a];dsimp only;rw[ak];rw[bI];intro d b;obtain⟨q,_,rfl⟩:=cj.mp b;rw[a];rfl
theorem nW{e:E4}{F:List (TK×D)}(h:RW e F)(C:F.length<=4000):
  ∃L:List Rw,RL e F L /\ ∀(n:Nat) (S:Sto),S[n]?=Z (.lst (F.map wI))->oN (.ref n) S=Z (.ref S.length,S++[.lst (L.map (fX e))]):=by
 obtain⟨d,l,ok⟩:=RW.list h.row;have q:∀p∈d,p.1.Ok:=λp g=>(ok p g).1;have nd:(d.map λp=>p.1.code e).Nodup:=by
  have:=h.nd;rw[<- l,bD]at this;refine(dw.mpr ((dw.mp this).imp_of_mem λ{a b} j i o z=>?_));exact o ((wu (q a j) (q b i)).mpr z)
 have inj:∀a∈d,∀b∈d,a.1.code e=b.1.code e->a=b:=λa j b i z=>by
  have A:=(iV (f:=λp:Rw=>p.1.code e) (c:=b.1.code e) (a:=a) nd).mpr ⟨j,z⟩;have r:=(iV (f:=λp:Rw=>p.1.code e) (c:=b.1.code e) (a:=b) nd).mpr ⟨i,O⟩;rw[A]at r;exact Option.some.inj r
 obtain⟨L,v,m,y,u⟩:=tJ (f:=fX e) (c:=λp:Rw=>p.1.code e) (ks:=d) (λa j b i=>Fm (ok a j) (ok b i) (inj a j b i)) nd;have x:d.length=F.length:=by rw[<- l,lM1]
 have B:∀k:Ky,k.Ok->ej F (k.tk e)=(L.find? λp=>decide (p.1.code e=k.code e)).map (·.2):=λk t=>by
  have a1:ej F (k.tk e)=(d.find? λp=>decide (p.1.code e=k.code e)).map (·.2):=by
   rw[<- l];unfold ej;rw[List.find?_map,Option.map_map];have:(d.find? ((λp:TK×D=>decide (p.1=k.tk e))∘λp:Rw=>(p.1.tk e,p.2)))=d.find? λp=>decide (p.1.code e=k.code e):=by
    apply oS;intro p g;simp only[Function.comp];rw[bW,am,am];exact wu (q p g) t
   rw[this];rfl
  rw[a1,yS (f:=λp:Rw=>p.1.code e) m nd]
 refine⟨L,⟨y,λp g=>ok p (m.mem_iff.mp g),by rw[m.length_eq];lia,B⟩,λn S s=>?_⟩;have ep:F.map wI=d.map (fX e):=by
  rw[<- l,bD];apply dk;intro p _;show D.tup [Mi.tkD (p.1.tk e),p.2]=_;rw[p.1.tkD];rfl
 rw[ep]at s;obtain⟨f,w⟩:=vO (e:=e) d;unfold oN;rw[jR s];dsimp only;have g:nF (d.map (fX e))=M:=wJ λp g=>by
  unfold fX;rw[pl,nF,nF,nF,CD (ok p g).2,<- p.1.tkD e,pl_tk];rfl
 rw[w,oS1,v,ak (by rw[g,u,lM1,ah (by lia)];rfl)]
def yW(e:E4)(F:List (TK×D))(k:Ky):D:=((ej F (k.tk e)).bind dv).getD (pS k)
theorem RL.due{e:E4}{F:List (TK×D)}{L:List Rw}(b:RL e (gW F) L)(a:RN e F){k:Ky}(hk:k.Ok):jj e L k=yW e F k:=by
 unfold jj yW;rw[<- b.lk k hk,qu _ a.nd]
theorem A0{F:List (TK×D)}{k:TK}{d:D}(h:ej F k=Z d):(k,d)∈F:=by
 unfold ej at h;obtain⟨p,f,e⟩:=oM1.mp h;have c:=List.find?_some f;have g:=List.mem_of_find?_eq_some f;obtain⟨a,b⟩:=p;have c:=of_decide_eq_true c;dsimp only at e c;subst e;subst c;exact g
theorem xC{e:E4}{F:List (TK×D)}(c:RN e F){k:Ky}(hk:k.Ok):fN (yW e F k):=by
 have b:fN (pS k):=⟨k.m,_,_,O,hk.m,by simp[mY],by simp[mI]⟩;unfold yW;cases h:ej F (k.tk e)with
 |none=>exact b
 |some d=>
  obtain⟨_,_,_,a⟩:=c.row _ (A0 h);rcases a with a|a
  ·rw[oS1,dv,ak a.isT];exact a
  ·dsimp only at a;rw[a];exact b
abbrev Wh:=List Wk×List Nat
def whD(a:Wh):D:=ea a.1 a.2
def EF(w:ee)(e:E4)(F:List (TK×D))(a:Wh)(u:Wk):D:=yW e F (ky w a.1 a.2 u)
def jt(m:Nat)(w:ee)(e:E4)(F:List (TK×D))(a:Wh):Wh:=(a.1.map λu=>fj w u (EF w e F a u),eM m a.1 (EF w e F a) a.2)
theorem rF{α:Type}{p q:α->Bool}:∀{l:List α},(∀x∈l,p x=q x)->l.any p=l.any q
 |[],_=>rfl
 |x::l,h=>by rw[bm,bm,h x mS1,rF λy a=>h y (mC1 _ a)]
theorem sT{m:Nat}{ws:List Wk}{f g:Wk->D}{cs:List Nat}(h:∀u∈ws,f u=g u):eM m ws f cs=eM m ws g cs:=by
 have:∀s r,jo ws f s r=jo ws g s r:=λs r=>rF λu a=>by rw[h u a]
 unfold eM;simp only[this]
theorem nV{m:Nat}{w:ee}{ws:List Wk}{f g:Wk->D}{cs:List Nat}(h:∀u∈ws,f u=g u):((ws.map λu=>fj w u (f u),eM m ws f cs):Wh)=(ws.map λu=>fj w u (g u),eM m ws g cs):=by
 rw[sT h]
 congr 1
 apply dk;intro u a;rw[h u a]
theorem BM{m:Nat}{w:ee}{e:E4}{F:List (TK×D)}{L:List Rw}{a:Wh}(h:ga m w a.1 a.2)(d:RL e (gW F) L)(c:RN e F):uS m w a.1 a.2 e L=whD (jt m w e F a):=by
 have:=nV (m:=m) (w:=w) (ws:=a.1) (cs:=a.2) (f:=ddW w a.1 a.2 e L) (g:=EF w e F a) λu b=>d.due c (h.ky u b);unfold uS whD jt;rw[<- this]
theorem ye{m:Nat}{w:ee}{e:E4}{F b:List (TK×D)}{a:Wh}(s:Sub F b)(h:∀u∈a.1,(ej F ((ky w a.1 a.2 u).tk e)).isSome=M):jt m w e b a=jt m w e F a:=by
 refine nV λu f=>?_;obtain⟨d,c⟩:=aS.mp (h u f);unfold EF yW;rw[c,s _ _ c]
theorem y9{m:Nat}{ws:List Wk}{f:Wk->D}{cs:List Nat}(hm:m<=8):(eM m ws f cs).length<=8 /\ ∀r∈eM m ws f cs,r<m:=by
 unfold eM;refine⟨?_,λr a=>aC.mp (aB.mp a).1⟩;refine aD (dB _ _) ?_;rw[dG];exact hm
theorem tG{m:Nat}{w:ee}{ws:List Wk}{cs:List Nat}(h:ga m w ws cs){u:Wk}(d:u∈ws){x:D}(hx:fN x):∃a,w[(fj w u x).1]?=Z a/\(fj w u x).2.1<=a.length/\(fj w u x).2.2<4000:=by
 have c:=hx.eta.2;obtain⟨a,b,h1,h2⟩:=h.wk u d;unfold fj;rw[b];have base:∃a,w[(u.1,u.2.1,dm x).1]?=Z a/\(u.1,u.2.1,dm x).2.1<=a.length/\(u.1,u.2.1,dm x).2.2<4000:=⟨a,b,h1,c⟩;cases dt x with
 |none=>exact base
 |some t=>
  dsimp only[oS1];cases ep:a[t]? with
  |none=>exact base
  |some p=>
   obtain⟨r,e,f⟩:=h.web.to a (gM1 b) p (gM1 ep);exact⟨r,e,f,c⟩
theorem ga.step{m:Nat}{w:ee}{e:E4}{F:List (TK×D)}{a:Wh}(h:ga m w a.1 a.2)(c:RN e F):ga m w (jt m w e F a).1 (jt m w e F a).2:=by
 have hc:=y9 (m:=m) (ws:=a.1) (f:=EF w e F a) (cs:=a.2) h.m8;refine⟨h.web,h.m8,by show(a.1.map _).length<=8;rw[lM1];exact h.few,hc.1,λv d=>?_,hc.2⟩;obtain⟨u,b,rfl⟩:=cj.mp d;exact tG h b (xC c (h.ky u b))
theorem rK(a:Wh)(n:Nat):(whD a).und n=M:=gb gn
theorem nD(b:List Wh)(n:Nat):D.unds n (b.map whD)=M:=Mi.eW λa _=>rK a n
structure pV (m:Nat)(w:ee)(e:E4)(F:List (TK×D))(k:Nat)(Ws:List Wh):Prop where
 ok:∀a∈Ws,ga m w a.1 a.2/\a.1.length=k
 nx:∀(j:Nat) (a b:Wh),Ws[j]?=some a->Ws[j+1]?=some b->b=jt m w e F a /\ ∀u∈a.1,(ej F ((ky w a.1 a.2 u).tk e)).isSome=true
theorem pV.more{m:Nat}{w:ee}{e:E4}{F i:List (TK×D)}{k:Nat}{g:List Wh}{a:Wh}(h:pV m w e F k g)(s:Sub F i)(l:RN e i)(n:g[g.length-1]?=Z a)(ha:∀u∈a.1,(ej i ((ky w a.1 a.2 u).tk e)).isSome=M):pV m w e i k (g++[jt m w e i a]):=by
 have t:=(gE1.mp n).1;have o:=gM1 n;refine⟨λb f=>?_,λj b c f hc=>?_⟩
 ·rcases aH.mp f with f|f
  ·exact h.ok b f
  ·rw[c5.mp f];exact⟨(h.ok a o).1.step l,by show(a.1.map _).length=k;rw[lM1];exact(h.ok a o).2⟩
 ·by_cases z:j+1<g.length
  ·rw[gL1 (by lia)]at f;rw[gL1 z]at hc;obtain⟨h1,h2⟩:=h.nx j b c f hc;refine⟨by rw[ye s h2];exact h1,λu p=>?_⟩;obtain⟨d,r⟩:=aS.mp (h2 u p);rw[s _ _ r];rfl
  ·have q:j+1=g.length:=by
    have:=(gE1.mp hc).1;rw[lA1,bf]at this;lia
   rw[gL1 (by lia),show j=g.length-1 by lia,n]at f;rw[gR1 (by lia),q,cS]at hc;cases f;have:jt m w e i a=c:=by simpa using hc
   exact⟨this.symm,ha⟩
structure v8 (m:Nat)(rs cs:List Nat):Prop where
 few:rs.length<=8
 cl:cs.length<=8
 rs:∀r∈rs,r<m
 cs:∀r∈cs,r<m
def standD(rs cs:List Nat):D:=.tup [.tup (eR rs),.tup (eR cs)]
noncomputable def fb(rs cs:List Nat):Wh:=(rs.map λr=>(r,0,0),cs)
theorem sX{m:Nat}{w:ee}{rs cs:List Nat}(hw:lU m w)(hm:m<=8)(h:v8 m rs cs):ga m w (fb rs cs).1 (fb rs cs).2:=by
 refine⟨hw,hm,by show(rs.map _).length<=8;rw[lM1];exact h.few,h.cl,λu a=>?_,h.cs⟩;obtain⟨r,b,rfl⟩:=cj.mp a;exact⟨_,gG1 (by rw[hw.len];exact h.rs r b),br _,by show 0<4000;decide⟩
theorem iK(rs cs:List Nat)(n:Nat):(standD rs cs).und n=M:=gb (by simp[standD,D.und,D.unds,kw])
theorem E9{rs cs:List Nat}{S:Sto}:d6 (standD rs cs) (.int 0) S=Z (.tup (eR rs),S):=rfl
theorem E8{rs cs:List Nat}{S:Sto}:d6 (standD rs cs) (.int 1) S=Z (.tup (eR cs),S):=rfl
theorem xK{rs:List Nat}{S:Sto}{c:Option D}{Q:List D×Ev×Sto->Prop}(h:∀ b,Q (eK (fb rs []).1,b,S)):
  W (gh [] (gN 0) gU (eQ (fg (d4 (mV 0) (d4 (mC (D.int 0)) (d4 (mC (D.int 0)) d5))))) (eR rs) [c] S) Q:=by
 refine oF (f:=λr:Nat=>D.int r) (λr:Nat=>fm (r,0,0)) (λr=>∃x,r=[x]) O rs _ ⟨_,O⟩ ?_ λb _=>?_
 ·rintro a d r ⟨x,rfl⟩;walk_at"w";exact⟨O,_,O⟩
 ·have e:(rs.map λr:Nat=>fm (r,0,0))=eK (fb rs []).1:=by unfold eK fb;rw[bD];rfl
  rw[e];exact h b
theorem D8{rs cs:List Nat}{S:Sto}{Q:D×Sto->Prop}(c:rs.length<=1000)(q:Q (whD (fb rs cs),S)):W (d8 1 ln [standD rs cs] S) Q:=by
 refine m6 O (by rw[D.unds,iK];rfl) ?_;unfold ln;refine mx ?_;unfold xN;refine eO (λr V=>V=[]/\r=[Z (standD rs cs),Z (.tup (eR rs)),Z (.tup (eR cs))]) ?_ ?_
 ·unfold standD;walk_at"w"
 rintro r V ⟨rfl,rfl⟩;walk_at"w";rw[hK];refine xK λb=>?_;have a:(eK (fb rs []).1).length=rs.length:=by rw[i0];exact lM1 _
 walk_at"w";refine⟨ev (by rw[a];lia),?_⟩;refine eL (xs:=eK (fb rs []).1) O ?_;exact⟨rK (fb rs cs) 0,q⟩
theorem Ed{g:G1}{m:FE}{r:Ev}{S:Sto}{Q:D×Sto->Prop}(h:W (m r S) λp=>W (g p.1 p.2) Q):W (mN (b1 g) (d4 m d5) r S) Q:=by
 obtain⟨p,e,h⟩:=h;unfold mN d4 d5;rw[e];exact h
theorem BW{a:FE}{b:FA}{r:Ev}{S:Sto}{Q:List D×Sto->Prop}(h:W (a r S) λp=>W (b r p.2) λq=>Q (p.1::q.1,q.2)):W (d4 a b r S) Q:=by
 obtain⟨p,e,q,c,h⟩:=h;unfold d4;rw[e,oS1,c];exact⟨_,O,h⟩
theorem Hi{S:Sto}(h:S.all (Ob.und 0)=M)(n:Nat):S.all (Ob.und n)=M:=by
 rw[bI]at h ⊢;exact λx a=>iP (br _) (h x a)
theorem mf{e:E4}{F:List (TK×D)}(h:RN e F)(n:Nat):(Ob.lst ((gW F).map wI)).und n=M:=by rw[Ob.und];exact CB h n
theorem DT{m:Nat}{w:ee}{e:E4}{rs cs:List Nat}{o:Ob}{n b:Nat}{Q:D×Sto->Prop}(hw:lU m w)(hm:m<=8)(hst:v8 m rs cs)(ho:gp o n)(hn:n<=2^35)(hb:b<=400)(hlim:b*rs.length<=3000)(q:∀F L c o' G,RN e F->RL e (gW F) L->pV m w e F rs.length c->c.length=b+1->c[0]?=some (fb rs cs)->gp o' (n+100*b)->G.all (Ob.und 0)=true->G[2]?=some (.lst (c.map whD))->Q (.tup [mcD e L,.ref 3],o'::G)):
  W (d8 5 e6 [.ref 0,webD w,nv e,standD rs cs,.int b] [o]) Q:=by
 refine lO O O ?_;unfold e6;refine mx ?_;unfold iD;have R:(eK (fb rs []).1).length=rs.length:=by rw[i0];exact lM1 _
 have hfew:=hst.few;refine eO (λr S=>r=[Z (.ref 0),Z (webD w),Z (nv e),Z (standD rs cs),Z (.int (b:Nat)),Z (.ref 1),Z (.ref 3),Y,Y,Y]/\S=[o,.dct [],.lst (eK (fb rs []).1),.lst [whD (fb rs cs)]]) ?_ ?_
 ·((try walk_at"w");repeat(simp only[AV,E9,E8];try walk_at"w"))
  rw[hK];refine xK λr'=>?_;walk_at"w";refine⟨ev (by rw[R];lia),?_⟩;refine eL (xs:=eK (fb rs []).1) O ?_
  first|rfl|exact⟨rfl,rfl⟩
 rintro r S ⟨rfl,rfl⟩;refine eO (λr S=>∃F c o' G z v,RN e F/\F.length<=3000/\gp o' (n+100*b)/\pV m w e F rs.length c/\c.length=b+1/\c[0]?=Z (fb rs cs)/\G.all (Ob.und 0)=M/\S=o'::dO F :: .lst (eK (fb rs []).1) :: .lst (c.map whD)::G/\r=[Z (.ref 0),Z (webD w),Z (nv e),Z (standD rs cs),Z (.int (b:Nat)),Z (.ref 1),Z (.ref 3),z,v,Y]) ?_ ?_
 ·walk_at"w";rw[iz,Int.toNat_natCast];refine⟨fz (by lia),?_⟩;refine fJ (λi r S=>∃F c o' G z v,i<=b/\RN e F/\F.length<=i*rs.length/\gp o' (n+100*i)/\pV m w e F rs.length c/\c.length=i+1/\c[0]?=Z (fb rs cs)/\G.all (Ob.und 0)=M/\S=o'::dO F :: .lst (eK (fb rs []).1) :: .lst (c.map whD)::G/\r=[Z (.ref 0),Z (webD w),Z (nv e),Z (standD rs cs),Z (.int (b:Nat)),Z (.ref 1),Z (.ref 3),z,v,Y]) _ 0 _ _ ?_ (λ_ _ _ _=>rfl) ?_ ?_
  ·refine⟨[],[fb rs cs],o,[],Y,Y,br _,RN.nil,br _,ho,⟨λa K=>?_,λj a b K hb=>?_⟩,O,O,O,O,O⟩
   ·rw[c5.mp K];exact⟨sX hw hm hst,lM1 _⟩
   ·simp at hb
  ·rintro i d H r S ⟨F,c,av,G,z,v,hi,t,au,l,aq,k,p,I,rfl,rfl⟩;have U:=(gE1.mp H).1;rw[lM1,dG]at U;rw[bT]at *
   have hd':d = .int (i:Nat):=by
    rw[gP1,cO U]at H;exact(Option.some.inj H).symm
   subst hd';have hmul:(i+1)*rs.length<=b*rs.length:=dD _ (by lia);have hmul2:(i+1)*rs.length=i*rs.length+rs.length:=by rw[Nat.add_mul,Nat.one_mul]
   obtain⟨a,K⟩:∃a,c[i]?=some a:=⟨_,gG1 (by lia)⟩;have ham:=gM1 K;obtain⟨ao,hal⟩:=aq.ok a ham;have X:(c.map whD)[i]?=Z (whD a):=by rw[gP1,K];rfl
   walk_at"w";unfold g0;have hX:(Ob.lst (eK (fb rs []).1)).und 0=M:=by rw[Ob.und];exact kJ _
   have hY:(Ob.lst (c.map whD)).und 0=M:=by rw[Ob.und];exact nD _ 0
   refine eO (λr S=>∃g B,RN e g/\g.length<=F.length+rs.length/\gp B (n+100*i+100)/\Sub F g/\(∀u∈a.1,(ej g ((ky w a.1 a.2 u).tk e)).isSome=M)/\S=B::dO g :: .lst (eK (fb rs []).1) :: .lst (c.map whD)::G/\r=[Z (.ref 0),Z (webD w),Z (nv e),Z (standD rs cs),Z (.int (b:Nat)),Z (.ref 1),Z (.ref 3),Z (.int (i:Nat)),v,Y]) ?_ ?_
   ·walk_at"w";refine iZ (i:=i) (xs:=c.map whD) (x:=whD a) O X ?_;walk_at"w";refine DF (ws:=a.1) (cs:=a.2) (T:=.lst (eK (fb rs []).1) :: .lst (c.map whD)::G) ao t (by rw[bV,bV,hX,hY,I];rfl) l (by lia) (by lia) λg B f C s A E=>?_;rw[hal]at C;exact⟨g,B,f,C,s,A,E,O,trivial⟩
   rintro r S ⟨g,B,f,C,s,A,E,rfl,rfl⟩;obtain⟨L2',P,_⟩:=nW (lz f) (aD (live_len g) (by lia));generalize h:B::dO g::Ob.lst (eK (fb rs []).1)::Ob.lst (c.map whD)::G=S2;have g1:S2[1]?=Z (dO g):=by rw[<- h];rfl
   have c2:S2.all (Ob.und 0)=M:=by rw[<- h,bV,bV,bV,bV,s.und,f.und,hX,hY,I];rfl
   refine eO (λr S=>S=S2++[.lst ((gW g).map wI),dO (gW g)]/\r=[Z (.ref 0),Z (webD w),Z (nv e),Z (standD rs cs),Z (.int (b:Nat)),Z (.ref 1),Z (.ref 3),Z (.int (i:Nat)),Z (.ref (S2.length+1)),Y]) ?_ ?_
   ·unfold eE;refine ei.mpr (Ed (wP f (by lia) g1 O ?_));refine G4 f (by lia) (by rw[eJ];rfl) ?_;walk_at"w"
   rintro r S ⟨wq,rfl⟩;have g3:S[S2.length+1]?=Z (dO (gW g)):=by rw[wq,fY];rfl
   have g4:S[3]?=Z (.lst (c.map whD)):=by rw[wq,<- h];rfl
   have c3:S.all (Ob.und 0)=M:=by
    rw[wq,dJ,c2,bV,bV,mf f,(lz f).und];rfl
   unfold fF;rw[ei];refine iY ?_;walk_at"w";refine⟨3,c.map whD,O,g4,?_⟩
   try walk_at"w"
   refine iZ (i:=i) (xs:=c.map whD) (x:=whD a) g4 X ?_
   try walk_at"w"
   refine Di (ws:=a.1) (cs:=a.2) ao P g3 (Hi c3 _) ?_;rw[BM ao P f];walk_at"w";refine(lW g4).mpr ⟨ev (by rw[lM1];lia),?_⟩;have y:c[c.length-1]?=Z a:=by rw[k];exact K
   refine⟨g,c++[jt m w e g a],B,G++[.lst ((gW g).map wI),dO (gW g)],_,_,by lia,f,by lia,s.more (by lia),aq.more A f y E,by rw[lA1,k];rfl,?_,?_,?_,O⟩
   ·rw[gL1 (by lia)];exact p
   ·rw[dJ,I,bV,bV,mf f,(lz f).und];rfl
   ·rw[wq,<- h];simp only[bt,db,da,cG,mP1,bh]
  ·rintro r S ⟨F,c,av,G,z,v,hi,t,au,l,aq,k,p,I,rfl,rfl⟩;rw[lM1,dG,bT]at *
   exact⟨O,F,c,av,G,_,_,t,by lia,l,aq,k,p,I,O,O⟩
 rintro r S ⟨F,c,av,G,z,v,t,au,l,aq,k,p,I,rfl,rfl⟩;obtain⟨L,rl,N⟩:=nW (lz t) (aD (live_len F) (by lia));have hX:(Ob.lst (eK (fb rs []).1)).und 0=M:=by rw[Ob.und];exact kJ _
 have hY:(Ob.lst (c.map whD)).und 0=M:=by rw[Ob.und];exact nD _ 0
 generalize h:av::dO F::Ob.lst (eK (fb rs []).1)::Ob.lst (c.map whD)::G=S2;have g1:S2[1]?=Z (dO F):=by rw[<- h];rfl
 refine eO (λr S=>S=S2++[.lst ((gW F).map wI),.lst (L.map (fX e))]/\r=[Z (.ref 0),Z (webD w),Z (nv e),Z (standD rs cs),Z (.int (b:Nat)),Z (.ref 1),Z (.ref 3),z,v,Z (mcD e L)]) ?_ ?_
 ·unfold eE;refine ei.mpr (BR.mpr (BW ?_));refine W.of (x:=(nv e,S2)) O ?_;refine BW (Ed (Ed (wP t (by lia) g1 O ?_)));dsimp only;refine W.of (N S2.length _ (by rw[eJ];rfl)) ?_;dsimp only;refine BV.mpr (eL (xs:=L.map (fX e)) (by rw[eJ];rfl) ?_);refine W.of (x:=([],_)) O ?_;refine⟨Lj,?_⟩;refine W.of (x:=_) O ?_;refine⟨O,?_,O⟩;simp
 rintro r S ⟨rfl,rfl⟩;have ur:=kZ (e:=e) rl.ok 0;simp only[D.und]at ur;have hg:∀V,gc 1 (D.tup [mcD e L,.ref 3],V)=(D.tup [mcD e L,.ref 3],V):=λV=>by
  unfold gc;rw[aj];simp[D.und,D.unds]
 walk_at"w";show Q (gc 1 (D.tup [mcD e L,.ref 3],_));rw[hg,<- h];refine q F L c av (dO F::Ob.lst (eK (fb rs []).1)::Ob.lst (c.map whD)::(G++[.lst ((gW F).map wI),.lst (L.map (fX e))])) t rl aq k p l ?_ O;rw[bV,bV,bV,dJ,t.und,hX,hY,I,bV,bV,mf t,Ob.und,ur];rfl
theorem xU{n k:Nat}{xs:List D}{x:D}{S:Sto}{Q:D×Sto->Prop}(h:S[n]?=Z (.lst xs))(b:xs.length=k+1)(hx:xs[k]?=Z x)(q:Q (x,S)):W (d6 (.ref n) (.int (-1)) S) Q:=by
 refine W.of (x:=(x,S)) ?_ q;simp only[d6,mw,Bh,h,et,u5,xg,oS1];rw[aj (show¬ (0:Int) <= -1 by decide)];have e:((-1:Int)+(xs.length:Int)).toNat=k:=by lia
 have a:((xs.length:Int)+(-1:Int)).toNat=k:=by lia
 rw[ak (by lia)]
 first
  |rw[e,oS1,hx];rfl
  |rw[a,oS1,hx];rfl
  |simp[e,a,hx]
theorem Jv{m:FA}{k:Nat}{r:Ev}{S S1:Sto}{Q:D×Sto->Prop}(hm:m r S=Z ([.int (k:Nat)],S1))(hk:k<=1000)(q:Q (.ref S1.length,S1++[.lst (hU 0 k)])):W (AU m r S) Q:=by
 refine W.of ?_ q;unfold AU;rw[hm,oS1];dsimp only;rw[ak (by
  unfold wF;simp only[bA1,am];lia),Int.toNat_natCast]
theorem zD{c:FT}{b:FS}{Q:Fl×Ev×Sto->Prop}(I:Nat->Ev->Sto->Prop)(step:∀k r S,I k r S->W (c r S) fun p=>if p.1=true then 0<k/\W (b r p.2) fun q=>q.1 = .nx/\I (k-1) q.2.1 q.2.2 else Q (.nx,r,p.2)):
  ∀(a k:Nat) (r:Ev) (S:Sto),k<a->I k r S->W (s9 c b a r S) Q
 |0,k,r,S,hf,_=>by lia
 |a+1,k,r,S,hf,hi=>by
  rw[s9];dsimp only;rw[ei];obtain⟨⟨t,n⟩,e,h⟩:=step k r S hi;refine⟨_,e,?_⟩;dsimp only at h ⊢;cases t with
  |true=>
   rw[ak O]at h ⊢;obtain⟨m,⟨f,i,j⟩,l,d,g⟩:=h;dsimp only at d g;subst d;rw[l,oS1];exact zD I step a (k-1) i j (by lia) g
  |false=>
   rw[aj (by decide)]at h ⊢;exact eN.mpr h
theorem AD(rs:List Nat)(i:Nat):(eR rs).eraseIdx i=eR (rs.eraseIdx i):=by
 unfold eR;simp[cN,List.map_take,List.map_drop]
theorem vm{m most n:Nat}{o:Ob}{T:Sto}{Q:D×Sto->Prop}(hm0:0<m)(hm:m<=8)(R:0<most)(N:most<=8)(ho:gp o n)(hn:n<=2^40)(wq:T.all (Ob.und (T.length+1))=M)(q:∀rs f o',v8 m rs f->f.Sublist (af m)->rs≠[]->rs.length<=most->gp o' (n+100)->Q (standD rs f,o'::T)):W (d8 3 fL [.ref 0,.int m,.int most] (o::T)) Q:=by
 refine uQ O O wq ?_;unfold fL;refine mx ?_;unfold jn;have tl:∀(a b:Ob),(a::(T++[b]))[T.length+1]?=Z b:=λa b=>by rw[gC1,eJ];rfl
 have X:∀(a b c:Ob),(a::(T++[b])).set (T.length+1) c=a::(T++[c]):=λa b c=>by rw[db,c9 _ _ (nR1 _),cS];rfl
 refine eO (λr V=>V=o::(T++[.lst (eR (af m))])/\r=[Z (.ref 0),Z (.int (m:Nat)),Z (.int (most:Nat)),Z (.ref (T.length+1)),Y]) ?_ ?_
 ·unfold eE;rw[ei];refine Jv (k:=m) (S1:=o::T) O (by lia) ?_;rw[iz];exact W.of O ⟨O,O,O⟩
 rintro r V ⟨rfl,rfl⟩;refine eO (λr V=>∃rs o',rs≠[]/\rs.length<=most/\rs.length<=m/\(∀x∈rs,x<m)/\gp o' (n+50)/\V=o'::(T++[.lst (eR rs)])/\r=[Z (.ref 0),Z (.int (m:Nat)),Z (.int (most:Nat)),Z (.ref (T.length+1)),Y]) ?_ ?_
 ·refine zD (λk r V=>∃rs o',rs.length=k+1/\k+1<=m/\(∀x∈rs,x<m)/\gp o' (n+2*(m-(k+1)))/\V=o'::(T++[.lst (eR rs)])/\r=[Z (.ref 0),Z (.int (m:Nat)),Z (.int (most:Nat)),Z (.ref (T.length+1)),Y]) ?_ 100000 (m-1) _ _ (by lia) ⟨af m,o,by rw[dG];lia,by lia,λx L=>aC.mp L,ho.more (by lia),O,O⟩;rintro k r V ⟨rs,aq,F,au,p,A,rfl,rfl⟩;unfold ix;walk_at"w";refine eL (tl aq (.lst (eR rs))) ?_;walk_at"w";refine fP A (by lia) (by lia) (by lia) λt E g av=>?_;walk_at"w";rw[iG,F];by_cases z:1+t<k+1
  ·rw[ak (by rw[am];push_cast;lia)];refine⟨by lia,?_⟩;unfold iw fF;rw[ei];refine iY ?_;walk_at"w";refine⟨T.length+1,eR rs,O,tl _ _,?_⟩
   try walk_at"w"
   refine eL (tl E (.lst (eR rs))) ?_
   try walk_at"w"
   rw[iG,F];refine fP g (by lia) (by push_cast;lia) (by push_cast;lia) λi s h hi=>?_
   try walk_at"w"
   have u:i<rs.length:=by rw[F];lia
   refine Hj (xs:=eR rs) (x:=.int (rs[i]'(u):Nat)) (tl _ _) (by unfold eR;rw[gP1,gG1 u];rfl) (by lia) ?_;rw[X,AD];refine⟨rs.eraseIdx i,s,by rw[cK u];lia,by lia,λx L=>p x (List.mem_of_mem_eraseIdx L),h.more (by lia),O,trivial⟩
  ·rw[aj (by rw[am];push_cast;lia)];exact⟨rs,E,λz=>(by rw[z]at F;cases F),by lia,by lia,p,g.more (by lia),O,trivial⟩
 rintro r V ⟨rs,aq,I,v,S,p,A,rfl,rfl⟩;refine eO (λr V=>∃(a:Nat) (o':Ob),a<2/\gp o' (n+51)/\V=o'::(T++[.lst (eR rs)])/\r=[Z (.ref 0),Z (.int (m:Nat)),Z (.int (most:Nat)),Z (.ref (T.length+1)),Z (.int (a:Nat))]) ?_ ?_
 ·walk_at"w";refine fP A (by lia) (by lia) (by lia) λt E g av=>?_;exact⟨t,E,by lia,g,O,O⟩
 rintro r V ⟨a,E,ha,g,rfl,rfl⟩;walk_at"w";refine eL (tl _ _) ?_;walk_at"w";rw[Int.toNat_natCast];refine⟨fz (by lia),?_⟩;refine je (λi G r V=>∃f s x,i<=m/\G=eR f/\(f.length<=i/\f.Sublist (af i))/\(∀y∈f,y<m)/\gp s (n+51+i)/\V=s::(T++[.lst (eR rs)])/\r=[x,Z (.int (a:Nat)),Z (.ref 0)]) _ 0 [] _ _ ⟨[],E,_,br _,O,⟨nR1 _,List.nil_sublist _⟩,λy C=>(by cases C),g,O,O⟩ (λ_ _ _ _ _=>rfl) ?_ ?_
 ·rintro i d w G r V ⟨f,s,x,hi,rfl,j,l,h,rfl,rfl⟩;have B:=(gE1.mp w).1;rw[gx]at B;rw[bT]at *
  have K:d = .int (i:Nat):=by
   rw[iz,gP1,cO B]at w;exact(Option.some.inj w).symm
  subst K;walk_at"w";refine fP h (by lia) (by lia) (by lia) λt P H av=>?_;have U:∀ao,jY (.int (a:Int)) (.int (t:Int)) ao=Z (.int ((a:Int)*(t:Int)),ao):=λao=>by
   simp only[jY];rw[ak (qp (by lia) (by lia))]
  ((try walk_at"w");repeat(simp only[U];try walk_at"w"))
  split
  ·exact ⟨f++[i],P,_,by lia,by simp [eR],⟨by rw [lA1];simp;lia,by rw [dH];exact j.2.append (List.Sublist.refl _)⟩,fun y C=>by
    rcases aH.mp C with C|C
    ·exact l y C
    ·rw[c5.mp C];exact B,H.more (by lia),O,O⟩
  ·exact⟨f,P,_,by lia,O,⟨by lia,by rw[dH];exact j.2.trans (List.sublist_append_left _ _)⟩,l,H.more (by lia),O,O⟩
 ·rintro xs r V ⟨f,s,x,hi,e,j,l,h,rfl,rfl⟩;rw[bg]at e;subst e;rw[gx,bT]at *
  walk_at"w";refine⟨ev (by rw[iG];lia),?_⟩;refine eL (xs:=eR f) (by rw[gC1,fY];rfl) ?_;exact⟨standD rs f,s,[.lst (eR rs),.lst (eR f)],by simp[standD],iK rs f 0,h.und,q rs f s ⟨by lia,by lia,p,l⟩ j.2 I v (h.more (by lia))⟩
abbrev Pr:=Wk×D
noncomputable def nC(ps:List Pr):List Wk:=ps.map (·.1)
noncomputable def xD(ps:List Pr):List D:=ps.map (·.2)
theorem Ei(ps:List Pr):eK (nC ps)=ps.map λp=>fm p.1:=by unfold eK nC;rw[bD];rfl
def zo(ps:List Pr)(h:Str)(r:Nat):Bool:=ps.any λp=>p.1.1 == r&&dh p.2 == h
def jk(m:Nat)(ps:List Pr)(cs:List Nat):List Nat:=(af m).filter λr=>zo ps "mark" r||(cs.contains r && !zo ps "wipe" r)
def pB(ps:List Pr)(h:Str):List Nat:=(ps.filter λp=>dh p.2 == h).map (·.1.1)
theorem xO{ps:List Pr}{h:Str}{r:Nat}:r∈pB ps h↔zo ps h r=M:=by
 unfold pB zo;rw[cj,bX];constructor
 ·rintro⟨u,a,rfl⟩;obtain⟨h1,h2⟩:=aB.mp a;exact⟨u,h1,by simp[h2]⟩
 ·rintro⟨u,a,e⟩;rw[bA1,beq_iff_eq]at e;exact⟨u,aB.mpr ⟨a,e.2⟩,e.1⟩
theorem Be{h:Str}{ps:List Pr}{n:Nat}{S:Sto}{Q:D×Sto->Prop}{m:FA}{r:Ev}(hd:∀ p∈ps,fN p.2)(f:ps.length<=8)(a:S[n]? = Z (.lst (xD ps)))(hm:m r S=Z ([.tup (eK (nC ps)),.ref n],S))(hr:oK 2 [] r=[Y,Y])(q:Q (.ref S.length,S++[.lst (eR (pB ps h))])):W (fe 2 [] (B3 m) (gT 2 (fQ (gN 0) (fQ (gN 1) jp))) (mB (m2 (b2 pP) (m2 (b2 d6) (mV 1) (mC (D.int (1)))) (mC (D.str h)))) (eQ (m2 (b2 d6) (mV 0) (mC (D.int (0))))) r S) Q:=by
 rw[jl];refine s0 hm a ?_;dsimp only;rw[hr,Ei,xD,nN];refine gH (λp:Pr=>dh p.2 == h) (λp:Pr=>D.int p.1.1) (λr=>∃x y,r=[x,y]) (iy a) ps _ ⟨_,_,O⟩ ?_ λd _=>?_
 ·rintro u b r ⟨x,y,rfl⟩
  ((try walk_at"w");repeat(simp only[xf (hd u b)];try walk_at"w"))
  refine⟨⟨_,_,O⟩,λ_=>?_⟩
  ((try walk_at"w");repeat(simp only[xc];try walk_at"w"))
 ·have e:(ps.filter λp:Pr=>dh p.2 == h).map (λp:Pr=>D.int (p.1.1:Nat))=eR (pB ps h):=by unfold eR pB;rw[bD];rfl
  rw[e];have c:=dB (λp:Pr=>dh p.2 == h) ps;refine⟨ev ?_,q⟩;dsimp only;rw[iG];unfold pB;rw[lM1];lia
theorem yP{m:Nat}{ps:List Pr}{cs:List Nat}{n:Nat}{S:Sto}{Q:D×Sto->Prop}(hd:∀ p∈ps,fN p.2)(v:ps.length<=8)(hc:cs.length<=8)(hw:∀ p∈ps,p.1.1<m)(k:∀ r∈cs,r<m)(o:S[n]? = Z (.lst (xD ps)))(j:S.all (Ob.und S.length)=M)(q:Q (.tup (eR (jk m ps cs)),S)):W (d8 2 iR [ea (nC ps) cs,.ref n] S) Q:=by
 refine lO O (by simp[D.unds,D.und]) ?_;unfold iR;refine mx ?_;unfold rD;have A:=(gE1.mp o).1;refine eO (λr V=>V=S/\r=[Z (ea (nC ps) cs),Z (.ref n),Z (.tup (eK (nC ps))),Z (.tup (eR cs)),Y,Y,Y]) ?_ ?_
 ·generalize C:ea (nC ps) cs=aq;have l:aq = .tup [.tup (eK (nC ps)),.tup (eR cs)]:=C.symm;subst l;walk_at"w"
 rintro r V ⟨H,rfl⟩;subst H;refine eO (λr i=>i=V++[.lst (eR (pB ps "mark"))]/\r=[Z (ea (nC ps) cs),Z (.ref n),Z (.tup (eK (nC ps))),Z (.tup (eR cs)),Z (.ref V.length),Y,Y]) ?_ ?_
 ·unfold eE;refine ei.mpr (Be hd v o O O ?_);walk_at"w"
 rintro r c ⟨b,rfl⟩;have z:c[n]?=Z (.lst (xD ps)):=by rw[b,gL1 A];exact o
 have t:c[V.length]?=Z (.lst (eR (pB ps "mark"))):=by rw[b,eJ];rfl
 refine eO (λr i=>i=c++[.lst (eR (pB ps "wipe"))]/\r=[Z (ea (nC ps) cs),Z (.ref n),Z (.tup (eK (nC ps))),Z (.tup (eR cs)),Z (.ref V.length),Z (.ref c.length),Y]) ?_ ?_
 ·unfold eE;refine ei.mpr (Be hd v z O O ?_);walk_at"w"
 rintro r g ⟨a,rfl⟩;have w:g[V.length]?=Z (.lst (eR (pB ps "mark"))):=by rw[a,gL1 (gE1.mp t).1];exact t
 have F:g[c.length]?=Z (.lst (eR (pB ps "wipe"))):=by rw[a,eJ];rfl
 refine eO (λr i=>i=g++[.lst (eR (cs.filter λr=> !(pB ps "wipe").contains r))]/\r=[Z (ea (nC ps) cs),Z (.ref n),Z (.tup (eK (nC ps))),Z (.tup (eR cs)),Z (.ref V.length),Z (.ref c.length),Z (.ref g.length)]) ?_ ?_
 ·walk_at"w";rw[hK];refine gH (f:=λr:Nat=>D.int r) (λr:Nat=> !(pB ps "wipe").contains r) (λr:Nat=>D.int r) (λr=>∃x,r=[x,Z (.ref c.length)]) O cs _ ⟨_,O⟩ ?_ λao _=>?_
  ·rintro u s r ⟨x,rfl⟩
   ((try walk_at"w");repeat(simp only[yr F];try walk_at"w"))
   exact⟨⟨_,O⟩,λ_=>trivial⟩
  ·walk_at"w";have E:=dB (λr:Nat=> !(pB ps "wipe").contains r) cs;exact⟨ev (by rw[lM1];lia),O,trivial⟩
 rintro r y ⟨d,rfl⟩;have B:y[V.length]?=Z (.lst (eR (pB ps "mark"))):=by rw[d,gL1 (gE1.mp w).1];exact w
 have G:y[g.length]?=Z (.lst (eR (cs.filter λr=> !(pB ps "wipe").contains r))):=by rw[d,eJ];rfl
 have E:=dB (λr:Nat=> !(pB ps "wipe").contains r) cs;have K:(pB ps "mark").length<=ps.length:=by unfold pB;rw[lM1];exact dB _ _
 walk_at"w";refine(Hm G B).mpr ⟨ev (by rw[iG,iG];lia),?_⟩;rw[Ga];refine zi (xs:=cs.filter (λr=> !(pB ps "wipe").contains r)++pB ps "mark") (m:=m) (f:=λr=>zo ps "mark" r||(cs.contains r && !zo ps "wipe" r)) (by rw[eJ];rfl) (λr=>?_) (by rw[lA1];lia) ?_
 ·have I:(pB ps "wipe").contains r=zo ps "wipe" r:=by
   rw[bW,cT,xO]
  rw[aH,aB,xO,I];constructor
  ·rintro(⟨h1,h2⟩|h1)
   ·exact⟨k r h1,by rw[cT.mpr h1,h2];simp⟩
   ·refine⟨?_,by rw[h1];rfl⟩;unfold zo at h1;obtain⟨u,s,e⟩:=bX.mp h1;rw[bA1,beq_iff_eq]at e;rw[<- e.1];exact hw u s
  ·rintro⟨_,h⟩;rw[bU,bA1]at h;rcases h with h|⟨h1,h2⟩
   ·exact .inr h
   ·exact .inl ⟨cT.mp h1,h2⟩
 ·walk_at"w";refine eL (xs:=eR (jk m ps cs)) (by rw[fY];rfl) ?_;rw[sL (by rw[D.und];exact kw _) j (by rw[d,a,b];simp only[bc];exact bE _ _)];exact q
def IY(m:Nat)(w:ee)(ps:List Pr)(cs:List Nat):D:=ea (ps.map λp=>fj w p.1 p.2) (jk m ps cs)
theorem sK{m:Nat}{w:ee}{ps:List Pr}{cs:List Nat}:(IY m w ps cs).und 0=M:=gn
theorem C3{m:Nat}{w:ee}{ps:List Pr}{cs:List Nat}{n:Nat}{S:Sto}{Q:D×Sto->Prop}(g:w.length=m)(hd:∀ p∈ps,fN p.2)(s:ps.length<=8)(hc:cs.length<=8)(hw:∀ p∈ps,p.1.1<m)(h:∀ r∈cs,r<m)(d:S[n]? = Z (.lst (xD ps)))(b:S.all (Ob.und S.length)=M)(q:Q (IY m w ps cs,S)):W (d8 3 lm [webD w,ea (nC ps) cs,.ref n] S) Q:=by
 refine lO O (by simp[D.unds,D.und]) ?_;unfold lm;refine mx ?_;unfold xM;have v:=(gE1.mp d).1;refine eO (λr V=>V=S/\r=[Z (webD w),Z (ea (nC ps) cs),Z (.ref n),Z (.tup (eK (nC ps))),Z (.tup (eR cs)),Y]) ?_ ?_
 ·generalize C:ea (nC ps) cs=aq;have i:aq = .tup [.tup (eK (nC ps)),.tup (eR cs)]:=C.symm;subst i;walk_at"w"
 rintro r V ⟨E,rfl⟩;subst E;refine eO (λr B=>B=V++[.lst (eK (ps.map λp=>fj w p.1 p.2))]/\r=[Z (webD w),Z (ea (nC ps) cs),Z (.ref n),Z (.tup (eK (nC ps))),Z (.tup (eR cs)),Z (.ref V.length)]) ?_ ?_
 ·unfold eE;refine ei.mpr ?_;rw[jl];refine s0 (xs:=eK (nC ps)) (ys:=xD ps) (n:=n) O d ?_;dsimp only;rw[Ei,xD,nN];refine oF (λp:Pr=>fm (fj w p.1 p.2)) (λr=>∃x y,r=[x,y,Z (webD w)]) (iy d) ps _ ⟨_,_,O⟩ ?_ λF _=>?_
  ·rintro u j r ⟨x,y,rfl⟩;obtain⟨row,c⟩:∃row,w[u.1.1]?=some row:=⟨_,gG1 (by rw[g];exact hw u j)⟩;walk_at"w";refine yd c (hd u j) ?_;exact⟨O,O,_,_,O⟩
  ·have e:ps.map (λp:Pr=>fm (fj w p.1 p.2))=eK (ps.map λp=>fj w p.1 p.2):=by unfold eK;rw[bD];rfl
   rw[e];refine⟨ev (by dsimp only;rw[i0,lM1];lia),?_⟩;walk_at"w"
 rintro r f ⟨a,rfl⟩;have l:f[n]?=Z (.lst (xD ps)):=by rw[a,gL1 v];exact d
 have k:f[V.length]?=Z (.lst (eK (ps.map λp=>fj w p.1 p.2))):=by rw[a,eJ];rfl
 have A:f.all (Ob.und f.length)=M:=by
  rw[a,dJ,bA1,lA1];rw[bI]at b;refine⟨bI.mpr λo z=>iP (bB _ _) (b o z),?_⟩;rw[bV,Ob.und,gD (kJ _)];rfl
 walk_at"w";refine eL k ?_;refine yP hd s hc hw h l A ?_;walk_at"w";have t:D.tup [.tup (eK (ps.map λp=>fj w p.1 p.2)),.tup (eR (jk m ps cs))]=IY m w ps cs:=rfl;rw[t,sL sK b (by rw[a];exact bE _ _)];exact q
theorem rh{k:Ky}(hk:k.Ok):fN (pS k):=⟨k.m,_,_,O,hk.m,by simp[mY],by simp[mI]⟩
def md(w:ee)(ws:List Wk)(cs:List Nat)(e:E4)(L:List Rw)(ch:List Nat)(q:Wk×Nat):D:=if ch.contains q.2 then ddW w ws cs e L q.1 else pS (ky w ws cs q.1)
def gt(w:ee)(ws:List Wk)(cs:List Nat)(e:E4)(L:List Rw)(ch:List Nat):List Pr:=ws.zipIdx.map λq=>(q.1,md w ws cs e L ch q)
theorem zY{w:ee}{ws:List Wk}{cs:List Nat}{e:E4}{L:List Rw}{ch:List Nat}:nC (gt w ws cs e L ch)=ws:=by
 unfold nC gt;rw[bD];exact(km (λu:Wk=>u) ws).trans (List.map_id _)
theorem nO{α:Type}{l:List α}{p:α×Nat}(h:p∈l.zipIdx):p.1∈l:=gM1 (lZ h)
theorem Hc{n:Nat}{f:FN}{ds:List D}{S:Sto}{Q:D×Sto->Prop}(hn:ds.length=n)(a:D.unds 0 ds=M)(h:W (f ds []) λp=>∃xs ys,p=(.ref 1,[.lst xs,.lst ys])/\D.unds 0 xs=M/\D.unds 0 ys=M/\Q (.ref (S.length+1),S++[.lst xs,.lst ys])):W (d8 n f ds S) Q:=by
 obtain⟨p,e,xs,ys,rfl,b,c,q⟩:=h;refine⟨_,pf e hn a O,?_⟩;simp only[D.sh,mP1,bh,Ob.sh,jQ b,jQ c];exact q
theorem DU{m:Nat}{w:ee}{ws:List Wk}{cs:List Nat}{e:E4}{L:List Rw}{S:Sto}{Q:D×Sto->Prop}(h:ga m w ws cs)(b:BZ e L)(ok:∀ p∈L,iJ p)(g:L.length<=4000)(q:∀c,c.und 0=M->Q (.ref (S.length+1),S++[c,.lst (ws.map (ddW w ws cs e L))])):W (d8 3 ij [webD w,mcD e L,ea ws cs] S) Q:=by
 refine Hc O (by simp[D.unds,fS,gn,lh ok]) ?_;unfold ij;refine mx ?_;unfold pu fA;have j:=h.few;have f:∀u∈ws,fN (ddW w ws cs e L u):=λu a=>oX ok (h.ky u a);have d:∀S,d6 (mcD e L) (.int 0) S=Z (nv e,S):=λS=>rfl;rw[ei,jl]
 ((try walk_at"w");repeat(simp only[d];try walk_at"w"))
 refine Ce h ?_;refine eL (xs:=ws.map λu=>(ky w ws cs u).d e) O ?_;refine oF (ddW w ws cs e L) (λr=>∃x y,r=[x,y,Z (mcD e L)]) (iy O) ws _ ⟨_,_,O⟩ ?_ λi _=>?_
 ·rintro u a r ⟨x,y,rfl⟩;unfold Ky.d;walk_at"w";refine Bz b ok g (h.ky u a) (nI e) ?_;exact⟨O,O,_,_,O⟩
 ·refine⟨ev (by dsimp only;rw[lM1];lia),?_⟩;walk_at"w";exact⟨_,_,O,Mi.eW λu _=>Ky.und _ e 0,Mi.eW λu a=>(f u a).und,q _ (by rw[Ob.und];exact Mi.eW λu _=>Ky.und _ e 0)⟩
theorem GU{S:Sto}{x:Nat}{cs:List Nat}:im (.int x) (.tup (eR cs)) S=Z (.bl (cs.contains x),S):=qM
theorem C1{m:Nat}{w:ee}{ws:List Wk}{cs ch:List Nat}{e:E4}{L:List Rw}{n:Nat}{S:Sto}{Q:D×Sto->Prop}(h:ga m w ws cs)(ok:∀ p∈L,iJ p)(G:S[n]? = Z (.lst (ws.map (ddW w ws cs e L))))(g:S.all (Ob.und S.length)=M)(q:Q (IY m w (gt w ws cs e L ch) cs,S)):W (d8 4 gy [webD w,ea ws cs,.ref n,.tup (eR ch)] S) Q:=by
 refine lO O (by simp[D.unds,D.und]) ?_;unfold gy;refine mx ?_;unfold lP;have ao:=(gE1.mp G).1;have K:=h.few;have R:∀u∈ws,fN (ddW w ws cs e L u):=λu H=>oX ok (h.ky u H);have av:∀S,d6 (ea ws cs) (.int 0) S=Z (.tup (eK ws),S):=λS=>rfl;have C:∀o,(S++[o])[n]?=Z (.lst (ws.map (ddW w ws cs e L))):=λo=>by rw[gL1 ao];exact G
 have y:∀p∈gt w ws cs e L ch,fN p.2/\p.1∈ws:=λp y=>by
  obtain⟨x,T,rfl⟩:=cj.mp y;have j:=nO T;refine⟨?_,j⟩;unfold md;dsimp only;split
  ·exact R _ j
  ·exact rh (h.ky _ j)
 refine eO (λr V=>V=S++[.lst []]/\r=[Z (webD w),Z (ea ws cs),Z (.ref n),Z (.tup (eR ch)),Z (.ref S.length),Y,Y,Y,Y]) ?_ ?_
 ·walk_at"w"
 rintro r V ⟨rfl,rfl⟩;refine eO (λr V=>V=S++[.lst (xD (gt w ws cs e L ch))] /\ ∃l t v s,r=[Z (webD w),Z (ea ws cs),Z (.ref n),Z (.tup (eR ch)),Z (.ref S.length),l,t,v,s]) ?_ ?_
 ·unfold hC;rw[ei];refine EJ (xs:=eK ws) (by simp only[d4,m2,b2,mV,mC,d5,gC1,dz,oS1,av]) ?_;dsimp only;rw[eK,vW];refine fJ (λi r V=>V=S++[.lst ((ws.zipIdx.take i).map (md w ws cs e L ch))] /\ ∃l t v s,r=[Z (webD w),Z (ea ws cs),Z (.ref n),Z (.tup (eR ch)),Z (.ref S.length),l,t,v,s]) _ 0 _ _ ⟨by simp,_,_,_,_,O⟩ (λ_ _ _ _=>rfl) ?_ ?_
  ·rintro i d z r V ⟨rfl,l,t,v,s,rfl⟩;rw[gP1]at z;obtain⟨⟨u,k⟩,A,rfl⟩:=oM1.mp z;have I:ws[k]?=Z u:=lZ (gM1 A);have E:=(gE1.mp A).1;rw[dL]at E;rw[bT];have F:((ws.zipIdx.take i).map (md w ws cs e L ch)).length<=8:=by rw[lM1,aT,dL];lia
   have f:(S++[Ob.lst ((ws.zipIdx.take i).map (md w ws cs e L ch))])[S.length]?=Z (.lst ((ws.zipIdx.take i).map (md w ws cs e L ch))):=by rw[eJ];rfl
   have st:∀a b:Ob,(S++[a]).set S.length b=S++[b]:=λa b=>by rw[c9 _ _ (nR1 _),cS];rfl
   have more:(ws.zipIdx.take (i+1)).map (md w ws cs e L ch)=(ws.zipIdx.take i).map (md w ws cs e L ch)++[md w ws cs e L ch (u,k)]:=by rw[cH,A,cG];rfl
   have P:pS (ky w ws cs u) = .tup [.int u.2.2,.str "leave",.non]:=rfl;unfold fm;walk_at"w";unfold jy fF;rw[ei];refine iY ?_;walk_at"w";refine⟨S.length,_,O,f,?_⟩
   ((try walk_at"w");repeat(simp only[GU];try walk_at"w"))
   rw[more];unfold md;dsimp only;split
   ·refine iZ (C _) (i:=k) (x:=ddW w ws cs e L u) (by rw[gP1,I];rfl) ?_;refine(lW f).mpr ⟨ev (by lia),?_⟩;rw[st];exact⟨O,_,_,_,_,O⟩
   ·skip
    refine(lW f).mpr ⟨ev (by lia),?_⟩;rw[st,P];exact⟨O,_,_,_,_,O⟩
  ·rintro r V ⟨rfl,l,t,v,s,rfl⟩;refine⟨O,?_,_,_,_,_,O⟩;rw[lM1,bT,cg];unfold xD gt;rw[bD];rfl
 rintro r V ⟨rfl,l,t,v,s,rfl⟩;have B:D.unds 0 (xD (gt w ws cs e L ch))=M:=Mi.eW λp c=>(y p c).1.und;have N:(S++[Ob.lst (xD (gt w ws cs e L ch))]).all (Ob.und (S++[Ob.lst (xD (gt w ws cs e L ch))]).length)=M:=by
  rw[dJ,bA1,lA1];rw[bI]at g;refine⟨bI.mpr λo aq=>iP (bB _ _) (g o aq),?_⟩;rw[bV,Ob.und,gD B];rfl
 have mv:=λQ q=>C3 (m:=m) (w:=w) (ps:=gt w ws cs e L ch) (cs:=cs) (n:=S.length) (S:=S++[Ob.lst (xD (gt w ws cs e L ch))]) (Q:=Q) h.web.len (λp c=>(y p c).1) (by unfold gt;rw[lM1,dL];exact K) h.cl (λp c=>h.lt _ (y p c).2) h.ch (by rw[eJ];rfl) N q;rw[zY]at mv;walk_at"w";refine mv _ ?_;walk_at"w";rw[vQ sK g];exact q
theorem Ff{m:Nat}{w:ee}{ws:List Wk}{cs ch:List Nat}{e:E4}{L:List Rw}{S:Sto}{Q:D×Sto->Prop}(h:ga m w ws cs)(b:BZ e L)(ok:∀p∈L,iJ p)(f:L.length<=4000)(q:Q (IY m w (gt w ws cs e L ch) cs,S)):W (d8 4 gP [webD w,mcD e L,ea ws cs,.tup (eR ch)] S) Q:=by
 refine m6 O (by simp[D.unds,fS,gn,lh ok,D.und,kw]) ?_;unfold gP
 refine mx ?_;unfold ng
 have d:∀u∈ws,fN (ddW w ws cs e L u):=λu a=>oX ok (h.ky u a);walk_at"w";refine DU h b ok f λg c=>?_;walk_at"w";refine C1 h ok O ?_ ?_
 ·rw[bV,bV,iP (br _) c,Ob.und,Mi.eW λu a=>gb (d u a).und];rfl
 ·walk_at"w";exact⟨sK,q⟩
theorem p8{m:Nat}{w:ee}{ws:List Wk}{cs ch:List Nat}{e:E4}{L:List Rw}(h:ga m w ws cs)(ok:∀p∈L,iJ p):∀p∈gt w ws cs e L ch,fN p.2/\p.1∈ws:=λp b=>by
 obtain⟨x,c,rfl⟩:=cj.mp b;have a:=nO c;refine⟨?_,a⟩;unfold md;dsimp only;split
 ·exact oX ok (h.ky _ a)
 ·exact rh (h.ky _ a)
def IX(w:ee)(ps:List Pr):List Wk:=ps.map λp=>fj w p.1 p.2
theorem IW{m:Nat}{w:ee}{ws:List Wk}{cs:List Nat}{ps:List Pr}(h:ga m w ws cs)(hp:∀p∈ps,fN p.2/\p.1∈ws)(e:ps.length<=8):ga m w (IX w ps) (jk m ps cs):=by
 have b:=h.m8;refine⟨h.web,h.m8,by unfold IX;rw[lM1];exact e,?_,λv c=>?_,λr d=>aC.mp (aB.mp d).1⟩
 ·unfold jk;have:=dB (λr=>zo ps "mark" r||(cs.contains r && !zo ps "wipe" r)) (af m);rw[dG]at this;exact aD this b
 ·obtain⟨p,a,rfl⟩:=cj.mp c;exact tG h (hp p a).2 (hp p a).1
theorem HD{m:Nat}{w:ee}{ws:List Wk}{cs:List Nat}(h:ga m w ws cs):uZ (ea ws cs)=M/\o4 (ea ws cs)<=60/\Bx (ea ws cs)<=9:=by
 have p:=h.few;have o:=h.m8;have e:=h.cl;have b:∀x:Nat,x<4000->uZ (.int (x:Nat))=M:=λx q=>by unfold uZ;rw[am];lia
 have g:∀u∈ws,uZ (fm u)=M:=λu d=>by
  obtain⟨c,i,h1,h2⟩:=h.wk u d;have j:=h.web.le c (gM1 i);have n:=h.lt u d;unfold fm;rw[uZ];simp only[pE,bS,bA1];exact⟨b _ (by lia),b _ (by lia),b _ h2⟩
 have a1:=nZ (f:=fm) (l:=ws) g;have a2:=mD (f:=fm) (k:=3) (l:=ws) λv a=>nR1 _;have a3:=oY (f:=fm) (k:=3) (l:=ws) λv a=>(by decide:1<=3);have b1:=nZ (f:=λr:Nat=>D.int r) (l:=cs) λv a=>b v (by have:=h.ch v a;lia);have b2:=mD (f:=λr:Nat=>D.int r) (k:=0) (l:=cs) λv a=>nR1 _;have b3:=oY (f:=λr:Nat=>D.int r) (k:=0) (l:=cs) λv a=>nR1 _;unfold ea;refine⟨?_,?_,?_⟩
 ·simp only[pE,uZ,eK,eR,a1,b1,dj]
 ·simp only[lM,o4,eK,eR];lia
 ·simp only[pR,Bx,eK,eR];lia
theorem Cd{m:Nat}{w:ee}{ws:List Wk}{cs:List Nat}(h:ga m w ws cs):∃t,∀S,m3 (ea ws cs) S=Z (.str t,S):=by
 obtain⟨h1,h2,a⟩:=HD h;unfold ea at *
 rw[uZ]at h1;rw[o4]at h2;rw[Bx]at a;exact Co h1 (by lia) (by lia)
theorem tK{w:ee}{ws:List Wk}{cs ch:List Nat}{e:E4}{L:List Rw}:(gt w ws cs e L ch).length=ws.length:=by unfold gt;rw[lM1,dL]
theorem z8(t:Str):(t == t)=M:=by simp
def chD(ch:List Nat):D:=.tup (eR ch)
theorem lN(chs:List (List Nat))(n:Nat):D.unds n (chs.map chD)=M:=Mi.eW λch _=>by unfold chD;rw[D.und];exact gD (kw _)
def kM(m:Nat)(w:ee)(e:E4)(L:List Rw)(ch:List Nat)(a:Wh):Wh:=(IX w (gt w a.1 a.2 e L ch),jk m (gt w a.1 a.2 e L ch) a.2)
def il(m:Nat)(w:ee)(e:E4)(L:List Rw)(chs:List (List Nat))(a:Wh):Wh:=chs.foldl (λa ch=>kM m w e L ch a) a
def WsC(m:Nat)(w:ee)(e:E4)(L:List Rw)(chs:List (List Nat))(a:Wh):List Wh:=(af (chs.length+1)).map λi=>il m w e L (chs.take i) a
section
variable{m:Nat}{w:ee}{e:E4}{L:List Rw}{chs:List (List Nat)}{a:Wh}
theorem BQ:(WsC m w e L chs a).length=chs.length+1:=by unfold WsC;rw[lM1,dG]
theorem EH{i:Nat}(h:i<=chs.length):(WsC m w e L chs a)[i]?=Z (il m w e L (chs.take i) a):=by
 unfold WsC;rw[gP1,cO (by lia)];rfl
theorem Ec{ch:List Nat}:WsC m w e L (chs++[ch]) a=WsC m w e L chs a++[kM m w e L ch (il m w e L chs a)]:=by
 unfold WsC;rw[lA1,bf,dH (n:=chs.length+1),cG]
 congr 1
 ·refine dk λi hi=>?_;rw[dg (by have:=aC.mp hi;lia)]
 ·simp only[mP1,bh];rw[cc (by simp)];unfold il;rw[cI];rfl
theorem zU{ch:List Nat}(h:ga m w a.1 a.2)(ok:∀p∈L,iJ p):ga m w (kM m w e L ch a).1 (kM m w e L ch a).2/\(kM m w e L ch a).1.length=a.1.length:=by
 refine⟨IW h (p8 h ok) (by rw[tK];exact h.few),?_⟩;unfold kM IX;rw[lM1,tK]
theorem lA(ok:∀p∈L,iJ p):∀{chs:List (List Nat)} {a:Wh},ga m w a.1 a.2->ga m w (il m w e L chs a).1 (il m w e L chs a).2/\(il m w e L chs a).1.length=a.1.length
 |[],a,h=>⟨h,O⟩
 |ch::chs,a,h=>by
  obtain⟨h1,h2⟩:=zU (e:=e) (ch:=ch) h ok;obtain⟨b,c⟩:=lA ok (chs:=chs) h1;exact⟨b,c.trans h2⟩
theorem Js(ok:∀p∈L,iJ p)(h:ga m w a.1 a.2):∀b∈WsC m w e L chs a,ga m w b.1 b.2:=λb c=>by
 obtain⟨i,_,rfl⟩:=cj.mp c;exact(lA ok h).1
end
theorem vf{m:Nat}{w:ee}{e:E4}{L:List Rw}{chs:List (List Nat)}{a:Wh}{S:Sto}{Q:D×Sto->Prop}(h:ga m w a.1 a.2)(s:BZ e L)(ok:∀ p∈L,iJ p)(v:L.length<=4000)(hc:chs.length<=400)(q:Q (.ref S.length,S++[.lst ((WsC m w e L chs a).map whD)])):W (d8 4 gO [webD w,mcD e L,whD a,.tup (chs.map chD)] S) Q:=by
 have o:=lN chs 0;refine EG O (by simp[D.unds,fS,rK,lh ok,D.und,o]) ?_;unfold gO;refine mx ?_;unfold m9;refine eO (λr V=>V=[.lst ((WsC m w e L [] a).map whD)]/\r=[Z (webD w),Z (mcD e L),Z (whD a),Z (.tup (chs.map chD)),Z (.ref 0),Y]) ?_ ?_
 ·walk_at"w";exact⟨O,trivial⟩
 rintro r V ⟨rfl,rfl⟩;refine eO (λr V=>∃g,V=[.lst ((WsC m w e L chs a).map whD)]/\r=[Z (webD w),Z (mcD e L),Z (whD a),Z (.tup (chs.map chD)),Z (.ref 0),g]) ?_ ?_
 ·walk_at"w";rw[hK];refine fJ (λi r V=>∃g,V=[.lst ((WsC m w e L (chs.take i) a).map whD)]/\r=[Z (webD w),Z (mcD e L),Z (whD a),Z (.tup (chs.map chD)),Z (.ref 0),g]) (chs.map chD) 0 _ _ ⟨_,O,O⟩ (λ_ _ _ _=>rfl) ?_ ?_
  ·rintro i d j r V ⟨g,rfl,rfl⟩;rw[gP1]at j;obtain⟨ch,k,rfl⟩:=oM1.mp j;have u:=(gE1.mp k).1;have t:chs.take (i+1)=chs.take i++[ch]:=by rw[cH,k];rfl
   have n:(chs.take i).length=i:=by rw[aT];lia
   rw[bT]at *
   rw[t,Ec];have f:=lA (e:=e) (m:=m) (w:=w) ok (chs:=chs.take i) h;have c:((WsC m w e L (chs.take i) a).map whD).length=i+1:=by rw[lM1,BQ,n]
   have l:((WsC m w e L (chs.take i) a).map whD)[i]?=Z (whD (il m w e L (chs.take i) a)):=by
    rw[gP1,EH (by lia),cc (by lia)];rfl
   generalize x:il m w e L (chs.take i) a=b at *
   walk_at"w";unfold j9 fF;rw[ei];refine iY ?_;walk_at"w";refine⟨0,_,O,O,?_⟩
   ((try walk_at"w");repeat(simp only[Bg];try walk_at"w"))
   refine xU O c l ?_;walk_at"w";refine Ff (ws:=b.1) (cs:=b.2) (ch:=ch) f.1 s ok v ?_;refine(lW O).mpr ⟨ev (by rw[c];lia),?_⟩;refine⟨_,?_,O⟩;rw[cG];rfl
  ·rintro r V ⟨g,rfl,rfl⟩;rw[lM1,bT,cg];exact⟨O,_,O,O⟩
 rintro r V ⟨g,rfl,rfl⟩;walk_at"w";exact⟨_,O,nD _ 0,q⟩
theorem rP{m:Nat}{w:ee}{e:E4}{L:List Rw}{chs:List (List Nat)}{rs cs:List Nat}{S:Sto}{Q:D×Sto->Prop}(hw:lU m w)(hm:m<=8)(hst:v8 m rs cs)(a:BZ e L)(ok:∀ p∈L,iJ p)(c:L.length<=4000)(hc:chs.length<=400)(q:Q (.tup ((WsC m w e L chs (fb rs cs)).map whD),S)):W (d8 4 gf [webD w,mcD e L,standD rs cs,.tup (chs.map chD)] S) Q:=by
 have b:=lN chs 0;refine m6 O (by simp[D.unds,fS,iK,lh ok,D.und,b]) ?_;unfold gf;refine mx ?_;unfold kk;have d:=hst.few;walk_at"w";refine D8 (by lia) ?_;walk_at"w";refine vf (sX hw hm hst) a ok c hc ?_;refine eL (xs:=(WsC m w e L chs (fb rs cs)).map whD) O ?_;exact⟨by rw[D.und];exact nD _ 0,q⟩
theorem ji{s l:List Nat}(h:s.Sublist l):l.Nodup->l.filter (λr=>s.contains r)=s:=by
 induction h with
 |slnil=>intro _;rfl
 | @cons s l a h ih=>
  intro nd;rw[aQ]at nd;rw[dq,aj,ih nd.2];rw[cT];exact λz=>nd.1 (h.subset z)
 | @cons_cons s l a h ih=>
  intro nd;rw[aQ]at nd;rw[dq,ak (by rw[cT];exact mS1)]
  congr 1
  rw[<- ih nd.2];refine List.filter_congr λx b=>?_;rw[ih nd.2,dr];have:(x == a)=J:=by rw[beq_eq_false_iff_ne];exact λz=>nd.1 (z ▸ b)
  rw[this,Bool.false_or]
noncomputable def kq(w:ee)(cs:List Nat)(u:Wk):Ky:=⟨u.2.2,u.2.1,if cs.contains u.1 then 1 else 0,((w[u.1]?).getD []).length,0⟩
theorem EC{e:E4}{L:List Rw}{w:ee}{ws:List Wk}{cs:List Nat}{u:Wk}(he:e.2.2.2=J):jj e L (ky w ws cs u)=jj e L (kq w cs u):=by
 obtain⟨a,b,c,d⟩:=e;dsimp only at he;subst he;have f:(ky w ws cs u).code (a,b,c,J)=(kq w cs u).code (a,b,c,J):=rfl;unfold jj;rw[f];rfl
def one(w:ee)(e:E4)(L:List Rw)(cs:List Nat)(u:Wk):Wk:=fj w u (jj e L (kq w cs u))
theorem tV {ps:List Pr}{h:Str}{r:Nat}(hp:∀p∈ps,fN p.2)(b:h≠"leave"):zo ps h r=J:=by
 unfold zo;rw[aN];intro p a;rw[(hp p a).quiet];intro z;rw[bA1,beq_iff_eq,beq_iff_eq]at z;exact b z.2.symm
theorem D0{m:Nat}{ps:List Pr}{cs:List Nat}(hp:∀p∈ps,fN p.2)(hs:cs.Sublist (af m)):jk m ps cs=cs:=by
 unfold jk;rw[<- ji hs dy];refine List.filter_congr λr _=>?_;rw[ji hs dy,tV hp (by decide),tV hp (by decide)];simp
theorem BG{m:Nat}{ws:List Wk}{dd:Wk->D}{cs:List Nat}(hd:∀u∈ws,fN (dd u))(hs:cs.Sublist (af m)):eM m ws dd cs=cs:=by
 have mk:∀(h:Str) r,h≠"leave"->jo ws dd h r=J:=λh r b=>by
  unfold jo;rw[aN];intro u a;rw[(hd u a).quiet];intro z;rw[bA1,beq_iff_eq,beq_iff_eq]at z;exact b z.2.symm
 unfold eM;rw[<- ji hs dy];refine List.filter_congr λr _=>?_;rw[ji hs dy,mk _ _ (by decide),mk _ _ (by decide)];simp
theorem Ch{m:Nat}{w:ee}{e:E4}{L:List Rw}{ws:List Wk}{cs ch:List Nat}(he:e.2.2.2=false)(h:ga m w ws cs)(ok:∀ p∈L,iJ p)(hs:cs.Sublist (List.range m)):
  kM m w e L ch (ws,cs)=(ws.zipIdx.map λq=>if ch.contains q.2 then one w e L cs q.1 else q.1,cs):=by
 have f:=p8 (ch:=ch) (e:=e) h ok;unfold kM;rw[D0 (λp d=>(f p d).1) hs]
 congr 1
 unfold IX gt;rw[bD];refine dk λq _=>?_;show fj w q.1 (md w ws cs e L ch q)=_;unfold md;split
 ·unfold one ddW;rw[EC he]
 ·obtain⟨⟨a,b,c⟩,k⟩:=q;rfl
noncomputable def Hx(f:Wk->Wk):Nat->Wk->Wk
 |0,u=>u
 |n+1,u=>f (Hx f n u)
def soW(w:ee)(e:E4)(L:List Rw)(cs rs:List Nat)(c:Nat->Nat):List Wk:=rs.zipIdx.map λq=>Hx (one w e L cs) (c q.2) (q.1,0,0)
theorem wz{w:ee}{e:E4}{L:List Rw}{cs rs:List Nat}{c:Nat->Nat}{k:Nat}:(soW w e L cs rs c)[k]?=(rs[k]?).map λr=>Hx (one w e L cs) (c k) (r,0,0):=by
 unfold soW;rw[gP1,List.getElem?_zipIdx];cases rs[k]? with
 |none=>rfl
 |some r=>simp
theorem Fe{w:ee}{e:E4}{L:List Rw}{cs rs:List Nat}{c:Nat->Nat}:(soW w e L cs rs c).length=rs.length:=by unfold soW;rw[lM1,dL]
theorem HX{w:ee}{e:E4}{L:List Rw}{cs rs:List Nat}:soW w e L cs rs (λ_=>0)=rs.map λr=>(r,0,0):=by
 unfold soW;exact km (λr:Nat=>((r,0,0):Wk)) rs
theorem Cj{w:ee}{e:E4}{L:List Rw}{cs rs:List Nat}{c:Nat->Nat}{b:Nat->Bool}:((soW w e L cs rs c).zipIdx.map λq=>if b q.2 then one w e L cs q.1 else q.1)=soW w e L cs rs λk=>c k+if b k then 1 else 0:=by
 apply b7;intro k;rw[gP1,List.getElem?_zipIdx,wz,wz];cases rs[k]? with
 |none=>rfl
 |some r=>
  simp only[oP1,bT];cases b k<;>rfl
noncomputable def cnt(chs:List (List Nat))(k:Nat):Nat:=(chs.filter λch=>ch.contains k).length
theorem lK{chs:List (List Nat)}{ch:List Nat}{k:Nat}:cnt (chs++[ch]) k=cnt chs k+if ch.contains k then 1 else 0:=by
 unfold cnt;rw[dI,lA1,dq];split<;>simp
theorem A2{m:Nat}{w:ee}{e:E4}{L:List Rw}{rs cs:List Nat}(he:e.2.2.2=false)(h:ga m w (fb rs cs).1 (fb rs cs).2)(ok:∀ p∈L,iJ p)(hs:cs.Sublist (List.range m)):
  ∀n:Nat,∀chs:List (List Nat),chs.length=n->il m w e L chs (fb rs cs)=(soW w e L cs rs (cnt chs),cs)
 |0,chs,hl=>by
  rw[List.eq_nil_of_length_eq_zero hl];show fb rs cs=_;rw[show cnt []=λ_=>0 from rfl,HX];rfl
 |n+1,chs,hl=>by
  obtain⟨ch,c⟩:∃ch,chs[n]?=some ch:=⟨_,gG1 (by lia)⟩;obtain⟨a,rfl⟩:∃a,chs=a++[ch]:=⟨chs.take n,by
   have:=cH (l:=chs) (i:=n);rw[cc (by lia),c]at this;exact this⟩
  rw[lA1,bf]at hl;have ih:=A2 he h ok hs n a (by lia);have b:=(lA (e:=e) ok (chs:=a) h).1;have d:il m w e L (a++[ch]) (fb rs cs)=kM m w e L ch (il m w e L a (fb rs cs)):=by unfold il;rw[cI];rfl
  rw[ih]at b;rw[d,ih,Ch he b ok hs,Cj]
  congr 1
  congr 1
  funext k
  exact lK.symm
theorem zF{m k:Nat}{w:ee}{e:E4}{F:List (TK×D)}{L:List Rw}{rs cs:List Nat}{d:List Wh}(he:e.2.2.2=false)(h:RN e F)(o:RL e (gW F) L)(i:pV m w e F k d)(h0:d[0]? = some (fb rs cs))(hs:cs.Sublist (List.range m)):
  ∀j,j<d.length->d[j]?=Z (soW w e L cs rs (λ_=>j),cs)
 |0,_=>by rw[h0,HX];rfl
 |j+1,hj=>by
  have ih:=zF he h o i h0 hs j (by lia);obtain⟨b,l⟩:∃b,d[j+1]?=some b:=⟨_,gG1 hj⟩;obtain⟨p,_⟩:=i.nx j _ b ih l;have c:=(i.ok _ (gM1 ih)).1;rw[l,p]
  congr 1
  unfold jt;have f:∀u∈soW w e L cs rs (λ_=>j),EF w e F (soW w e L cs rs (λ_=>j),cs) u=jj e L (kq w cs u):=λu a=>by
   unfold EF;rw[<- o.due h (c.ky u a),EC he]
  have n:=BG (dd:=EF w e F (soW w e L cs rs (λ_=>j),cs)) (λu a=>xC h (c.ky u a)) hs;dsimp only at n ⊢;rw[n]
  congr 1
  rw[dk (g:=one w e L cs) λu a=>by rw[f u a];rfl];unfold soW;rw[bD];rfl
noncomputable def ctD(c:Nat->Nat)(n:Nat):List D:=(af n).map λk=>.int (c k:Nat)
theorem BA(c:Nat->Nat)(n k:Nat):D.unds k (ctD c n)=M:=Mi.eW λ_ _=>rfl
theorem xH{c:Nat->Nat}{n k:Nat}(h:k<n):(ctD c n)[k]?=Z (.int (c k:Nat)):=by unfold ctD;rw[gP1,cO h];rfl
theorem wo{o:Ob}{T G:Sto}{i:Nat}:(o::(T++G))[T.length+1+i]?=G[i]?:=by
 rw[show T.length+1+i=(T.length+i)+1 by lia,gC1,fY]
theorem iA{V G:Sto}{i:Nat}{o:Ob}(h:V[i]?=Z o):(V++G)[i]?=Z o:=by
 rw[gL1 (gE1.mp h).1];exact h
theorem BF{n b j N:Nat}{c:Nat->Nat}{o:Ob}{T:Sto}{Q:D×Sto->Prop}(ho:gp o N)(hN:N<=2^40)(hT:T.all (Ob.und (T.length+1))=M)(U:(o::T)[j]? = Z (.lst (ctD c n)))(au:0<j)(n8:n<=8)(C:∃ k,k<n/\c k<b)(q:∀ch o',(∀k∈ch,k<n/\c k<b)->ch.length<=n->gp o' (N+20)->Q (chD ch,o'::T)):W (d8 4 gg [.ref 0,.int n,.int b,.ref j] (o::T)) Q:=by
 refine uQ O O hT ?_;unfold gg;refine mx ?_;unfold kl;generalize w:(af n).filter (λk=>decide (c k<b))=g;have X:g.length<=n:=by
  rw[<- w];have:=dB (λk=>decide (c k<b)) (af n);rw[dG]at this;exact this
 have I:∀k∈g,k<n/\c k<b:=λk p=>by
  rw[<- w,aB,aC,am]at p;exact p
 have sm0:0<g.length:=by
  obtain⟨k,h1,h2⟩:=C;exact List.length_pos_of_mem (a:=k) (by rw[<- w,aB,aC,am];exact⟨h1,h2⟩)
 refine eO (λr V=>V=o::(T++[.lst (eR g)])/\r=[Z (.ref 0),Z (.int (n:Nat)),Z (.int (b:Nat)),Z (.ref j),Z (.ref (T.length+1)),Y]) ?_ ?_
 ·walk_at"w";rw[iz,Int.toNat_natCast];refine⟨fz (by lia),?_⟩;refine gH (f:=λx:Nat=>D.int x) (λk=>decide (c k<b)) (λx:Nat=>D.int x) (λr=>∃x,r=[x,Z (.ref j),Z (.int (b:Nat))]) O (af n) _ ⟨_,O⟩ ?_ λr' _=>?_
  ·rintro k p r ⟨x,rfl⟩;walk_at"w";refine iZ U (xH (aC.mp p)) ?_;walk_at"w";refine⟨?_,⟨_,O⟩,λ_=>trivial⟩;rw[bW,am,am];lia
  ·rw[w];walk_at"w";exact⟨ev (by rw[lM1];lia),O,trivial⟩
 rintro r V ⟨rfl,rfl⟩;have H:∀(o:Ob) (G:Sto),(o::(T++Ob.lst (eR g)::G))[T.length+1]?=Z (.lst (eR g)):=λo G=>wo (i:=0);refine eO (λr V=>∃fd e,(∀k∈fd,k∈g)/\fd.length<=g.length/\gp e (N+10)/\V=e::(T++[.lst (eR g),.lst (eR fd)])/\r=[Z (.ref 0),Z (.int (n:Nat)),Z (.int (b:Nat)),Z (.ref j),Z (.ref (T.length+1)),Z (.ref (T.length+2))]) ?_ ?_
 ·walk_at"w";refine eL (H o []) ?_;refine je (fun i A r V=>∃ fd e x,i<=g.length/\A=eR fd/\(∀ k∈fd,k∈g)/\fd.length<=i/\gp e (N+i)/\V=e::(T++[.lst (eR g)])/\r=[x,some (.ref 0)]) (eR g) 0 [] _ _ ⟨[],o,_,br _,rfl,fun k p=>(by cases p),nR1 _,ho,rfl,rfl⟩ (fun i A r V h=>by
   obtain⟨fd,e,x,_,_,_,_,_,rfl,_⟩:=h;exact iy (H e [])) ?_ ?_
  ·rintro i d B A r V ⟨fd,e,x,hi,rfl,s,v,u,rfl,rfl⟩;unfold eR at B;rw[gP1]at B;obtain⟨k,p,rfl⟩:=oM1.mp B;have wq:=(gE1.mp p).1;rw[bT]at *
   walk_at"w";refine fP u (by lia) (by lia) (by lia) λt z m ht=>?_;walk_at"w";split
   ·refine⟨fd++[k],z,_,by lia,by simp[eR],λy F=>?_,by simp;lia,m.more (by lia),O,O⟩;rcases aH.mp F with F|F
    ·exact s y F
    ·rw[c5.mp F];exact gM1 p
   ·exact⟨fd,z,_,by lia,O,s,by lia,m.more (by lia),O,O⟩
  ·rintro xs r V ⟨fd,e,x,hi,R,s,v,u,rfl,rfl⟩;rw[bg]at R;subst R;rw[iG,bT]at *
   walk_at"w";exact⟨ev (by lia),fd,e,s,v,u.more (by lia),by simp,trivial⟩
 rintro r V ⟨fd,e,s,v,u,rfl,rfl⟩;have P:∀(o:Ob) (a:Ob) (G:Sto),(o::(T++a::Ob.lst (eR fd)::G))[T.length+2]?=Z (.lst (eR fd)):=λo a G=>wo (i:=1);refine eO (λr V=>∃fd e G ao,(∀k∈fd,k∈g)/\fd.length<=g.length/\gp e (N+20)/\V=e::(T++G)/\V[ao]?=Z (.lst (eR fd))/\r=[Z (.ref 0),Z (.int (n:Nat)),Z (.int (b:Nat)),Z (.ref j),Z (.ref (T.length+1)),Z (.ref ao)]) ?_ ?_
 ·walk_at"w";have eV:∀(e x:Ob),e::(T++[Ob.lst (eR g),.lst (eR fd)])++[x]=e::(T++Ob.lst (eR g) :: .lst (eR fd)::[x]):=λe x=>by simp
  have l:(e::(T++Ob.lst (eR g) :: .lst (eR fd)::[Ob.lst []]))[T.length+3]?=Z (.lst []):=wo (i:=2);have aq:(e::(T++[Ob.lst (eR g),.lst (eR fd)])).length=T.length+3:=by simp
  simp only[bc,bt,bg,lA1,lC1,bn]at aq ⊢;rw[DP (P e _ [.lst []]) (by first|exact l|(rw[show T.length+3=T.length+(0+1+1)+1 by lia]at l;exact l))];walk_at"w";cases fd with
  |nil=>
   rw[ak (show(eR []).isEmpty=M from rfl)];refine eL (H e _) ?_;walk_at"w";rw[iG];refine fP u (by lia) (by lia) (by lia) λt z m ht=>?_;have av:t<g.length:=by lia
   walk_at"w";refine iZ (i:=t) (x:=.int (g[t]:Nat)) (H z _) (by unfold eR;rw[gP1,gG1 av];rfl) ?_;walk_at"w";refine⟨[g[t]],z,_,_,λk p=>?_,by simp;lia,m.more (by lia),O,?_,O⟩
   ·rw[c5.mp p];exact bY _
   ·rw[show T.length+4=T.length+1+3 by lia];exact wo
  |cons f fs=>
   rw[aj (show¬ (eR (f::fs)).isEmpty=M by simp[eR])];exact⟨f::fs,e,_,T.length+2,s,v,u.more (by lia),O,P e _ _,O⟩
 rintro r V ⟨L,z,G,ao,E,S,m,rfl,K,rfl⟩;walk_at"w";refine eL K ?_;exact⟨_,z,G,O,by rw[D.und];exact kw _,m.und,q L z (λk p=>I k (E k p)) (by lia) m⟩
theorem BC{chs:List (List Nat)}{i k:Nat}:cnt (chs.take i) k<=cnt chs k:=by
 unfold cnt;exact(List.Sublist.filter _ (aW _ _)).length_le
theorem sS:∀n:Nat,(aR n [D.int 0]).flatten=ctD (λ_=>0) n
 |0=>rfl
 |n+1=>by
  have ih:=sS n;unfold ctD at *
  rw[List.replicate_succ',de,ih,dH,cG];rfl
theorem JY{a:Wh}{S:Sto}:d6 (whD a) (.int 0) S=Z (.tup (eK a.1),S):=rfl
theorem JX{a:Wh}{S:Sto}:d6 (whD a) (.int 1) S=Z (.tup (eR a.2),S):=rfl
structure RtI (S:Sto)(n j:Nat)(fd sm:D)(c:Nat->Nat)(r:Ev)(V:Sto):Prop where
 mk ::
 ex:∃G kc y5 y6,V=S++G/\V[kc]?=some (.lst (ctD c n))/\r=[some fd,some (.ref j),some sm,some (.int (n:Nat)),some (.ref kc),y5,y6]
theorem Cq{m n j i:Nat}{w:ee}{e:E4}{L:List Rw}{rs cs:List Nat}{o:List Wh}{chs:List (List Nat)}{S V:Sto}{r:Ev}{c0:Nat->Nat}{Q:Fl×Ev×Sto->Prop}(hn:n=rs.length)(n8:n<=8)(hS:S[j]? = some (.lst (o.map whD)))(E:∀i,i<o.length->o[i]?=some (soW w e L cs rs (fun _=>i),cs))(h0:0<o.length)(hi:i<=chs.length)(u:il m w e L (chs.take i) (fb rs cs)=(soW w e L cs rs (cnt (chs.take i)),cs))(hc:∀k,k<n->cnt chs k<o.length)(X:∀a∈WsC m w e L chs (fb rs cs),ga m w a.1 a.2)(au:RtI S n j (.tup ((WsC m w e L chs (fb rs cs)).map whD)) (.tup (chs.map chD)) (if i=0 then cnt []else cnt (chs.take (i-1))) r V)(q:∀y g,RtI S n j (.tup ((WsC m w e L chs (fb rs cs)).map whD)) (.tup (chs.map chD)) (cnt (chs.take i)) y g->Q (.nx,y,g)):
  W (hR (r.set 5 (Z (.int (i:Nat)))) V) Q:=by
 obtain⟨G,kc,y5,y6,rfl,d,rfl⟩:=au.ex;have C:(WsC m w e L chs (fb rs cs))[i]?=Z (soW w e L cs rs (cnt (chs.take i)),cs):=by rw[EH hi,u]
 obtain⟨t,ht⟩:=Cd (X _ (gM1 C));have K:∀c,d6 (.tup ((WsC m w e L chs (fb rs cs)).map whD)) (.int (i:Nat)) c=Z (whD (soW w e L cs rs (cnt (chs.take i)),cs),c):=λc=>by
  obtain⟨p,e,h⟩:W (d6 (.tup ((WsC m w e L chs (fb rs cs)).map whD)) (.int (i:Nat)) c) λp=>p=(whD (soW w e L cs rs (cnt (chs.take i)),cs),c):=gC (by rw[gP1,C];rfl) O;rw[e,h]
 generalize D.tup ((WsC m w e L chs (fb rs cs)).map whD)=FD at *
 unfold hR;refine eO (λr g=>∃G kc,g=S++G/\g[kc]?=Z (.lst (ctD (cnt (chs.take i)) n))/\r=[Z FD,Z (.ref j),Z (.tup (chs.map chD)),Z (.int (n:Nat)),Z (.ref kc),Z (.int (i:Nat)),y6]) ?_ ?_
 ·by_cases z:i=0
  ·subst z;rw[ak O]at d;walk_at"w";exact⟨_,kc,O,d,O⟩
  ·rw [if_neg z] at d;obtain ⟨ch,H⟩:∃ ch,chs[i-1]? = some ch:=⟨_,gG1 (by lia)⟩;have I:chs.take i=chs.take (i-1)++[ch]:=by
    conv=>lhs;rw[show i=i-1+1 by lia,cH,H]
    rfl
   have U:∀c,d6 (.tup (chs.map chD)) (.int ((i-1:Nat):Int)) c=Z (chD ch,c):=λc=>by
    obtain⟨p,e,h⟩:W (d6 (.tup (chs.map chD)) (.int ((i-1:Nat):Int)) c) λp=>p=(chD ch,c):=gC (by rw[gP1,H];rfl) O;rw[e,h]
   have N:∀(k:Nat) c,im (.int k) (chD ch) c=Z (.bl (ch.contains k),c):=λk c=>qM;have av:∀(b:Bool) c,lF (.bl b) c=Z (.int (if b then 1 else 0),c):=λb c=>by cases b<;>rfl
   rw[I];walk_at"w";rw[ak (by rw[am];lia)];rw[iz,Int.toNat_natCast];refine⟨fz (by lia),?_⟩;refine oF (f:=λx:Nat=>D.int x) (λk:Nat=>D.int ((cnt (chs.take (i-1)) k+if ch.contains k then 1 else 0:Nat):Int)) (λr=>∃x,r=[x,Z (.ref kc),Z (.tup (chs.map chD)),Z (.int (i:Nat))]) O (af n) _ ⟨_,O⟩ ?_ λy _=>?_
   ·rintro k ao r ⟨x,rfl⟩;walk_at"w";refine iZ d (xH (aC.mp ao)) ?_;walk_at"w";rw[show((i:Int)-1)=((i-1:Nat):Int) by lia]
    ((try walk_at"w");repeat(simp only[U,N,av];try walk_at"w"))
    refine⟨?_,_,O⟩;cases ch.contains k<;>simp
   ·walk_at"w";refine⟨ev (by rw[lM1,dG];lia),G++[_],_,by rw[<- bc],?_,O⟩;rw[fY,dA]
    congr 2
    unfold ctD;exact dk λk _=>by rw[lK]
 rintro r g ⟨G2,l,rfl,s,rfl⟩;have B:(S++G2)[j]?=Z (.lst (o.map whD)):=iA hS;refine eO (λr g=>∃G3,g=S++G2++G3/\r=[Z FD,Z (.ref j),Z (.tup (chs.map chD)),Z (.int (n:Nat)),Z (.ref l),Z (.int (i:Nat)),Z (.tup (eK (soW w e L cs rs (cnt (chs.take i)))))]) ?_ ?_
 ·walk_at"w";rw[iz,Int.toNat_natCast];refine⟨fz (by lia),?_⟩;refine oF (f:=λx:Nat=>D.int x) (λk:Nat=>fm (Hx (one w e L cs) (cnt (chs.take i) k) (rs.getD k 0,0,0))) (λr=>∃x,r=[x,Z (.ref j),Z (.ref l)]) O (af n) _ ⟨_,O⟩ ?_ λy _=>?_
  ·rintro k ao r ⟨x,rfl⟩;have A:=aC.mp ao;have P:cnt (chs.take i) k<o.length:=bN BC (hc k A);have v:rs[k]?=Z (rs.getD k 0):=by rw[bP,gG1 (by lia)];rfl
   walk_at"w";refine iZ s (xH A) ?_;refine iZ B (x:=whD (soW w e L cs rs (λ_=>cnt (chs.take i) k),cs)) (by rw[gP1,E _ P];rfl) ?_
   ((try walk_at"w");repeat(simp only[JY];try walk_at"w"))
   refine gC (i:=k) (x:=fm (Hx (one w e L cs) (cnt (chs.take i) k) (rs.getD k 0,0,0))) (by rw[eK,gP1,wz,v];rfl) ?_;exact⟨O,O,_,O⟩
  ·have e1:(List.range n).map (fun k:Nat=>fm (Hx (one w e L cs) (cnt (chs.take i) k) (rs.getD k 0,0,0)))=eK (soW w e L cs rs (cnt (chs.take i))):=by
    apply b7;intro k;rw[eK,gP1,gP1,wz];by_cases z:k<n
    ·have v:rs[k]?=Z (rs.getD k 0):=by rw[bP,gG1 (by lia)];rfl
     rw[cO z,v];rfl
    ·rw[b8 (by rw[dG];lia),b8 (by lia)];rfl
   rw[e1];walk_at"w";refine⟨ev (by rw[i0,Fe];lia),?_⟩;refine eL (xs:=eK (soW w e L cs rs (cnt (chs.take i)))) (by rw[fY,dA]) ?_;exact⟨_,O,O⟩
 rintro r g ⟨G3,rfl,rfl⟩;have R:(S++G2++G3)[j]?=Z (.lst (o.map whD)):=iA B;have hq:=λy=>q y (S++G2++G3);have T:RtI S n j FD (.tup (chs.map chD)) (cnt (chs.take i)) [Z FD,Z (.ref j),Z (.tup (chs.map chD)),Z (.int (n:Nat)),Z (.ref l),Z (.int (i:Nat)),Z (.tup (eK (soW w e L cs rs (cnt (chs.take i)))))] (S++G2++G3):=⟨G2++G3,l,_,_,by rw[bc],iA s,O⟩;generalize S++G2++G3=V3 at *
 have aq:∀Q:D×Sto->Prop,Q (whD (soW w e L cs rs (λ_=>0),cs),V3)->W (d6 (.ref j) (.int 0) V3) Q:=λQ q=>iZ (i:=0) R (by rw[gP1,E 0 h0];rfl) q;obtain⟨p0,wq,rfl⟩:=aq (λp=>p=(whD (soW w e L cs rs (λ_=>0),cs),V3)) O;have ed:D.tup [.tup (eK (soW w e L cs rs (cnt (chs.take i)))),.tup (eR cs)]=whD (soW w e L cs rs (cnt (chs.take i)),cs):=rfl;have F:∀S,m3 (whD (soW w e L cs rs (cnt (chs.take i)),cs)) S=Z (.str t,S):=ht
 ((try walk_at"w");repeat(simp only[K,F,wq,JX];try walk_at"w"))
 rw[ed]
 ((try walk_at"w");repeat(simp only[F,z8];try walk_at"w"))
 exact hq _ T
theorem Cn{m n j:Nat}{w:ee}{e:E4}{L:List Rw}{rs cs:List Nat}{p:List Wh}{chs:List (List Nat)}{S:Sto}{Q:D×Sto->Prop}(hn:n=rs.length)(C:n<=8)(H:S[j]? = some (.lst (p.map whD)))(s:S.all (Ob.und S.length)=true)(x:∀i,i<p.length->p[i]?=some (soW w e L cs rs (fun _=>i),cs))(h0:0<p.length)(g:∀i,il m w e L (chs.take i) (fb rs cs)=(soW w e L cs rs (cnt (chs.take i)),cs))(hc:∀k,k<n->cnt chs k<p.length)(z:∀a∈WsC m w e L chs (fb rs cs),ga m w a.1 a.2)(ao:chs.length<=400)(q:Q (.bl true,S)):
  W (d8 4 gz [.tup ((WsC m w e L chs (fb rs cs)).map whD),.ref j,.tup (chs.map chD),.int n] S) Q:=by
 refine lO O (by simp[D.unds,D.und]) ?_;unfold gz;refine mx ?_;unfold lR;have A:=λi r V Q hi b q=>Cq (i:=i) (r:=r) (V:=V) (c0:=cnt []) (Q:=Q) hn C H x h0 hi (g i) hc z b q;have f:((WsC m w e L chs (fb rs cs)).map whD).length=chs.length+1:=by rw[lM1,BQ]
 generalize (WsC m w e L chs (fb rs cs)).map whD=fd at *
 refine eO (λr V=>RtI S n j (.tup fd) (.tup (chs.map chD)) (cnt []) r V) ?_ ?_
 ·walk_at"w";refine v7 (xs:=[.int 0]) (k:=n) (by rw[dA]) (by lia) (by decide) ?_;rw[sS];exact⟨_,_,_,_,by rw[bc],by rw[dA];rfl,O⟩
 rintro r V b;refine eO (λr V=>RtI S n j (.tup fd) (.tup (chs.map chD)) (cnt []) r V) ?_ ?_
 ·obtain⟨G,kc,u,y,rfl,h,rfl⟩:=b.ex;have it:Hv (yB .tuple (mV 0)) [Z (.tup fd),Z (.ref j),Z (.tup (chs.map chD)),Z (.int (n:Nat)),Z (.ref kc),u,y] (S++G)=Z (M,S++G):=rfl;generalize Hv (yB .tuple (mV 0))=aq at *
  ((try walk_at"w");repeat(simp only[it,gj,f,lM1];try walk_at"w"))
  rw[show((chs.length+1:Nat):Int)=(chs.length:Int)+1 by push_cast;rfl];simp;exact⟨_,_,_,_,O,h,O⟩
 rintro r V b;refine eO (λr V=>∃c,RtI S n j (.tup fd) (.tup (chs.map chD)) c r V) ?_ ?_
 ·have E:r[0]? = some (some (.tup fd)):=by
   obtain⟨G,kc,u,y,rfl,h,rfl⟩:=b.ex;rfl
  have B:d4 (mN (b1 fc) (d4 (mV 0) d5)) d5 r V=Z ([.int (chs.length+1:Nat)],V):=by
   simp only[d4,d5,mN,mV,b1,E,oS1,gj,f]
  unfold hC;rw[ei,BU];refine W.of B ?_;unfold Hu;dsimp only;rw[iz,Int.toNat_natCast];refine⟨fz (by lia),?_⟩;refine fJ (λi r V=>i<=chs.length+1/\RtI S n j (.tup fd) (.tup (chs.map chD)) (if i=0 then cnt []else cnt (chs.take (i-1))) r V) _ 0 _ _ ⟨by lia,b⟩ (λ_ _ _ _=>rfl) ?_ ?_
  ·rintro i d l r V ⟨hi,b⟩;have o:=(gE1.mp l).1;rw [lM1,dG] at o;have v:d = .int (i:Nat):=by
    rw[gP1,cO o]at l;exact(Option.some.inj l).symm
   subst v;rw[bT]at *
   have F:gN 5 (.int (i:Nat)) r V=Z (r.set 5 (Z (.int (i:Nat))),V):=rfl;refine⟨_,F,?_⟩;dsimp only;refine A i r V _ (by lia) b λI K t=>?_;refine⟨O,by lia,?_⟩;rw[aj (by lia),Nat.add_sub_cancel];exact t
  ·rintro r V ⟨hi,b⟩;exact⟨O,_,b⟩
 rintro r V ⟨c,b⟩;obtain⟨G,kc,u,y,rfl,h,rfl⟩:=b.ex;walk_at"w";rw[vQ O s];exact q
theorem xQ{f:FN}{n h:Nat}{es:List D}{o:Ob}{S:Sto}{Q:D×Sto->Prop}(hn:es.length+1=n)(he:D.unds 0 es=M)(i:S[h]? = Z o)(ho:o.und 0=M)(q:W (d8 n f (.ref 0::es) [o]) λp=>∃o' G,p.2=o'::G/\o'.und 0=M/\(if p.1.und 0=M then G=[]/\Q (p.1,S.set h o')else(p.1.mv h S.length).und S.length=J/\Q (p.1.mv h S.length,S.set h o'++G.map (Ob.mv h S.length)))):W (d8 n (apart f) (.ref h::es) S) Q:=by
 obtain⟨⟨d,j⟩,e,o',G,g,b,a⟩:=q;dsimp only at g a;subst g;unfold d8 at e ⊢;rw[ak (by simpa using hn)]at e ⊢;have c:D.unds 0 (.ref h::es)=J:=by simp[D.unds,D.und]
 unfold m7;rw[aj (by rw[c];decide)];unfold apart;dsimp only;rw[ak he,i,oS1,ak ho,e,oS1];dsimp only;rw[ak b];cases hd:d.und 0 with
 |true=>
  rw[hd,ak O]at a;rw[ak O,oP1,gc_same (by simp)];exact⟨_,O,a.2⟩
 |false=>
  rw[hd,aj (by decide)]at a;rw[aj (by decide),oP1];have:gc S.length (d.mv h S.length,S.set h o'++G.map (Ob.mv h S.length))=(d.mv h S.length,S.set h o'++G.map (Ob.mv h S.length)):=by
   unfold gc;rw[a.1];rfl
  rw[this];exact⟨_,O,a.2⟩
mutual
theorem oE{h n:Nat}:∀{d:D},d.und 0=M->d.mv h n=d
 | .non,_=>rfl
 | .bl _,_=>rfl
 | .int _,_=>rfl
 | .str _,_=>rfl
 | .tup xs,q=>by rw[D.und]at q;rw[D.mv,nH q]
 | .rol xs,q=>by rw[D.und]at q;rw[D.mv,nH q]
 | .fn _,_=>rfl
 | .ref k,q=>by simp[D.und]at q
theorem nH{h n:Nat}:∀{ds:List D},D.unds 0 ds=M->D.mvs h n ds=ds
 |[],_=>rfl
 |d::ds,q=>by
  rw[D.unds,bA1]at q;rw[D.mvs,oE q.1,nH q.2]
end
theorem Ay{h n:Nat}:∀{o:Ob},o.und 0=M->o.mv h n=o
 | .lst xs,q=>by rw[Ob.und]at q;rw[Ob.mv,nH q]
 | .dct xs,q=>by
  rw[Ob.und]at q;rw[Ob.mv]
  congr 1
  induction xs with
  |nil=>rfl
  |cons p xs ih=>rw[mP1,D.unds,bA1]at q;rw[mP1,oE q.1,ih q.2]
 | .dcT xs,q=>by
  rw[Ob.und]at q;rw[Ob.mv]
  congr 1
  induction xs with
  |nil=>rfl
  |cons p xs ih=>rw[mP1,D.unds,bA1]at q;rw[mP1,oE q.1,ih q.2]
 | .dcF xs,q=>by
  rw[Ob.und]at q;rw[Ob.mv]
  congr 1
  induction xs with
  |nil=>rfl
  |cons p xs ih=>rw[mP1,D.unds,bA1]at q;rw[mP1,oE q.1,ih q.2]
 | .iset _,_=>rfl
 | .tst _,_=>rfl
theorem wT{h n:Nat}:∀{G:Sto},G.all (Ob.und 0)=M->G.map (Ob.mv h n)=G
 |[],_=>rfl
 |o::G,q=>by
  rw[bV,bA1]at q;rw[mP1,Ay q.1,wT q.2]
theorem xS{S:Sto}{n i:Nat}{o:Ob}(h:S.all (Ob.und n)=M)(ho:o.und n=M):(S.set i o).all (Ob.und n)=M:=by
 rw[bI]at h ⊢;intro x a;rcases List.mem_or_eq_of_mem_set a with z|z
 ·exact h x z
 ·rw[z];exact ho
theorem lT{f:FN}{n h:Nat}{es:List D}{o:Ob}{S:Sto}{Q:D×Sto->Prop}(hn:es.length+1=n)(he:D.unds 0 es=M)(a:S[h]? = Z o)(ho:o.und 0=M)(q:W (d8 n f (.ref 0::es) [o]) λp=>∃o',p.2=[o']/\o'.und 0=M/\p.1.und 0=M/\Q (p.1,S.set h o')):W (d8 n (apart f) (.ref h::es) S) Q:=
 xQ hn he a ho (q.mono λp ⟨o',e,h1,h2,b⟩=>⟨o',[],e,h1,by rw[ak h2];exact⟨O,b⟩⟩)
theorem wv{h n:Nat}{k:Int}{o:Ob}{S:Sto}{Q:D×Sto->Prop}(e:S[h]? = Z o)(ho:gp o n)(hn:n<=2^50)(hk:0<k)(b:k<1073741824)(q:∀(d:Nat) o',gp o' (n+1)->(d:Int)<k->Q (.int d,S.set h o')):W (d8 2 (apart d7) [.ref h,.int k] S) Q:=by
 refine lT O O e ho.und ?_;refine fP ho hn hk b λd o' a c=>?_;exact⟨o',O,a.und,O,q d o' a c⟩
theorem Bv{m:Nat}{w:ee}{e:E4}{rs cs:List Nat}{o:Ob}{T:Sto}{n b:Nat}{Q:D×Sto->Prop}(hw:lU m w)(hm:m<=8)(hst:v8 m rs cs)(ho:gp o n)(hn:n<=2^35)(hb:b<=400)(d:b*rs.length<=3000)(q:∀F L a o' G,RN e F->RL e (gW F) L->pV m w e F rs.length a->a.length=b+1->a[0]?=some (fb rs cs)->gp o' (n+100*b)->G.all (Ob.und 0)=true->G[2]?=some (.lst (a.map whD))->Q (.tup [mcD e L,.ref (T.length+3)],o'::(T++G))):
  W (d8 5 (apart e6) [.ref 0,webD w,nv e,standD rs cs,.int b] (o::T)) Q:=by
 refine xQ O (by simp[D.unds,fS,nI,iK];rfl) O ho.und ?_;refine DT hw hm hst ho hn hb d λF L a o' G l h p f g c i h2=>?_;refine⟨o',G,O,c.und,?_⟩;have j:(D.tup [mcD e L,.ref 3]).und 0=J:=by simp[D.und,D.unds]
 rw[j,aj (by decide)];have k:(D.tup [mcD e L,.ref 3]).mv 0 (o::T).length = .tup [mcD e L,.ref (T.length+3)]:=by
  rw[D.mv,D.mvs,D.mvs,D.mvs,oE (lh h.ok),D.mv];rfl
 dsimp only;rw[k,wT i];exact⟨by simp[D.und,D.unds,lC1],q F L a o' G l h p f g c i h2⟩
def Lk(a b c d:Bool):List Str:=(if a then[("came":Str)]else[])++(if b then[("chalk":Str)]else[])++(if c then[("doors":Str)]else[])++(if d then[("others":Str)]else[])
theorem Jd(a b c d:Bool):ff a b c d=(Lk a b c d).map D.str:=by cases a<;>cases b<;>cases c<;>cases d<;>rfl
theorem GZ(a b c d:Bool):((Lk a b c d).filter λx=>x != ("others":Str)).map D.str=ff a b c J:=by cases a<;>cases b<;>cases c<;>cases d<;>rfl
theorem GY{a b c d:Bool}{r:Ev}{S S2:Sto}{Q:D×Sto->Prop}{m:FE}(hr:oK 1 [] r=[none])(hm:m r S=some (.tup (ff a b c d),S2))(q:Q (.tup (ff a b c false),S2++[.lst (ff a b c false)])):
  W (mN (b1 gTup) (d4 (fe 1 [] (iU m) (gN 0) (mB (m2 (b2 GW) (mV 0) (mC (D.str "others")))) (eQ (mV 0))) d5) r S) Q:=by
 refine Ed ?_;rw[jl];rw[BS];refine⟨_,hm,?_⟩;dsimp only;rw[hK];rw[hr,Jd];refine gH (f:=D.str) (λx:Str=>x != ("others":Str)) D.str (λr=>∃x,r=[x]) O _ _ ⟨_,O⟩ ?_ λg _=>?_
 ·rintro x h r ⟨y,rfl⟩;walk_at"w";exact⟨O,⟨_,O⟩,λ_=>trivial⟩
 ·rw[GZ];have e:(ff a b c J).length<=5:=by cases a<;>cases b<;>cases c<;>decide
  generalize ff a b c J=es at *
  walk_at"w";refine⟨ev (by lia),?_⟩;exact eL (by rw[dA]) q
theorem uw{α:Type}(f:α->Nat):∀l:List α,qC (l.map λk=>D.int (f k:Nat))=Z (l.map λk=>(f k:Int))
 |[]=>rfl
 |k::l=>by rw[mP1,mP1,qC,uw f l];rfl
theorem Ha{c:Nat->Nat}{n j b:Nat}{V:Sto}(h:V[j]?=Z (.lst (ctD c n)))(hn:0<n):∃x:Int,uB (.ref j) V=Z (.int x,V)/\(x<b -> ∃k,k<n/\c k<b):=by
 have a:(af n).map (λk=>(c k:Int))≠[]:=by
  intro z;have:=congrArg List.length z;rw[lM1,dG]at this;simp at this;lia
 have f:=(sB a).1;refine⟨pJ ((af n).map λk=>(c k:Int)),?_,λg=>?_⟩
 ·simp only[uB,et,h];unfold ctD;rw[uw,oS1,aj a]
 ·obtain⟨k,d,e⟩:=cj.mp f;exact⟨k,aC.mp d,by rw[<- e]at g;lia⟩
structure Tn (n b i:Nat)(W0:List D)(kr kc:Nat)(chs:List (List Nat))(V:Sto):Prop where
 ex:∃o T,V=o::T/\gp o (60000+20*i)/\T.all (Ob.und 0)=true
 ws:V[4]?=some (.lst W0)
 lt:4<kr
 pc:4<kc
 ne:kr≠kc
 rw:V[kr]?=some (.lst (chs.map chD))
 ct:V[kc]?=some (.lst (ctD (cnt chs) n))
 le:∀k,k<n->cnt chs k<=b
 len:chs.length<=i
noncomputable def rZ(y0 y1 y3 y4 y5 y8:Option D)(b n kr kc:Nat)(y12 y13 y14 y15:Option D):Ev:=[y0,y1,Z (.ref 0),y3,y4,y5,Z (.int (b:Nat)),Z (.int (n:Nat)),y8,Z (.ref 4),Z (.ref kr),Z (.ref kc),y12,y13,y14,y15]
theorem Jl{n b i kr kc:Nat}{ao:List D}{chs:List (List Nat)}{V:Sto}{y0 y1 aq y4 K av y12 m y14 e:Option D}{Q:Fl×Ev×Sto->Prop}(S:0<n)(R:n<=8)(hi:i<400)(hb:b<=100)(s:Tn n b i ao kr kc chs V)(q:∀g l L,Tn n b (i+1) ao kr g l L->Q (.nx,rZ y0 y1 aq y4 K av b n kr g y12 m y14 e,L)):W (sj (rZ y0 y1 aq y4 K av b n kr kc y12 m y14 e) V) Q:=by
 obtain⟨x,ex,hx⟩:=Ha (b:=b) s.ct S;unfold sj;unfold rZ
 ((try walk_at"w");repeat(simp only[ex];try walk_at"w"))
 split
 ·rename_i u;rw [decide_eq_true_eq] at u;refine iY ?_;simp (implicitDefEqProofs:=false) only [mN,d4,mV,gC1,dz,d5,oS1,ei,eN,b2];refine ⟨kr,_,rfl,s.rw,?_⟩;obtain ⟨o,T,rfl,C,v⟩:=s.ex;refine BF (N:=60000+20*i) C (by lia) (Hi v _) s.ct (by have:=s.pc;lia) R (hx u) fun ch o' I P y=>?_;have wq:=s.lt;have l4:=s.pc;have l5:=s.ne;have lk:=(gE1.mp s.rw).1;have lc:=(gE1.mp s.ct).1;have B:∀ {j:Nat} {x:Ob},0<j->(o::T)[j]? = some x->(o'::T)[j]? = some x:=fun {j x} hj h=>by
   obtain⟨i,rfl⟩:∃i,j=i+1:=⟨j-1,by lia⟩;exact h
  refine(lW (B (by lia) s.rw)).mpr ⟨ev (by rw[lM1];have:=s.len;lia),?_⟩;have U:chs.map chD++[chD ch]=(chs++[ch]).map chD:=by rw[cG];rfl
  rw[U];obtain⟨a,E,z,d,t,h4⟩:∃a:Sto,a.all (Ob.und 0)=true/\(o'::T).set kr (.lst ((chs++[ch]).map chD))=o'::a/\(o'::a)[kr]?=some (.lst ((chs++[ch]).map chD))/\(o'::a)[kc]?=some (.lst (ctD (cnt chs) n))/\(o'::a)[4]?=some (.lst ao):=by
   obtain⟨H,rfl⟩:∃i,kr=i+1:=⟨kr-1,by lia⟩;refine⟨T.set H (.lst ((chs++[ch]).map chD)),xS v (by rw[Ob.und];exact lN _ 0),O,?_,?_,?_⟩
   ·rw[gC1,aJ (by rw[lC1]at lk;lia)]
   ·have:=B (by lia) s.ct;rw[<- db,gS1 l5];exact this
   ·have:=B (by decide) s.ws;rw[<- db,gS1 (by lia)];exact this
  rw[z];rw[iz,Int.toNat_natCast];refine⟨fz (by lia),?_⟩;have F:∀(k:Nat) c,im (.int k) (chD ch) c=Z (.bl (ch.contains k),c):=λk c=>qM;have G:∀(b:Bool) c,lF (.bl b) c=Z (.int (if b then 1 else 0),c):=λb c=>by cases b<;>rfl
  have w:((chs++[ch]).map chD)[chs.length]?=Z (chD ch):=by rw[gP1,dA];rfl
  refine oF (f:=λx:Nat=>D.int x) (λk:Nat=>D.int ((cnt chs k+if ch.contains k then 1 else 0:Nat):Int)) (λr=>∃x,r=[x,Z (.ref kc),Z (.ref kr)]) O (af n) _ ⟨_,O⟩ ?_ λr' _=>?_
  ·rintro k A r ⟨x,rfl⟩;walk_at"w";refine iZ t (xH (aC.mp A)) ?_
   ((try walk_at"w");repeat(simp only[Bg];try walk_at"w"))
   refine xU d (by rw[lM1,lA1];rfl) w ?_
   ((try walk_at"w");repeat(simp only[F,G];try walk_at"w"))
   refine⟨?_,_,O⟩;cases ch.contains k<;>simp
  ·refine ⟨ev (by dsimp only;rw [lM1,dG];lia),?_⟩;have e1:(List.range n).map (fun k:Nat=>D.int ((cnt chs k+if ch.contains k then 1 else 0:Nat):Int))=ctD (cnt (chs++[ch])) n:=by
    unfold ctD;exact dk λk _=>by rw[lK]
   dsimp only;rw[e1];have lo:∀{j:Nat} {x:Ob},(o'::a)[j]?=Z x->(o'::a++[Ob.lst (ctD (cnt (chs++[ch])) n)])[j]?=Z x:=λ{j x} h=>by
    rw[gL1 (gE1.mp h).1];exact h
   have au:=(gE1.mp d).1;have X:=(gE1.mp t).1;refine q (o'::a).length (chs++[ch]) _ ⟨⟨o',a++[.lst (ctD (cnt (chs++[ch])) n)],O,y.more (by lia),?_⟩,lo h4,wq,by lia,by lia,lo d,by rw[dA],λk A=>?_,by rw[lA1,bf];have:=s.len;lia⟩
   ·rw[dJ,E,bV,Ob.und,BA];rfl
   ·rw[lK];split
    ·rename_i p;have:=(I k (by rw[cT]at p;exact p)).2;lia
    ·exact s.le k A
 ·obtain⟨o,T,hV,C,v⟩:=s.ex;exact q kc chs V ⟨⟨o,T,hV,C.more (by lia),v⟩,s.ws,s.lt,s.pc,s.ne,s.rw,s.ct,s.le,by have:=s.len;lia⟩
theorem tT{x:List Nat}:∀b:Nat,(aR b [chD x]).flatten=(aR b x).map chD
 |0=>rfl
 |b+1=>by rw[aY,aZ,tT b,aY];rfl
noncomputable def zr(b:Nat):Nat->List (List Nat)
 |0=>[]
 |i+1=>zr b i++aR b [i]
theorem sY(b:Nat):∀i,(zr b i).length=i*b
 |0=>(Nat.zero_mul b).symm
 |i+1=>by rw[zr,lA1,sY b i,lR1,Nat.succ_mul]
theorem DZ{a c:List (List Nat)}{k:Nat}:cnt (a++c) k=cnt a k+cnt c k:=by unfold cnt;rw[dI,lA1]
theorem DY{b i k:Nat}:cnt (aR b [i]) k=if i=k then b else 0:=by
 unfold cnt;have e:([i]:List Nat).contains k=decide (i=k):=by
  rw[bW,cT,c5,am];exact eq_comm
 by_cases z:i=k
 ·rw[ak z,List.filter_replicate,e,ak (by rw[am];exact z),lR1]
 ·rw[aj z,List.filter_replicate,e,aj (by rw[am];exact z)];rfl
theorem xR(b:Nat):∀i k,cnt (zr b i) k=if k<i then b else 0
 |0,k=>by rw[aj (by lia)];rfl
 |i+1,k=>by
  rw[zr,DZ,xR b i k,DY];by_cases z:k<i
  ·rw[ak z,aj (by lia),ak (by lia)];rfl
  ·rw[aj z];by_cases y:i=k
   ·rw[ak y,ak (by lia),bT]
   ·rw[aj y,aj (by lia)]
def rA(y0 y1 y3 y4 y5 y8:Option D)(b n kr kc ka:Nat)(y12 y14 y15:Option D):Ev:=rZ y0 y1 y3 y4 y5 y8 b n kr kc y12 (Z (.ref ka)) y14 y15
structure An (n b i:Nat)(W0:List D)(kr ka:Nat)(chs:List (List Nat))(V:Sto):Prop where
 cl:V.all (Ob.und 0)=true
 ws:V[4]?=some (.lst W0)
 lt:4<ka
 ne:kr≠ka
 rw:V[kr]?=some (.lst (chs.map chD))
 al:V[ka]?=some (.lst ((zr b i).map chD))
theorem sZ{V:Sto}{o:Ob}(h:V.all (Ob.und 0)=M)(ho:o.und 0=M):(V++[o]).all (Ob.und 0)=M:=by rw[dJ,h,bV,ho];rfl
theorem Ea{n b i kr kc ka:Nat}{g:List D}{chs:List (List Nat)}{V:Sto}{y0 y1 l y4 f m y12 a:Option D}{Q:Fl×Ev×Sto->Prop}(hi:i<n)(v:n<=8)(hb:b<=100)(s:An n b i g kr ka chs V)(q:∀o,An n b (i+1) g kr ka chs o->Q (.nx,rA y0 y1 l y4 f m b n kr kc ka y12 (Z (.int (i:Nat))) a,o)):W (si (rA y0 y1 l y4 f m b n kr kc ka y12 (Z (.int (i:Nat))) a) V) Q:=by
 unfold si fF;rw[ei];refine iY ?_;unfold rA rZ;walk_at"w";refine⟨ka,_,O,s.al,?_⟩;refine v7 (xs:=[.tup [.int (i:Nat)]]) (k:=b) (by rw[dA]) (by lia) (by rw[bf];decide) ?_;have r:(aR b [D.tup [D.int (i:Nat)]]).flatten=(aR b [i]).map chD:=tT (x:=[i]) b;rw[r];have p:(zr b i).length<=800:=by
  rw[sY];exact aD (di (by lia:i<=8) hb) (by decide)
 have e:∀{j:Nat} {x:Ob} {c d:Ob},V[j]?=Z x->(V++[c]++[d])[j]?=Z x:=λ{j x c d} h=>iA (iA h);refine W.of (x:=(.non,(V++[Ob.lst [.tup [.int (i:Nat)]]]++[Ob.lst ((aR b [i]).map chD)]).set ka (.lst ((zr b i).map chD++(aR b [i]).map chD)))) ?_ ?_
 ·have h1:(V++[Ob.lst [.tup [.int (i:Nat)]]]++[Ob.lst ((aR b [i]).map chD)])[ka]?=Z (.lst ((zr b i).map chD)):=e s.al;have h2:(V++[Ob.lst [.tup [.int (i:Nat)]]]++[Ob.lst ((aR b [i]).map chD)])[(V++[Ob.lst [.tup [.int (i:Nat)]]]).length]?=Z (Ob.lst ((aR b [i]).map chD)):=by rw[dA]
  simp only[DN,h1,h2];rw[ak (aD (by rw[lM1,lM1,lR1];lia:_<=10000) (by decide))]
 ·have t:∀ (c d:Ob),ka<(V++[c]++[d]).length:=fun c d=>by
   have:=(gE1.mp s.al).1;simp only[lA1,bf];lia
  have u:=s.lt;have ne:=s.ne;refine q _ ⟨xS (sZ (sZ s.cl O) ?_) ?_,?_,s.lt,s.ne,?_,?_⟩
  ·rw[Ob.und];exact lN _ 0
  ·rw[<- cG,Ob.und];exact lN _ 0
  ·rw[gS1 (by lia)];exact e s.ws
  ·rw[gS1 (by lia)];exact e s.rw
  ·rw[aJ (t _ _),<- cG];rfl
theorem Kr{m n b kr kc ka:Nat}{w:ee}{e:E4}{F:List (TK×D)}{L:List Rw}{rs cs:List Nat}{c:List Wh}{chs:List (List Nat)}{V:Sto}{y0 y1 y4 y12 y14:Option D}{Q:Fl×Ev×Sto->Prop}(hw:lU m w)(hm:m<=8)(hst:v8 m rs cs)(hs:cs.Sublist (af m))(he:e.2.2.2=J)(p:RN e F)(a:RL e (gW F) L)(h:pV m w e F rs.length c)(l:c.length=b+1)(h0:c[0]?=Z (fb rs cs))(hn:n=rs.length)(j:n<=8)(o:V.all (Ob.und 0)=M)(r:V[4]?=Z (.lst (c.map whD)))(hc:∀k,k<n->cnt chs k<=b)(d:chs.length<=400)(q:Q (.nx,rA y0 y1 (Z (webD w)) y4 (Z (standD rs cs)) (Z (mcD e L)) b n kr kc ka y12 y14 (Z (.tup (chs.map chD))),V)):W (se (rA y0 y1 (Z (webD w)) y4 (Z (standD rs cs)) (Z (mcD e L)) b n kr kc ka y12 y14 (Z (.tup (chs.map chD)))) V) Q:=by
 have f:=sX hw hm hst;unfold se;unfold rA rZ at *
 walk_at"w";refine rP hw hm hst a.inc a.ok a.len d ?_;walk_at"w";refine Cn hn j r (Hi o _) (zF he p a h h0 hs) (by lia) (λi=>A2 he f a.ok hs _ _ O) (λk g=>by have:=hc k g;lia) (Js a.ok f) d ?_;walk_at"w";exact q
theorem H9:aR 15 (Y:Option D)=[Y,Y,Y,Y,Y,Y,Y,Y,Y,Y,Y,Y,Y,Y,Y]:=rfl
theorem EV(ns:List Int)(k:Int)(h0:0<=k)(hk:k<63):W (sd [Z (.rol (ns.map D.int)),Z (.int k),Y,Y,Y,Y,Y,Y,Y,Y,Y,Y,Y,Y,Y,Y] []) λp=>p.1 = .nx /\ ∃r9,p.2.1=Z (.rol (ns.map D.int))::r9/\r9.length=15:=by
 unfold sd;generalize hN:D.rol (ns.map D.int)=N;refine eO (λr S=>∃o,gp o 0/\S=[o]/\r=[Z N,Z (.int k),Z (.ref 0),Y,Y,Y,Y,Y,Y,Y,Y,Y,Y,Y,Y,Y]) ?_ ?_
 ·obtain⟨o,e,v⟩:=DE ns k h0 hk;rw[hN]at e
  ((try walk_at"w");repeat(simp only[e];try walk_at"w"))
  exact⟨o,v,O,trivial⟩
 rintro r S ⟨o,v,rfl,rfl⟩;refine eO (λr S=>∃(m:Nat) (w:ee) (o:Ob),0<m/\m<=8/\lU m w/\gp o 100/\S=[o]/\r=[Z N,Z (.int k),Z (.ref 0),Z (webD w),Y,Y,Y,Y,Y,Y,Y,Y,Y,Y,Y,Y]) ?_ ?_
 ·walk_at"w";refine lT O O O v.und ?_;refine HE (T:=[]) v (by lia) O λm w q hm0 hm hw g=>?_;refine⟨q,O,g.und,fS w,?_⟩;walk_at"w";exact⟨m,w,q,hm0,hm,hw,g.more (by lia),O,O⟩
 rintro r S ⟨m,w,o,hm0,hm,hw,v,rfl,rfl⟩;refine eO (λr S=>∃(e:E4) (o t:Ob),e.2.2.2=J/\gp o 200/\t.und 0=M/\S=[o,t]/\r=[Z N,Z (.int k),Z (.ref 0),Z (webD w),Z (nv e),Y,Y,Y,Y,Y,Y,Y,Y,Y,Y,Y]) ?_ ?_
 ·unfold eE;rw [ei];obtain ⟨⟨d,S⟩,e1,a,b,c,z,q,rfl,rfl,g⟩:W (d8 1 (apart fh) [.ref 0] [o]) fun p=>∃ a b c z q,p.1 = .tup (ff a b c z)/\p.2=[q]/\gp q 104:=by
   refine lT O O O v.und ?_;refine GX (T:=[]) v (by lia) O λa b c z q g=>?_;exact⟨q,O,g.und,by rw[D.und];exact iW a b c z,a,b,c,z,q,O,O,g⟩
  refine GY (a:=a) (b:=b) (c:=c) (d:=z) (S2:=[q]) O (by simp only[mN,d4,mV,d5,gC1,dz,oS1,e1]) ?_;walk_at"w";exact⟨(a,b,c,J),q,_,O,g.more (by lia),by rw[Ob.und];exact iW a b c J,O,O⟩
 rintro r S ⟨e,o,t,he,v,ht,rfl,rfl⟩;refine eO (λr S=>∃(rs C:List Nat) (o:Ob),v8 m rs C/\C.Sublist (af m)/\rs≠[]/\rs.length<=4/\gp o 300/\S=[o,t]/\r=[Z N,Z (.int k),Z (.ref 0),Z (webD w),Z (nv e),Z (standD rs C),Y,Y,Y,Y,Y,Y,Y,Y,Y,Y]) ?_ ?_
 ·((try walk_at"w");repeat(simp only[w6];try walk_at"w"))
  rw[hw.len];refine lT O O O v.und ?_;refine vm (T:=[]) (most:=4) hm0 hm (by lia) (by lia) v (by lia) O λrs C q aq E X hl g=>?_;refine⟨q,O,g.und,iK rs C 0,?_⟩;walk_at"w";exact⟨rs,C,q,aq,E,X,hl,g.more (by lia),O,O⟩
 rintro r S ⟨rs,C,o,aq,E,X,hrl,v,rfl,rfl⟩;have n0:0<rs.length:=cP.mpr X;refine eO (λr S=>∃(b:Nat) (o:Ob),b<=20/\gp o 301/\S=[o,t]/\r=[Z N,Z (.int k),Z (.ref 0),Z (webD w),Z (nv e),Z (standD rs C),Z (.int (b:Nat)),Z (.int (rs.length:Nat)),Y,Y,Y,Y,Y,Y,Y,Y]) ?_ ?_
 ·have st0:∀S,d6 (standD rs C) (.int 0) S=Z (.tup (eR rs),S):=λS=>rfl;walk_at"w";refine wv O v (by lia) (by lia) (by lia) λd q g hd=>?_
  ((try walk_at"w");repeat(simp only[st0,gj,iG];try walk_at"w"))
  exact⟨d,q,by lia,g,O,O⟩
 rintro r S ⟨b,o,hb,v,rfl,rfl⟩;have hlim:b*rs.length<=3000:=aD (di hb hrl) (by decide);refine eO (λr S=>∃F L A o G,RN e F/\RL e (gW F) L/\pV m w e F rs.length A/\A.length=b+1/\A[0]?=Z (fb rs C)/\gp o 50000/\G.all (Ob.und 0)=M/\G[3]?=Z (.lst (A.map whD))/\S=o::G/\r=[Z N,Z (.int k),Z (.ref 0),Z (webD w),Z (nv e),Z (standD rs C),Z (.int (b:Nat)),Z (.int (rs.length:Nat)),Z (mcD e L),Z (.ref 4),Y,Y,Y,Y,Y,Y]) ?_ ?_
 ·walk_at"w";refine Bv (T:=[t]) hw hm aq v (by lia) (by lia) hlim λF L A q G hF rl hW hWl hW0 g hG h2=>?_;walk_at"w";exact⟨F,L,A,q,[t]++G,hF,rl,hW,hWl,hW0,g.more (by lia),by rw[dJ,hG,bV,ht];rfl,h2,O,O⟩
 rintro r S ⟨F,L,A,o,G,hF,rl,hW,hWl,hW0,v,hG,h3,rfl,rfl⟩;have hbl:=(gE1.mp h3).1;generalize hY3:Z (webD w)=y3;generalize hY4:Z (nv e)=y4;generalize hY5:Z (standD rs C)=y5;generalize hY8:Z (mcD e L)=y8;refine eO (λr V=>∃s kc,Tn rs.length b 0 (A.map whD) s kc [] V/\r=rZ (Z N) (Z (.int k)) y3 y4 y5 y8 b rs.length s kc Y Y Y Y) ?_ ?_
 ·obtain⟨V0,K⟩:∃V0,o::G=V0:=⟨_,O⟩;have h4:V0[4]?=Z (.lst (A.map whD)):=by rw[<- K];exact h3
  rw[K];walk_at"w";refine v7 (xs:=[.int 0]) (k:=rs.length) (by rw[fY];rfl) (by lia) (by decide) ?_;rw[sS];have hl:V0.length=G.length+1:=by rw[<- K];rfl
  have eV:V0++[Ob.lst [],Ob.lst [.int 0]]++[Ob.lst (ctD (λ_=>0) rs.length)]=V0++[Ob.lst [],Ob.lst [.int 0],Ob.lst (ctD (λ_=>0) rs.length)]:=by simp
  have el:(V0++[Ob.lst [],Ob.lst [.int 0]]).length=V0.length+2:=by rw[lA1];rfl
  dsimp only;rw[eV,el];refine⟨V0.length,V0.length+2,⟨⟨o,G++[Ob.lst [],Ob.lst [.int 0],Ob.lst (ctD (λ_=>0) rs.length)],by rw[<- K];rfl,v.more (by lia),?_⟩,iA h4,by lia,by lia,by lia,by rw[eJ];rfl,by rw[fY];rfl,λ_ _=>br _,nR1 _⟩,O⟩;rw[dJ,hG];simp only[bV,Ob.und,BA];rfl
 rintro r V ⟨s,kc,y,rfl⟩;refine eO (λr V=>∃kc chs i f,i<=61/\Tn rs.length b i (A.map whD) s kc chs V/\r=rZ (Z N) (Z (.int k)) y3 y4 y5 y8 b rs.length s kc f Y Y Y) ?_ ?_
 ·unfold rZ;obtain ⟨o1,T1,rfl,ho1,U⟩:=y.ex;have l4:=y.lt;have l5:=y.pc;walk_at"w";refine wv rfl ho1 (by lia) (by lia) (by lia) fun d q g hd=>?_;walk_at"w";rw [iz,Int.toNat_natCast];refine ⟨fz (by lia),?_⟩;have up:∀ {j:Nat} {x:Ob},4<=j->(o1::T1)[j]? = some x->(q::T1)[j]? = some x:=fun {j x} hj h=>by
   obtain⟨i,rfl⟩:∃i,j=i+1:=⟨j-1,by lia⟩;exact h
  refine fJ (λi r V=>∃kc chs f,i<=d/\Tn rs.length b (i+1) (A.map whD) s kc chs V/\r=rZ (Z N) (Z (.int k)) y3 y4 y5 y8 b rs.length s kc f Y Y Y) _ 0 _ _ ⟨kc,[],Y,br _,⟨⟨q,T1,O,g.more (by lia),U⟩,up (by lia) y.ws,l4,l5,y.ne,up (by lia) y.rw,up (by lia) y.ct,y.le,br _⟩,O⟩ (λ_ _ _ _=>rfl) ?_ ?_
  ·rintro i x u r V ⟨l,chs,f,hi,av,rfl⟩;have I:=(gE1.mp u).1;rw[lM1,dG]at I;rw[bT]at *
   have eg:gN 12 x (rZ (Z N) (Z (.int k)) y3 y4 y5 y8 b rs.length s l f Y Y Y) V=Z (rZ (Z N) (Z (.int k)) y3 y4 y5 y8 b rs.length s l (Z x) Y Y Y,V):=rfl;refine⟨_,eg,?_⟩;dsimp only;refine Jl n0 (by lia) (by lia) (by lia) av λkc' H wq h=>?_;exact⟨O,kc',H,_,by lia,h,O⟩
  ·rintro r V ⟨l,chs,f,hi,av,rfl⟩;rw[lM1,dG,bT]at hi av;exact⟨O,l,chs,d+1,f,by lia,av,O⟩
 rintro r V ⟨l,chs,i,f,hi,y,rfl⟩;refine eO (λr V=>∃B,An rs.length b 0 (A.map whD) s B chs V/\r=rA (Z N) (Z (.int k)) y3 y4 y5 y8 b rs.length s l B f Y Y) ?_ ?_
 ·unfold rZ;have lr:=(gE1.mp y.rw).1;have l4:=y.lt;have R:V.all (Ob.und 0)=true:=by
   obtain⟨o1,T1,rfl,ho1,U⟩:=y.ex;rw[bV,ho1.und,U];rfl
  walk_at"w";exact⟨V.length,⟨sZ R O,iA y.ws,by lia,by lia,iA y.rw,by rw[dA];rfl⟩,O⟩
 rintro r V ⟨B,au,rfl⟩;refine eO (λr V=>∃n,An rs.length b rs.length (A.map whD) s B chs V/\r=rA (Z N) (Z (.int k)) y3 y4 y5 y8 b rs.length s l B f n Y) ?_ ?_
 ·unfold rA rZ;walk_at"w";rw[iz,Int.toNat_natCast];refine⟨fz (by lia),?_⟩;refine fJ (λi r V=>∃n,An rs.length b i (A.map whD) s B chs V/\r=rA (Z N) (Z (.int k)) y3 y4 y5 y8 b rs.length s l B f n Y) _ 0 _ _ ⟨Y,au,O⟩ (λ_ _ _ _=>rfl) ?_ ?_
  ·rintro i x u r V ⟨n,P,rfl⟩;have I:=(gE1.mp u).1;rw [lM1,dG] at I;have hd':x = .int (i:Nat):=by
    rw[gP1,cO I]at u;exact(Option.some.inj u).symm
   subst hd';rw[bT]at *
   have eg:gN 14 (.int (i:Nat)) (rA (Z N) (Z (.int k)) y3 y4 y5 y8 b rs.length s l B f n Y) V=Z (rA (Z N) (Z (.int k)) y3 y4 y5 y8 b rs.length s l B f (Z (.int (i:Nat))) Y,V):=rfl;refine⟨_,eg,?_⟩;dsimp only;refine Ea I (by lia) (by lia) P λwq h=>?_;exact⟨O,_,h,O⟩
  ·rintro r V ⟨n,P,rfl⟩;rw[lM1,dG,bT]at P;exact⟨O,_,P,O⟩
 rintro r V ⟨n,au,rfl⟩;have hV:=au.cl;have p3:=λ(H:List (List Nat)) Q=>Kr (b:=b) (kr:=s) (kc:=l) (ka:=B) (chs:=H) (V:=V) (y0:=Z N) (y1:=Z (.int k)) (y4:=y4) (y12:=f) (y14:=n) (Q:=Q) hw hm aq E he hF rl hW hWl hW0 O (by lia) au.cl au.ws;rw[hY3,hY5,hY8]at p3;have hle:∀x∈[chs,zr b rs.length,[]],(∀k,k<rs.length->cnt x k<=b)/\x.length<=400:=λx hx=>by
  rcases aG.mp hx with z|hx
  ·subst z;exact⟨y.le,by have:=y.len;lia⟩
  rcases aG.mp hx with z|hx
  ·subst z;refine⟨λk hk=>by rw[xR,ak hk];exact nR1 _,?_⟩;rw[sY];exact aD (di hrl hb) (by decide)
  ·rw[c5.mp hx];exact⟨λk _=>br _,br _⟩
 generalize R:[chs,zr b rs.length,[]]=cl at *
 have hitems:[D.tup (chs.map chD),.tup ((zr b rs.length).map chD),.tup []]=cl.map λx=>D.tup (x.map chD):=by rw[<- R];rfl
 unfold hC;rw[ei];refine W.mono (Q:=λp=>p=(⟨cl.map λx=>D.tup (x.map chD),[]⟩,V)) ?_ ?_
 ·unfold rA rZ;walk_at"w";refine eL au.rw ?_;walk_at"w";refine eL au.al ?_;walk_at"w";rw[hK,hitems]
 rintro p rfl;dsimp only;refine fJ (λi r wq=>∃ao,wq=V/\r=rA (Z N) (Z (.int k)) y3 y4 y5 y8 b rs.length s l B f n ao) _ 0 _ _ ⟨Y,O,O⟩ (λ_ _ _ _=>rfl) ?_ ?_
 ·rintro i x u r wq ⟨ao,rfl,rfl⟩;rw[gP1]at u;obtain⟨c,hc,rfl⟩:=oM1.mp u;obtain⟨hc1,hc2⟩:=hle c (gM1 hc);have eg:gN 15 (.tup (c.map chD)) (rA (Z N) (Z (.int k)) y3 y4 y5 y8 b rs.length s l B f n ao) wq=Z (rA (Z N) (Z (.int k)) y3 y4 y5 y8 b rs.length s l B f n (Z (.tup (c.map chD))),wq):=rfl;refine⟨_,eg,?_⟩;dsimp only;refine p3 c _ hc1 hc2 ?_;exact⟨O,_,O,O⟩
 ·rintro r wq ⟨ao,rfl,rfl⟩;exact⟨O,_,O,O⟩
theorem truth(ns:List Int)(Q:ns.length<=63):∃S,m_law [.rol (ns.map D.int)] []=Z (.bl M,S):=by
 have key:W (m_law [.rol (ns.map D.int)] []) λp=>p.1 = .bl M:=by
  unfold m_law;refine mx ?_;unfold BN;have G:(D.rol (ns.map D.int)).und 0=M:=by simp[D.und,l6]
  have P:=λk F I=>EV ns k F I;generalize aq:D.rol (ns.map D.int)=N at *
  have n:fc N []=Z (.int ns.length,[]):=by rw[<- aq];simp[fc,et]
  refine eO (λr S=>S=[]/\r=[Z N,Y,Y,Y,Y,Y,Y,Y,Y,Y,Y,Y,Y,Y,Y,Y]) ?_ ?_
  ·simp only [hI,mP1,bh,lC1,bn,Nat.reduceAdd,Nat.reduceSub,H9,bt,bg,hC,ei,BU,d4,mN,mC,mV,d5,b1,b2,DJ,DI,n,eN,oS1,dz,Hu];have H:∃ t:Nat,t<=3/\(if (if (ns.length:Int)<3 then (ns.length:Int) else 3)>1 then (if (ns.length:Int)<3 then (ns.length:Int) else 3) else 1)=(t:Int):=by
    by_cases h1:(ns.length:Int)<3
    ·rw[ak h1];by_cases h2:(ns.length:Int)>1
     ·rw[ak h2];exact⟨ns.length,by lia,O⟩
     ·rw[aj h2];exact⟨1,by lia,O⟩
    ·rw[aj h1];exact⟨3,by lia,by decide⟩
   obtain⟨t,R,te⟩:=H;rw[te,Int.toNat_natCast];refine⟨fz (by lia),?_⟩;refine fJ (λ_ r S=>S=[]/\r=[Z N,Y,Y,Y,Y,Y,Y,Y,Y,Y,Y,Y,Y,Y,Y,Y]) _ 0 _ _ ⟨O,O⟩ (λ_ _ _ _=>rfl) ?_ ?_
   ·rintro i d av r S ⟨rfl,rfl⟩;obtain ⟨k,e,L,T⟩:=uh (gM1 av);subst e;simp only [gN,db,da,eN];obtain ⟨⟨f,r2,U⟩,K,E,C,m,w⟩:=P k L (by lia);dsimp only at E m;subst E;subst m;obtain ⟨u,y,s,A,z,v,B,o,q,g,j,c,a,b,l,ao⟩:∃ u y s A z v B o q g j c a b l,C=[u,y,s,A,z,v,B,o,q,g,j,c,a,b,l]:=by
     match C,w with
     |[u,y,s,A,z,v,B,o,q,g,j,c,a,b,l],_=>exact⟨_,_,_,_,_,_,_,_,_,_,_,_,_,_,_,O⟩
    subst ao;refine W.of (x:=(.nx,[Z N,Y,Y,Y,Y,Y,Y,Y,Y,Y,Y,Y,Y,Y,Y,Y],[])) ?_ ⟨O,O,O⟩;unfold wR qr;simp[ge,kS,D.und,G,K]
   ·rintro r S ⟨rfl,rfl⟩;exact⟨O,O,O⟩
  ·rintro r S ⟨rfl,rfl⟩;simp only[fA,mC,oS1,eN]
 obtain⟨⟨d,S⟩,e,h⟩:=key;dsimp only at h;exact⟨S,by rw[e,h]⟩
end Law
end
open PySem PySem.W PyProof.Rows
namespace PySem.W.Fast
def tw2471772479364444822:=()
def tw6794701115072165749:=()
def tw4601227551384599844:=()
def tw8183325007830490618:=()
def tw109620324052394766:=()
def tw9954171219475902045:=()
def tw8518300264517651027:=()
def tw17181416741209679946:=()
def tw17386746087751737723:=()
def tw14028805517188557375:=()
def tw10576244650402779593:=()
def tw1954402675147878248:=()
def tw2835760953451396041:=()
def tw4651167674539971426:=()
def tw15976876228984274992:=()
def tw1109604520610211545:=()
def tw776998774113483006:=()
def tw3509536428570642338:=()
def tw612021188796982287:=()
def tw4579066669061769593:=()
def tw14249657340170094674:=()
def tw7117848068409115623:=()
def tw3211297393576248916:=()
def tw15613020623725040286:=()
def tw2236988153924129720:=()
def tw9738030653324459742:=()
def tw9796236157273010680:=()
def tw5255107300948840954:=()
def tw3448306482644258436:=()
def tw13696065114300814826:=()
def tw3216061219500559255:=()
def tw6206732892608177010:=()
def tw2440479857232046622:=()
def tw6314066380446275120:=()
def tw18322012134258906093:=()
def tw8761496789394258407:=()
def tw11491760250277127124:=()
def tw14646185728559423153:=()
def tw3601371466824975869:=()
def tw6287664216293027013:=()
def tw3582092076308311043:=()
def tw14151322337714270034:=()
def tw17503643417125589659:=()
def tw1555713653389087135:=()
def tw5370301992551561937:=()
def tw5983108216418902477:=()
def tw4457431451972817887:=()
def tw9868726903984405872:=()
def tw17477630150201118172:=()
def tw5702300921566912260:=()
def tw4873183316733221124:=()
def tw7621949520362681051:=()
def tw763464330438242628:=()
def tw8240515565738047955:=()
def tw9755755701196730877:=()
def tw342205847080907165:=()
def tw4223458855859575994:=()
def tw9816152180224094827:=()
def tw3675890210179379052:=()
def tw15851270891118340294:=()
def tw16114503106210993563:=()
def tw2537783083158102532:=()
def tw13634276128769013293:=()
def tw16393598348893699243:=()
def tw2700895057675766919:=()
def tw14244523877173211033:=()
def tw3494093852708411972:=()
def tw3779361703021409602:=()
def tw8341910063274876829:=()
def tw5462900113722052401:=()
def tw303598835083190364:=()
def tw15695869906859353778:=()
def tw6874441358054569829:=()
def tw8187552973630281055:=()
def tw18343537089764537357:=()
def tw6238903170917676914:=()
def tw7017770036128493071:=()
def tw9244370649995723048:=()
def tw563417754655563265:=()
def tw3763587233443588394:=()
def tw545706331514938609:=()
def tw16587903241939768162:=()
def tw186672491303838811:=()
def tw17472260253252788610:=()
def tw16023062218358951126:=()
def tw11961417106605594988:=()
def tw9302015742116456012:=()
def tw15731907972053251393:=()
def tw9310874760109723917:=()
def tw4696934565588275623:=()
def tw2019031348300708898:=()
def tw13008189674306360082:=()
def tw6109603350941124026:=()
def tw16915458308102384710:=()
def tw9077494989110226409:=()
def tw12567432586150891919:=()
def tw11246650347631490894:=()
def tw1031576259480351978:=()
def tw18194207955877363510:=()
def tw17668090867005674555:=()
def tw14974060812999286287:=()
def tw346943856164718279:=()
def tw17372644644833788855:=()
def tw3527283263848923618:=()
def tw1581991924678977642:=()
def tw13483671465011428850:=()
def tw4362966090807800317:=()
def tw3700473047387161799:=()
def tw8713582903225582754:=()
def tw12675463545172190618:=()
def tw6408140059401915161:=()
def tw12092567441509562520:=()
def tw16878432676442404344:=()
def tw12303217654665484124:=()
def tw175560832136908109:=()
def tw4087628778357021526:=()
def tw11819998696800756761:=()
def tw16616579517004173679:=()
def tw11885780155634555231:=()
def tw9251154999439003534:=()
def tw5254364829180589414:=()
def tw15038251235036495470:=()
def tw7961743082937157031:=()
def tw13471187459000344358:=()
def tw13408052424996734421:=()
end PySem.W.Fast
set_option maxRecDepth 100000 in
set_option maxHeartbeats 0 in
theorem PySem.Challenge.cw_ringmeet_k88_whole_quiet_however_slow_holds : PySem.Challenge.rw_ringmeet_k88_whole_quiet_however_slow.Holds := by
 w_on;refine PySem.W.holds_law (by decide+kernel) fun d=>?_;k_head;(case hw=>w_witness2)
 k_fill
 refine Mi.walk_m (l:=PySem.Challenge.rw_ringmeet_k88_whole_quiet_however_slow) (m:=Law.m_law) (k:=7) (x:="_law_script") rfl rfl ⟨rfl,by decide,by decide,rfl⟩ (fun w h Y=>PySem.W.kIn_of Y) Law.truth ?F
 case F=>
  intro w mg f h e G b;refine' Law.all_mk e G b ?a1 ?a2 ?a3 ?a4 ?a5 ?a6 ?a7 ?a8 ?a9 ?a10 ?a11 ?a12 ?a13 ?a14 ?a15 ?a16 ?a17 ?a18 ?a19 ?a20 ?a21 ?a22 ?a23 ?a24 ?a25 ?a26 ?a27 ?a28 ?a29 ?e_PARTS ?h1 ?h2 ?h5 ?h8 ?h11 ?z
  all_goals try (refine' Mi.Jc ?a ?l ?c ?k;(case a=>k_is);(case l=>k_is);(case c=>k_is);(case k=>k_is))
  (case e_PARTS=>k_is)
  (case h1=>k_is)
  (case h2=>k_is)
  (case h5=>k_is)
  (case h8=>k_is)
  (case h11=>k_is)
  (case z=>exact ⟨by k_is,by k_is,by k_is,by k_is,by k_is,by k_is,by k_is,by k_is,by k_is,by k_is,by k_is,by k_is,by k_is,by k_is,trivial⟩)

