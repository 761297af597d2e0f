import PyProof.Rows.All
import Wide.All
import OpenK.AllK
import Wide.FinOn
import Lean
import PyProof.EqAt
import PyProof.EqKinds
import PyProof.TupleCall
import PySem.Challenge.RW_ringmeet_k70_lookers_of_anything
set_option Elab.async false
set_option compiler.extract_closed false
set_option genSizeOf false
set_option bootstrap.genMatcherCode false
set_option linter.all false
set_option maxRecDepth 100000
set_option maxHeartbeats 4000000
open List renaming getElem?_eq_some_iff → gE1, getElem?_append_left → gL1, getElem?_eq_getElem → gG1, mem_of_getElem? → gM1, getElem?_set_ne → gS1, length_append → lA1, length_map → lM1, getElem?_cons_succ → gC1, mem_cons_of_mem → mC1, mem_cons_self → mS1, getElem?_map → gP1, getElem?_append_right → gR1, size_toArray → sT1, map_cons → mP1, length_cons → lC1, length_replicate → lR1, mem_append_right → mA1
open Option renaming bind_eq_some_iff → oB1, map_eq_some_iff → oM1, bind_some → oS1, map_some → oP1
open Nat renaming le_refl → nR1, lt_of_lt_of_le → nL1, ne_of_lt → nN1, ne_of_gt → nG1
open Bool renaming and_eq_true → bA1, false_eq_true → bF1
open Array renaming getElem?_eq_getElem → aG1, getElem?_toList → aT1
open PySem.W renaming Frag → Fg1, nsIn → wN1, keepIn → wK1, codeIn → wC1, fnOf → wF1, mg_of → wM1
open PySem.Heap renaming get?_push_of_some → hP1, get?_push_size → hS1, lt_size → hL1, size_push → hZ1, get?_update_ne → hU1, get?_update_self → hW1
open PySem renaming wpAny_bind → wB1, wpAny_pure → wP1, wpAny_setField_rec → wS1, wpAny_newObj_type → wO1, codeAny_builtin → wD1, wpAny_call_entry → wE1
open List renaming take_nil → av, drop_nil → aw, mem_range → aA, filterMap_cons → aC, mem_cons → aD, mem_append → aE, mem_append_left → aF, getElem?_set_self → aG, append_nil → aK, nodup_cons → aL, replicate → aM, length_take → aO, getElem?_replicate → aP, getElem?_take_of_lt → aQ, take_sublist → aR, length_set → aS, reverse_cons → aT, map_nil → aV, find?_cons → aW, any_cons → aX, length_nil → aY, filter_cons → aZ, cons_append → bg, prefix_rfl → bi, nodup_nil → bj, getElem?_of_mem → bm, map_map → bq, prefix_append → br, nodup_append → bu, all_eq_true → bv, drop_eq_nil_iff → bx, lookup_cons → bA, append_assoc → bB, getD_eq_getElem?_getD → bE, not_mem_nil → bG, range_succ_eq_map → bJ, all_cons → bK, all_map → bL, any_eq_true → bN, getElem_mem → bO, zip_cons_cons → bP, cons_prefix_cons → bR, take_length → bS, getElem?_eq_none → bT, pairwise_cons → bW, take_of_length_le → b0, pairwise_append → b4, pairwise_lt_range → b5, map_append → b6, mem_map → b7, take_succ → b9, length_eraseIdx_of_lt → ca, take_append_drop → cb, perm_middle → cc, getElem?_range → cf, forall_mem_cons → cg, forall_mem_nil → ci, map_congr_left → cj, map_id → ck, getElem?_cons_zero → cm, nil_append → cp, all_append → cq, mem_singleton → cr, getElem?_concat_length → cu, flatten_cons → cv, mem_flatten → cw, zipWith → cA, zipWith_cons_cons → cB, mem_flatMap → cD, length_range → cE
open Option renaming some → ay, isSome_iff_exists → aN, isSome_map → a0
open Nat renaming lt_irrefl → az, le_trans → aB, le_succ → aU, lt_trans → bc, zero_le → bf, add_assoc → bh, le_add_right → bn, add_sub_cancel_left → bo, not_lt_zero → bt, lt_succ_self → bw, lt_of_le_of_lt → bC, le_of_succ_le → bD, zero_add → bI, lt_or_ge → bQ, mul_le_mul_right → cy
open Array renaming length_toList → aH, toArray_toList → bX, getElem?_eq_none → bY, toList_push → bZ
open Bool renaming false_ne_true → aI, false_and → aJ, and_true → bH, eq_iff_iff → bM, and_false → bU, not_true → bV, true_and → cC
open PySem renaming Value → cF, Shared → cG, Addr → cH, Program → cI, Around → cJ, World → cK, mainGlobals → cM, starEach → cN, sizeLine → cO, wpAny → cP, codeAny → cQ, Heap → cR, FuncData → cS, Stmt → cT, Scope → cU
open Option renaming some → Z, none → Y
open Bool renaming true → M, false → J
theorem gu0(h0:True:=by repeat first|rfl|exact .inl rfl|assumption|apply Or.inr)(h1:True:=by decide)(h2:True:=by rfl)(h3:True:=by intro _;rfl)(h4:True:=by decide+kernel)(h5:True:=by assumption):True:=h0
namespace gu0
end gu0
open gu0 renaming _auto_1 → au0, _auto_2 → bu0, _auto_3 → cu0, _auto_4 → du0, _auto_5 → eu0, _auto_6 → fu0
theorem Mi.O{α}{a:α}:a=a:=rfl
open Mi (O)
theorem Mi.al{p:Prop}[Decidable p]:(decide p=true)=p:=decide_eq_true_eq
theorem Mi.ak{c:Prop}{h:Decidable c}(a:c){α:Sort _}{t e:α}:ite c t e=t:=if_pos a
theorem Mi.aj{c:Prop}{h:Decidable c}(a:¬c){α:Sort _}{t e:α}:ite c t e=e:=if_neg a
theorem Mi.ai{p:Prop}[Decidable p]:¬p→decide p=false:=decide_eq_false
theorem Mi.ah{p:Prop}[Decidable p]:p→decide p=true:=decide_eq_true
open List renaming range → af
open Mi (al ak aj ai ah)
noncomputable section
namespace L2
open PySem PySem.Spec PyProof.Rows
abbrev Key:=Sum Int Str
noncomputable def pq:Key->cF->Bool
 | .inl k,v=>Value.isInt k v
 | .inr x,v=>Value.isStrOf x v
noncomputable def JO(w:cK):Key->Int
 | .inl k=>hashInt k
 | .inr x=>hashStr w x
theorem eB:∀{k:Key} {v:cF},pq k v=M->(∃i t,k=Sum.inl i/\v=Value.int i t)\/(∃x t,k=Sum.inr x/\v=Value.str x t)
 | .inl i,v,h=>by
  obtain⟨t,e⟩:=Value.isInt_shape (k:=i) (v:=v) h;exact .inl ⟨i,t,O,e⟩
 | .inr x,v,h=>by
  obtain⟨t,e⟩:=Value.isStrOf_shape (x:=x) (v:=v) h;exact .inr ⟨x,t,O,e⟩
theorem xg(i:Int)(t:Tok):pq (.inl i) (.int i t)=M:=by simp[pq,Value.isInt]
theorem xf(x:Str)(t:Tok):pq (.inr x) (.str x t)=M:=by simp[pq,Value.isStrOf]
theorem F8(a b:Int):decide ((Sum.inl a:Key)=Sum.inl b)=(a == b):=by
 by_cases e:a=b
 ·subst e;simp
 ·have h:¬ (Sum.inl a:Key)=Sum.inl b:=λq=>e (Sum.inl.inj q);rw[ai h];exact(beq_eq_false_iff_ne.mpr e).symm
theorem F5(a b:Str):decide ((Sum.inr a:Key)=Sum.inr b)=decide (a=b):=by
 by_cases e:a=b
 ·subst e;simp
 ·have h:¬ (Sum.inr a:Key)=Sum.inr b:=λq=>e (Sum.inr.inj q);rw[ai h,ai e]
theorem F7(a:Int)(b:Str):decide ((Sum.inl a:Key)=Sum.inr b)=J:=ai (λq=>nomatch q)
theorem F6(a:Str)(b:Int):decide ((Sum.inr a:Key)=Sum.inl b)=J:=ai (λq=>nomatch q)
def ez(prog:cI)(w:cK):PySem.KeyKind prog w Key where
 is:=pq
 hash:=JO w
 inj:=λv a b ha hb=>by
  rcases eB ha with⟨i,t,rfl,rfl⟩|⟨x,t,rfl,rfl⟩
  ·rcases eB hb with⟨j,u,rfl,e⟩|⟨y,u,rfl,e⟩
   ·injection e with e1 _;rw[e1]
   ·exact nomatch e
  ·rcases eB hb with⟨j,u,rfl,e⟩|⟨y,u,rfl,e⟩
   ·exact nomatch e
   ·injection e with e1 _;rw[e1]
 byValue:=λk v h=>by
  rcases eB h with⟨i,t,rfl,rfl⟩|⟨x,t,rfl,rfl⟩<;>rfl
 pyHash:=λhv h=>by
  rcases eB hv with⟨i,t,rfl,rfl⟩|⟨x,t,rfl,rfl⟩
  ·exact wpAny_pyHash_int h
  ·exact wpAny_pyHash_str h
 eqBool:=λhu hv h=>by
  rcases eB hu with⟨i,t,rfl,rfl⟩|⟨x,t,rfl,rfl⟩
  ·rcases eB hv with⟨j,u,rfl,rfl⟩|⟨y,u,rfl,rfl⟩
   ·rw[F8]at h;exact wpAny_eqBool_int h
   ·rw[F7]at h;exact SeqAt.EqAt.int_str i t y u _ _ _ _ h
  ·rcases eB hv with⟨j,u,rfl,rfl⟩|⟨y,u,rfl,rfl⟩
   ·rw[F6]at h;exact SeqAt.EqAt.str_int x t j u _ _ _ _ h
   ·rw[F5]at h;exact wpAny_eqBool_str h
 «strs» :=λk x t v h=>by
  rcases eB h with⟨i,u,rfl,e⟩|⟨y,u,rfl,e⟩
  ·exact nomatch e
  ·injection e with e1 _;subst e1;cases v<;>rfl
theorem sZ(prog:cI)(w:cK)(i:Int)(t:Tok):(ez prog w).is (.inl i) (.int i t)=M:=xg i t
theorem sY(prog:cI)(w:cK)(x:Str)(t:Tok):(ez prog w).is (.inr x) (.str x t)=M:=xf x t
inductive V where
 |non|bl (b:Bool)|int (i:Int)|str (x:Str)|byt (b:Array UInt8)|flt (b:UInt64)|ref (a:cH)|ty (n:String)
 deriving DecidableEq
def dn:V->cF->Prop
 | .non,u=>u=Value.none
 | .bl b,u=>u=Value.bool b
 | .int i,u=>∃t,u=Value.int i t
 | .str x,u=>∃t,u=Value.str x t
 | .byt b,u=>∃t,u=Value.bytes b t
 | .flt b,u=>∃t,u=Value.float b t
 | .ref a,u=>u=Value.ref a
 | .ty n,u=>u=Value.type n
abbrev dF:List V->List cF->Prop:=Paired dn
theorem dF.length{xs:List V}{us:List cF}(r:dF xs us):xs.length=us.length:=Paired.length r
theorem dF.get:∀{xs:List V} {us:List cF} {i:Nat} {x:V},dF xs us->xs[i]?=Z x -> ∃u,us[i]?=Z u/\dn x u:=by
 intro xs us i x h e
 induction h generalizing i with
 |nil=>cases e
 |cons r t ih=>cases i with
  |zero=>cases e;exact⟨_,O,r⟩
  |succ i=>exact ih (i:=i) e
theorem dF.set{x:V}{u:cF}(r:dn x u):∀{xs:List V} {us:List cF} (i:Nat),dF xs us->dF (xs.set i x) (us.set i u):=by
 intro xs us i h
 induction h generalizing i with
 |nil=>exact .nil
 |cons q t ih=>cases i with
  |zero=>exact .cons r t
  |succ i=>exact .cons q (ih i)
theorem dF.append:∀{xs ys:List V} {us ws:List cF},dF xs us->dF ys ws->dF (xs++ys) (us++ws):=by
 intro xs ys us ws h s
 induction h with
 |nil=>exact s
 |cons r t ih=>exact .cons r ih
theorem dF.take:∀{xs:List V} {us:List cF} (n:Nat),dF xs us->dF (xs.take n) (us.take n):=by
 intro xs us n h
 induction h generalizing n with
 |nil=>rw[av,av];exact .nil
 |cons r t ih=>cases n with
  |zero=>exact .nil
  |succ n=>exact .cons r (ih n)
theorem dF.drop:∀{xs:List V} {us:List cF} (n:Nat),dF xs us->dF (xs.drop n) (us.drop n):=by
 intro xs us n h
 induction h generalizing n with
 |nil=>rw[aw,aw];exact .nil
 |cons r t ih=>cases n with
  |zero=>exact .cons r t
  |succ n=>exact ih n
def lE:Option V->Option cF->Prop
 |some v,Z u=>dn v u
 |none,Y=>True
 |_,_=>False
def KV{κ:Type}:List (κ×V)->List (κ×cF)->Prop:=Paired λ(p:κ×V) (q:κ×cF)=>p.1=q.1/\dn p.2 q.2
noncomputable def kV:Key->V
 | .inl i=>.int i
 | .inr x=>.str x
inductive HO where
 /-- a list -/
 |lst (xs:List V)
 /-- a tuple (never changes) -/
 |tup (xs:List V)
 /-- a dict whose keys are ints and texts; one whose keys are tuples of ints and texts (the empty one is both) -/
 |dK (kvs:List (Key×V))|dT (kvs:List (List Key×V))
 /-- a set of ints: its members, its size -/
 |set (S:Int->Bool) (n:Nat)
 /-- an instance of the class at C, its dict at dx, its attributes -/
 |ins (C dx:cH) (fs:List (Str×V))
 /-- the dict of the instance at x -/
 |own (x:cH)
 /-- the dict of an exception -/
 |xd (fs:List (Str×V))
 /-- a bound method, f of x -/
 |met (f x:cH)
 /-- a range object lo, lo + 1, .. below hi -/
 |rng (lo hi:Int)
 /-- a thing that is known to the object (the script; a dict while a loop walks it): read, never written while it is so -/
 |frz (o:Obj) (u:HO)
 /-- a code object's table -/
 |tbl (ps:Array cF)
 /-- any other thing, by what is true of its one object (a def of one's own: SetO a S n := HO.ext λh => ..) -/
 |ext (φ:cR->Prop)
abbrev Hp:=cH->Option HO
noncomputable def upd(H:Hp)(a:cH)(o:HO):Hp:=λb=>if b=a then Z o else H b
theorem di{H:Hp}{a:cH}{o:HO}:upd H a o a=Z o:=by unfold upd;rw[ak O]
theorem c5{H:Hp}{a b:cH}{o:HO}(h:b≠a):upd H a o b=H b:=by unfold upd;rw[aj h]
theorem HI{H:Hp}{a b:cH}{o u:HO}(h:H a=Z o)(h':H b=Z u)(d:o≠u):a≠b:=by
 intro e;subst e;rw[h]at h';exact d (Option.some.inj h')
theorem dJ{H:Hp}{a b:cH}{o:HO}(h:H a=Z o)(h':H b=Y):a≠b:=by
 intro e;subst e;rw[h]at h';cases h'
section
variable(P:cI) (w:cK)
def dZ(H:Hp)(h:cR)(a:cH):HO->Prop
 | .lst xs=>xs.length<=cO /\ ∃(its:List cF) (n:Nat),dF xs its/\h.get? a=Z {cls:=.type "list",data:=.seq its.toArray n}
 | .tup xs=>xs.length<=cO /\ ∃its:List cF,dF xs its/\IsTup h a its.toArray
 | .dK kvs=>kvs.length<=cO/\(a == sysModules)=J /\ ∃vs,KV kvs vs/\h.DictOf (ez P w) a vs
 | .dT kvs=>kvs.length<=cO/\(a == sysModules)=false /\ ∃ xs:List (List Key×cH×cF),
   Paired (λ(p:List Key×V) (q:List Key×cH×cF)=>p.1=q.1/\H q.2.1=Z (.tup (p.1.map kV))/\dn p.2 q.2.2) kvs xs /\
   ∃o es ep,h.get? a=Z o/\o.ExactDict/\o.data = .dict es ep/\es.toList=xs.map (entryOfKey (tupleKind (ez P w)))/\(xs.map (·.1)).Nodup
 | .set S n=>h.SetOf (intKind P w) a S n
 | .ins C dx fs=>H dx=some (.own a)/\fs.length<=1000/\dx≠a/\h.get? a=some (PySem.W.instObj C dx) /\
   ∃mA,h.Ns1 dx mA/\(∀f,lE (fs.lookup f) (mA f))/\PySem.Within mA (fs.map (·.1))
 | .own _=>∃o,h.get? a=Z o
 | .xd fs=>∃mA,h.Ns1 a mA /\ ∀f,lE (fs.lookup f) (mA f)
 | .rng lo hi=>∃t u v,h.get? a=Z {cls:=.type "range",data:=.fields #[.int lo t,.int hi u,.int 1 v]}
 | .frz o u=>h.get? a=Z o/\dZ H h a u
 | .tbl ps=>h.get? a=Z {cls:=.none,data:=.fields ps}
 | .met f x=>h.get? a=Z (PySem.W.methodObj (.ref f) (.ref x))
 | .ext φ=>φ h/\(∃o,h.get? a=Z o) /\ ∀h1 h2:cR,φ h1->(∀o,h1.get? a=Z o->h2.get? a=Z o)->φ h2
def j4(H:Hp)(h:cR):Prop:=∀a o,H a=Z o->dZ P w H h a o
end
section
variable{P:cI}{w:cK}{H H':Hp}{h h':cR}{a:cH}{o:HO}
theorem dZ.lt(x:dZ P w H h a o):a<h.objs.size:=by
 cases o with
 |lst xs=>obtain⟨_,_,_,_,e⟩:=x;exact hL1 e
 |tup xs=>obtain⟨_,_,_,p⟩:=x;exact p.lt
 |dK kvs=>obtain⟨_,_,_,_,o,_,_,e,_⟩:=x;exact hL1 e
 |dT kvs=>obtain⟨_,_,_,_,o,_,_,e,_⟩:=x;exact hL1 e
 |set S n=>obtain⟨o,_,_,_,e,_⟩:=x;exact hL1 e
 |ins C dx fs=>obtain⟨_,_,_,e,_⟩:=x;exact hL1 e
 |own y=>obtain⟨_,e⟩:=x;exact hL1 e
 |xd fs=>obtain⟨_,⟨_,_,_,e,_⟩,_⟩:=x;exact hL1 e
 |rng lo hi=>obtain⟨_,_,_,e⟩:=x;exact hL1 e
 |frz b u=>obtain⟨e,_⟩:=x;exact hL1 e
 |tbl ps=>exact hL1 (show h.get? a=Z _ from x)
 |met f y=>exact hL1 (show h.get? a=Z _ from x)
 |ext φ=>obtain⟨_,⟨_,e⟩,_⟩:=x;exact hL1 e
theorem Paired.mapP{α β:Type}{F G:α->β->Prop}:∀{l₁:List α} {l₂:List β},Paired F l₁ l₂->(∀a b,F a b->G a b)->Paired G l₁ l₂:=by
 intro a b h f
 induction h with
 |nil=>exact .nil
 |cons r t ih=>exact .cons (f _ _ r) ih
theorem dZ.stay(x:dZ P w H h a o)(k:∀ b u,(b=a\/H b=Z (.own a))->h.get? b=Z u->h'.get? b=Z u)(ho:∀b,H b=Z (.own a)->H' b=Z (.own a))(ht:∀b xs,H b=Z (.tup xs)->H' b=Z (.tup xs)):dZ P w H' h' a o:=by
 induction o with
 |lst xs=>obtain⟨z,i,n,r,e⟩:=x;exact⟨z,i,n,r,k _ _ (.inl O) e⟩
 |tup xs=>obtain⟨z,i,r,g,e,c⟩:=x;exact⟨z,i,r,g,k _ _ (.inl O) e,c⟩
 |dK kvs=>obtain⟨z,y,vs,r,g,es,ep,e,c⟩:=x;exact⟨z,y,vs,r,g,es,ep,k _ _ (.inl O) e,c⟩
 |dT kvs=>
  obtain⟨z,y,xs,r,g,es,ep,e,c⟩:=x;exact⟨z,y,xs,Paired.mapP r λp q z=>⟨z.1,ht _ _ z.2.1,z.2.2⟩,g,es,ep,k _ _ (.inl O) e,c⟩
 |set S n=>obtain⟨g,es,ep,t,e,c⟩:=x;exact⟨g,es,ep,t,k _ _ (.inl O) e,c⟩
 |ins C dx fs=>
  obtain⟨d,z,ne,e,mA,⟨j,es,ep,l,c⟩,r⟩:=x;exact⟨ho _ d,z,ne,k _ _ (.inl O) e,mA,⟨j,es,ep,k _ _ (.inr d) l,c⟩,r⟩
 |own y=>obtain⟨g,e⟩:=x;exact⟨g,k _ _ (.inl O) e⟩
 |xd fs=>obtain⟨mA,⟨j,es,ep,e,c⟩,r⟩:=x;exact⟨mA,⟨j,es,ep,k _ _ (.inl O) e,c⟩,r⟩
 |rng lo hi=>obtain⟨t,u,v,e⟩:=x;exact⟨t,u,v,k _ _ (.inl O) e⟩
 |frz g u ih=>obtain⟨e,q⟩:=x;exact⟨k _ _ (.inl O) e,ih q⟩
 |tbl ps=>
  have e:h.get? a=Z {cls:=.none,data:=.fields ps}:=x;show h'.get? a=Z {cls:=.none,data:=.fields ps};exact k a _ (.inl O) e
 |met f y=>
  have e:h.get? a=Z (PySem.W.methodObj (.ref f) (.ref y)):=x;show h'.get? a=Z (PySem.W.methodObj (.ref f) (.ref y));exact k a _ (.inl O) e
 |ext φ=>obtain⟨p,⟨o,e⟩,st⟩:=x;exact⟨st _ _ p λo q=>k _ _ (.inl O) q,⟨o,k _ _ (.inl O) e⟩,st⟩
theorem j4.lt(x:j4 P w H h)(e:H a=Z o):a<h.objs.size:=(x a o e).lt
theorem j4.fresh(x:j4 P w H h)(e:h.objs.size<=a):H a=Y:=by
 cases q:H a with
 |none=>rfl
 |some u=>exact absurd (nL1 (x.lt q) e) (az _)
theorem j4.kept(x:j4 P w H h)(k:∀b u,h.get? b=Z u->h'.get? b=Z u):j4 P w H h':=λa o e=>
 (x a o e).stay (λb u _ q=>k b u q) (λ_ q=>q) λ_ _ q=>q
theorem j4.laid(x:j4 P w H h)(k:∀b u,h.get? b=Z u->h'.get? b=Z u)(hp:h.objs.size<=a)(new:dZ P w (upd H a o) h' a o):j4 P w (upd H a o) h':=λb u e=>by
 have d:=x.fresh hp;by_cases f:b=a
 ·subst f;rw[di]at e;cases e;exact new
 ·rw[c5 f]at e;exact(x b u e).stay (λc v _ q=>k c v q) (λc q=>by rw[c5 (dJ q d)];exact q) λc xs q=>by rw[c5 (dJ q d)];exact q
end
def Rd(H:Hp)(a:cH)(u:HO):Prop:=H a=Z u \/ ∃o,H a=Z (.frz o u)
theorem Rd.of{H:Hp}{a:cH}{u:HO}(h:H a=Z u):Rd H a u:=.inl h
theorem Rd.ok{P:cI}{w:cK}{H:Hp}{h:cR}{a:cH}{u:HO}(r:Rd H a u)(x:j4 P w H h):dZ P w H h a u:=by
 rcases r with r|⟨o,r⟩
 ·exact x a u r
 ·obtain⟨_,q⟩:=x a _ r;exact q
def Mut:Option HO->Prop
 |some (.lst _)=>True
 |some (.dK _)=>True
 |some (.dT _)=>True
 |some (.set _ _)=>True
 |some (.ins _ _ _)=>True
 |some (.ext _)=>True
 |_=>False
section
variable{P:cI}{w:cK}{H:Hp}{h h':cR}{x e:cH}{o':HO}
theorem j4.write(ok:j4 P w H h)(mu:Mut (H x))(he:e=x\/H e=Z (.own x))(k:∀ b u,b≠e->h.get? b=Z u->h'.get? b=Z u)(i:∃ u,h'.get? e=Z u)(new:dZ P w (upd H x o') h' x o'):j4 P w (upd H x o') h':=λb u q=>by
 have d:∀c y,H c=Z (.own y)->c≠x:=λc y r z=>by subst z;rw[r]at mu;exact mu
 have f:∀c xs,H c=Z (.tup xs)->c≠x:=λc xs r z=>by subst z;rw[r]at mu;exact mu
 by_cases g:b=x
 ·subst g;rw[di]at q;cases q;exact new
 ·rw[c5 g]at q;by_cases a:b=e
  ·have j:H b=some (.own x):=by
    rcases he with z|z
    ·exact absurd (a.trans z) g
    ·rw[a];exact z
   rw[q]at j;cases j;obtain⟨v,l⟩:=i;exact⟨v,by rw[a];exact l⟩
  ·refine(ok b u q).stay (λc v hc r=>k c v ?_ r) (λc r=>by rw[c5 (d c b r)];exact r) λc xs r=>by rw[c5 (f c xs r)];exact r
   rcases hc with rfl|hc
   ·exact a
   ·rintro rfl;rcases he with z|z
    ·exact d c b hc z
    ·rw[hc]at z;cases z;exact g O
end
structure Un (fs ex:List cH)(H H':Hp)(h h':cR):Prop where
 keep:∀b o,h.get? b=some o->H b=none->b∉fs->b∉ex->h'.get? b=some o
 slot:∀b o,h.get? b=some o->H b=none->b∈fs->b∉ex -> ∃sl,h'.get? b=some {o with slots:=sl}
 free:∀b o,h.get? b=some o->H b=none->b∉ex->H' b=none
 there:∀b o,h.get? b=some o->b∉ex -> ∃o',h'.get? b=some o'
 tups:∀b xs,H b=some (.tup xs)->H' b=some (.tup xs)
 frzs:∀b o u,H b=some (.frz o u)->H' b=some (.frz o u)
 tbls:∀b ps,H b=some (.tbl ps) -> ∃more,H' b=some (.tbl (ps++more))
section
variable{fs fs' ex ex':List cH}{H H1 H2:Hp}{h h1 h2 h':cR}{a x e:cH}{o:HO}
theorem Un.any(u:Un fs ex H H1 h h1){b:cH}{a:Obj}(q:h.get? b=Z a)(n:H b=Y)(hx:b∉ex):∃d,h1.get? b=Z {a with slots:=d}:=by
 by_cases c:b∈fs
 ·exact u.slot b a q n c hx
 ·exact⟨a.slots,u.keep b a q n c hx⟩
theorem Un.trans(a:Un fs ex H H1 h h1)(b:Un fs ex H1 H2 h1 h2):Un fs ex H H2 h h2 where
 keep:=λc e q n hc d=>b.keep c e (a.keep c e q n hc d) (a.free c e q n d) hc d
 slot:=λc e q n hc d=>by
  obtain⟨j,f⟩:=a.slot c e q n hc d;obtain⟨g,i⟩:=b.slot c _ f (a.free c e q n d) hc d;exact⟨g,i⟩
 free:=λc e q n d=>by
  obtain⟨o',f⟩:=a.there c e q d;exact b.free c o' f (a.free c e q n d) d
 there:=λc e q d=>by
  obtain⟨o',f⟩:=a.there c e q d;exact b.there c o' f d
 tups:=λc xs q=>b.tups c xs (a.tups c xs q)
 frzs:=λc e xs q=>b.frzs c e xs (a.frzs c e xs q)
 tbls:=λc ps q=>by
  obtain⟨m1,f⟩:=a.tbls c ps q;obtain⟨m2,i⟩:=b.tbls c _ f;exact⟨m1++m2,by rw[i,Array.append_assoc]⟩
theorem Un.kept(k:∀b u,h.get? b=Z u->h'.get? b=Z u):Un fs ex H H h h':=
 ⟨λb a q _ _ _=>k b a q,λb a q _ _ _=>⟨a.slots,k b a q⟩,λ_ _ _ n _=>n,λb a q _=>⟨a,k b a q⟩,λ_ _ q=>q,λ_ _ _ q=>q,λ_ ps q=>⟨#[],by rw[q];simp⟩⟩
theorem Un.refl:Un fs ex H H h h:=Un.kept λ_ _ q=>q
theorem Un.laid(k:∀b u,h.get? b=Z u->h'.get? b=Z u)(hp:h.objs.size<=a)(hn:H a=Y):Un fs ex H (upd H a o) h h' where
 keep:=λb u q _ _ _=>k b u q
 slot:=λb u q _ _ _=>⟨u.slots,k b u q⟩
 free:=λb u q n _=>by rw[c5 (nN1 (nL1 (hL1 q) hp))];exact n
 there:=λb u q _=>⟨u,k b u q⟩
 tups:=λb xs q=>by rw[c5 (dJ q hn)];exact q
 frzs:=λb u xs q=>by rw[c5 (dJ q hn)];exact q
 tbls:=λb ps q=>⟨#[],by rw[c5 (dJ q hn),q];simp⟩
theorem Un.write(mu:Mut (H x))(he:e=x\/H e=Z (.own x))(k:∀b u,b≠e->h.get? b=Z u->h'.get? b=Z u)(c:∃u,h'.get? e=Z u):Un fs ex H (upd H x o) h h':=by
 have f:∀b,H b=Y->b≠x:=λb n z=>by subst z;rw[n]at mu;exact mu
 have g:∀b,H b=Y->b≠e:=λb n z=>by
  subst z;rcases he with r|r
  ·exact f b n r
  ·rw[n]at r;cases r
 have d:∀b u,H b=Z u -> ¬ Mut (Z u)->b≠x:=λb u q nm z=>by subst z;rw[q]at mu;exact nm mu
 refine⟨λb u q n _ _=>k b u (g b n) q,λb u q n _ _=>⟨u.slots,k b u (g b n) q⟩,λb u q n _=>by rw[c5 (f b n)];exact n,λb u q _=>?_,
  λb xs q=>by rw[c5 (d b _ q λz=>z)];exact q,λb u xs q=>by rw[c5 (d b _ q λz=>z)];exact q,λb ps q=>⟨#[],by rw[c5 (d b _ q λz=>z),q];simp⟩⟩
 by_cases a:b=e
 ·subst a;exact c
 ·exact⟨u,k b u a q⟩
end
noncomputable def trk(h:cR)(H:Hp):List cH:=(af h.objs.size).filter λa=>(H a).isSome
def rn(h:cR)(H:Hp):cR:=PySem.W.hideAll h (trk h H)
theorem xp(h:cR)(H:Hp):(rn h H).objs.size=h.objs.size:=PySem.W.hideAll_size _ _
theorem Aj{h:cR}{H:Hp}{b:cH}{o:Obj}(e:h.get? b=Z o)(n:H b=Y):(rn h H).get? b=Z o:=
 PySem.W.hideAll_get _ e λa=>by
  have q:(H b).isSome=M:=(List.mem_filter.mp a).2;rw[n]at q;simp at q
theorem Cb{h:cR}{H:Hp}{b:cH}{o:Obj}(e:(rn h H).get? b=Z o):h.get? b=Z o/\H b=Y:=by
 have a:h.get? b=Z o:=PySem.W.of_hideAll (trk h H) e;refine⟨a,?_⟩;cases q:H b with
 |none=>rfl
 |some x=>
  have c:b∈trk h H:=List.mem_filter.mpr ⟨aA.mpr (hL1 a),by simp[q]⟩;have z:(rn h H).get? b=Y:=PySem.W.hideAll_none (trk h H) c;rw[z]at e;cases e
noncomputable def Dn(g h:cR)(L:cH):List (cH×Obj):=(af h.objs.size).filterMap λa=>if a=L\/(g.get? a).isSome=M then Y else(h.get? a).map λo=>(a,o)
def rest(g h:cR)(L d:cH):List (cH×Obj):=(Dn g h L).filter λp=>decide (p.1≠d)
structure Mod (K:Fg1)(mg:Str->Option cF)(base:cR):Prop where
 kin:K.In base
 glob:base.Ns cM mg
 blt:∃mb,base.Ns builtinsNs mb /\ ∀x:Str,x≠"__name__"->mb x=bootBuiltins x
 nolimit:base.NoLimit
structure Cx where
 prog:cI
 w:cK
 K:Fg1
 mg:Str->Option cF
 base:cR
 A:cJ
 N:List Str
 s₀:cG
 H₀:Hp
 env:Env
 outer:List Env
 stack:List Env
 ex:List cH
 fn:Str->Bool
 calm:Bool
 pn:List (cH×Obj)
 xe:cF->cG->Prop
noncomputable def frs(l:List Env):List cH:=l.filterMap (·.frame)
abbrev Cx.fs(X:Cx):List cH:=frs X.outer
def Vis(sc:cU)(x:Str):Prop:=sc.names.lookup x=Z .local\/sc.names.lookup x=Z .cell\/sc.names.lookup x=Z .free
def uf(sc:cU)(x:Str):Prop:=sc.names.lookup x=Z .local\/sc.names.lookup x=Z .cell
def Kf(env:Env)(h:cR)(m:Str->Option cF)(x:Str)(u:cF):Prop:=
 (env.kindOf x=Z .local/\m x=Z u)\/((env.kindOf x=Z .cell\/env.kindOf x=Z .free) /\ ∃c,env.cells.lookup x=Z c/\h.IsCell c (Z u))
structure Cx.Ok (X:Cx):Prop where
 mod:Mod X.K X.mg X.base
 kind:X.env.scope.kind = .function
 glob:X.env.globals=cM
 blt:X.env.builtins=builtinsNs
 above:X.s₀.heap.objs.size<=X.env.locals
 inj:∀x y c,X.env.cells.lookup x=some c->X.env.cells.lookup y=some c->x=y
 has:∀x,(X.env.kindOf x=some .cell\/X.env.kindOf x=some .free) -> ∃c,X.env.cells.lookup x=some c
 cab:∀x c,X.fn x=true->X.env.cells.lookup x=some c->X.s₀.heap.objs.size<=c
 hd:X.calm=true->X.A.handled=none
 frames:X.A.frames=some X.stack
 stk:X.stack=X.outer\/(X.stack=X.env::X.outer/\X.env.frame=some X.env.locals)
 exf:∀b∈X.ex,b≠X.env.locals /\ ∀x c,X.env.cells.lookup x=some c->c≠b
 bs:∀b o,X.base.get? b=some o->X.s₀.heap.get? b=some o/\X.H₀ b=none
 bsz:X.base.objs.size<=X.s₀.heap.objs.size
 noex:∀b o,X.base.get? b=some o->b∉X.ex
 exfs:∀b∈X.ex,b∉X.fs
 funs:X.s₀.heap.FunFrames X.base X.outer
 frf:∀b∈X.fs,X.H₀ b=none
structure Inv (X:Cx)(ag:List (cH×Obj))(σ:List (Option V))(H:Hp)(s:cG):Prop where
 ok:X.Ok
 os:s.os=X.s₀.os
 bare:AllBare s.gens
 base:Un X.fs X.ex X.H₀ H X.s₀.heap s.heap
 loc:∃m,s.heap.Ns X.env.locals m /\ ∀(i:Nat) (x:Str) (v:V),X.N[i]?=some x->σ[i]?=some (some v)->Vis X.env.scope x -> ∃u,dn v u/\Kf X.env s.heap m x u
 cell:∀x c,X.env.cells.lookup x=some c -> ∃v,s.heap.IsCell c v
 free:H X.env.locals=none
 freeC:∀x c,X.env.cells.lookup x=some c->H c=none
 pin:∀p∈X.pn++ag,s.heap.get? p.1=some p.2/\H p.1=none/\p.1≠X.env.locals/\p.1∉X.fs /\ ∀v,p.2.data ≠ .cell v
 hok:j4 X.prog X.w H s.heap
 len:σ.length=X.N.length
variable{X:Cx}
section
variable{ag:List (cH×Obj)}{σ:List (Option V)}{H H':Hp}{s:cG}{h':cR}
theorem Cx.Ok.nofr(ok:X.Ok){b:cH}{o:Obj}(e:X.base.get? b=Z o):b∉X.fs:=λa=>by
 have:=(ok.funs.mem a).1;rw[e]at this;cases this
theorem Inv.bs(I:Inv X ag σ H s):∀b o,X.base.get? b=Z o->s.heap.get? b=Z o/\H b=Y:=λb o e=>
 ⟨I.base.keep b o (I.ok.bs b o e).1 (I.ok.bs b o e).2 (I.ok.nofr e) (I.ok.noex b o e),I.base.free b o (I.ok.bs b o e).1 (I.ok.bs b o e).2 (I.ok.noex b o e)⟩
theorem Inv.bk(I:Inv X ag σ H s):∀b o,X.base.get? b=Z o->s.heap.get? b=Z o:=λb o e=>(I.bs b o e).1
theorem Inv.mod(I:Inv X ag σ H s):Mod X.K X.mg X.base:=I.ok.mod
theorem Inv.kIn(I:Inv X ag σ H s):X.K.In s.heap:=I.ok.mod.kin.keeps I.bk
theorem Inv.lt(I:Inv X ag σ H s):X.env.locals<s.heap.objs.size:=let ⟨_,hn,_⟩:=I.loc;hn.lt
theorem Inv.sz(I:Inv X ag σ H s):X.s₀.heap.objs.size<=s.heap.objs.size:=aB I.ok.above (Nat.le_of_lt I.lt)
theorem Inv.nofs(I:Inv X ag σ H s){a:cH}(h:s.heap.objs.size<=a):a∉X.fs:=λb=>by
 obtain⟨_,o,c,_⟩:=I.ok.funs.mem b;exact absurd (nL1 (hL1 c) (aB I.sz h)) (az _)
theorem Inv.cne(I:Inv X ag σ H s):∀x c,X.env.cells.lookup x=Z c->c≠X.env.locals:=λx c e z=>by
 obtain⟨v,o,f,d⟩:=I.cell x c e;obtain⟨m,⟨o',es,ep,b,a,_⟩,_⟩:=I.loc;rw[z,b]at f;cases f;rw[a]at d;cases d
theorem Inv.funs(I:Inv X ag σ H s):s.heap.FunFrames X.base X.outer:=by
 have all:∀(l:List Env),(∀b∈frs l,b∈X.fs)->X.s₀.heap.FunFrames X.base l->s.heap.FunFrames X.base l:=by
  intro l
  induction l with
  |nil=>intro _ _;trivial
  |cons m r ih=>
   intro f i;obtain⟨h,⟨L,o,c,k,n,g⟩,j⟩:=i;have a:L∈X.fs:=f L (by unfold frs;rw[aC,c];exact mS1);obtain⟨p,e⟩:=I.base.slot L o n (I.ok.frf L a) a λz=>I.ok.exfs L z a;exact⟨h,⟨L,_,c,k,e,g⟩,ih (λb d=>f b (by unfold frs;rw[aC,c];exact mC1 _ d)) j⟩
 exact all X.outer (λ_ d=>d) I.ok.funs
theorem Inv.stack(I:Inv X ag σ H s):s.heap.FunFrames X.base X.stack:=by
 rcases I.ok.stk with e|⟨e,b⟩
 ·rw[e];exact I.funs
 ·rw[e];obtain⟨m,a,_⟩:=I.loc;refine .cons (by rw[I.ok.kind];decide) b a ?_ I.funs;exact Heap.get?_none_of_le (aB I.ok.bsz I.ok.above)
theorem Inv.stkSub(I:Inv X ag σ H s):∀b∈frs X.stack,b∈X.env.locals::X.fs:=λb a=>by
 rcases I.ok.stk with e|⟨e,c⟩
 ·rw[e]at a;exact mC1 _ a
 ·rw[e]at a;unfold frs at a;rw[aC,c]at a;exact a
theorem Inv.stkFree(I:Inv X ag σ H s):∀b∈frs X.stack,H b=Y:=λb a=>by
 rcases aD.mp (I.stkSub b a)with e|a
 ·rw[e];exact I.free
 ·obtain⟨_,o,c,_⟩:=I.ok.funs.mem a;exact I.base.free b o c (I.ok.frf b a) λz=>I.ok.exfs b z a
theorem Inv.step{g':Array GenState}{t':Nat}{d':Drawn}{ch:List cH}(I:Inv X ag σ H s)(f:∀b∈ch,(b∈X.ex\/X.s₀.heap.objs.size<=b)/\b≠X.env.locals/\(∀x c,X.env.cells.lookup x=some c->c≠b) /\ ∀p∈X.pn++ag,p.1≠b)(keep:∀b o,b≠X.env.locals->b∉X.fs->b∉ch->s.heap.get? b=some o->H b=none->h'.get? b=some o)(slot:∀b o,b≠X.env.locals->b∈X.fs->b∉ch->s.heap.get? b=some o->H b=none -> ∃am,h'.get? b=some {o with slots:=am})(free:∀b o,b∉ch->s.heap.get? b=some o->H b=none->H' b=none)(w:∀b o,b∉ch->s.heap.get? b=some o -> ∃o',h'.get? b=some o')(F:∀b xs,H b=some (.tup xs)->H' b=some (.tup xs))(E:∀b o u,H b=some (.frz o u)->H' b=some (.frz o u))(D:∀b ps,H b=some (.tbl ps) -> ∃more,H' b=some (.tbl (ps++more)))(ns:∀m,s.heap.Ns X.env.locals m->h'.Ns X.env.locals m)(G:j4 X.prog X.w H' h')(hg:AllBare g'):
  Inv X ag σ H' {s with heap:=h',gens:=g',drawn:=d',toks:=t'}:=by
 have B:∀b o,X.s₀.heap.get? b=Z o->b≠X.env.locals:=λb o e=>nN1 (nL1 (hL1 e) I.ok.above);have j:∀b o,X.s₀.heap.get? b=Z o->b∉X.ex->b∉ch:=λb o e a y=>by
  rcases(f b y).1 with z|z
  ·exact a z
  ·exact absurd (nL1 (hL1 e) z) (az _)
 have h:∀x c,X.env.cells.lookup x=Z c -> ∀v,s.heap.IsCell c v->h'.IsCell c v:=λx c e v ⟨o,A,K⟩=>by
  have g:c∉ch:=λz=>(f c z).2.2.1 x c e O;by_cases hc:c∈X.fs
  ·obtain⟨am,q⟩:=slot c o (I.cne x c e) hc g A (I.freeC x c e);exact⟨_,q,K⟩
  ·exact⟨o,keep c o (I.cne x c e) hc g A (I.freeC x c e),K⟩
 refine⟨I.ok,I.os,hg,⟨λb o e n y a=>?_,λb o e n y a=>?_,λb o e n a=>?_,λb o e a=>?_,λb xs e=>F b xs (I.base.tups b xs e),λb o xs e=>E b o xs (I.base.frzs b o xs e),λb ps e=>?_⟩,?_,λx c e=>?_,?_,λx c e=>?_,λp ao=>?_,G,I.len⟩
 ·exact keep b o (B b o e) y (j b o e a) (I.base.keep b o e n y a) (I.base.free b o e n a)
 ·obtain⟨am,t⟩:=I.base.slot b o e n y a;obtain⟨L,C⟩:=slot b _ (B b o e) y (j b o e a) t (I.base.free b o e n a);exact⟨L,C⟩
 ·obtain⟨o',t⟩:=I.base.there b o e a;exact free b o' (j b o e a) t (I.base.free b o e n a)
 ·obtain⟨o',t⟩:=I.base.there b o e a;exact w b o' (j b o e a) t
 ·obtain⟨m1,t⟩:=I.base.tbls b ps e;obtain⟨m2,C⟩:=D b _ t;exact⟨m1++m2,by rw[C,Array.append_assoc]⟩
 ·obtain⟨m,au,P⟩:=I.loc;refine⟨m,ns m au,λi x v t C Q=>?_⟩;obtain⟨u,r,l⟩:=P i x v t C Q;refine⟨u,r,?_⟩;rcases l with l|⟨k,c,e,z⟩
  ·exact .inl l
  ·exact .inr ⟨k,c,e,h x c e _ z⟩
 ·obtain⟨v,z⟩:=I.cell x c e;exact⟨v,h x c e v z⟩
 ·obtain⟨m,⟨o,_,_,A,_⟩,_⟩:=I.loc;exact free _ o (λz=>(f _ z).2.1 O) A I.free
 ·obtain⟨v,o,A,K⟩:=I.cell x c e;exact free c o (λz=>(f c z).2.2.1 x c e O) A (I.freeC x c e)
 ·obtain⟨e,n,ne,N,d⟩:=I.pin p ao;have g:p.1∉ch:=λz=>(f p.1 z).2.2.2 p ao O;exact⟨keep p.1 p.2 ne N g e n,free p.1 p.2 g e n,ne,N,d⟩
theorem Inv.un{t':Nat}(I:Inv X ag σ H s)(u:Un X.fs [] H H' s.heap h')(c:j4 X.prog X.w H' h'):Inv X ag σ H' {s with heap:=h',toks:=t'}:=by
 obtain⟨m,⟨o,es,ep,h,r⟩,_⟩:=id I.loc;obtain⟨l,i⟩:=u.any h I.free (by simp);exact I.step (g':=s.gens) (d':=s.drawn) (ch:=[]) (λ_ z=>nomatch z) (λb o _ g _ e n=>u.keep b o e n g (by simp)) (λb o _ g _ e n=>u.slot b o e n g (by simp)) (λb o _ e n=>u.free b o e n (by simp)) (λb o _ e=>u.there b o e (by simp)) u.tups u.frzs u.tbls (λp k=>by
  obtain⟨o',f,d,a,j⟩:=k;rw[h]at a;cases a;exact⟨_,f,d,i,j⟩) c I.bare
theorem Inv.call{g':Array GenState}{t':Nat}{d':Drawn}{ch:List cH}(I:Inv X ag σ H s)(u:Un (frs X.stack) ch H H' s.heap h')(f:j4 X.prog X.w H' h')(hg:AllBare g')(a:∀b∈ch,(b∈X.ex\/X.s₀.heap.objs.size<=b)/\b≠X.env.locals/\(∀x c,X.env.cells.lookup x=some c->c≠b) /\ ∀p∈X.pn++ag,p.1≠b):
  Inv X ag σ H' {s with heap:=h',gens:=g',drawn:=d',toks:=t'}:=by
 obtain⟨m,⟨o,es,ep,j,r⟩,_⟩:=id I.loc;obtain⟨t,h⟩:=u.any j I.free λz=>(a _ z).2.1 O;exact I.step (ch:=ch) a (λb o h l hc e n=>u.keep b o e n (λz=>(aD.mp (I.stkSub b z)).elim h l) hc) (λb o _ _ hc e n=>u.any e n hc) (λb o hc e n=>u.free b o e n hc) (λb o hc e=>u.there b o e hc) u.tups u.frzs u.tbls (λv q=>by
  obtain⟨o',i,g,d,k⟩:=q;rw[j]at d;cases d;exact⟨_,i,g,h,k⟩) f hg
theorem Inv.turned{t':Nat}{it:cH}(I:Inv X ag σ H s)(k:∀ b o,b≠it->s.heap.get? b=Z o->h'.get? b=Z o)(hn:H it=Y)(d:it≠X.env.locals)(h1:it∈X.ex\/X.s₀.heap.objs.size<=it)(h2:∀x c,X.env.cells.lookup x=Z c->c≠it)(f:∀p∈X.pn++ag,p.1≠it):Inv X ag σ H {s with heap:=h',toks:=t'}:=by
 have a:∀b u,H b=Z u->b≠it:=λb u e z=>by rw[z,hn]at e;cases e
 refine I.step (g':=s.gens) (d':=s.drawn) (ch:=[it]) (λb g=>?_) (λb o _ _ hc e _=>k b o (λz=>hc (by simp[z])) e) (λb o _ _ hc e _=>⟨o.slots,k b o (λz=>hc (by simp[z])) e⟩) (λ_ _ _ _ n=>n)
  (λb o hc e=>⟨o,k b o (λz=>hc (by simp[z])) e⟩) (λ_ _ e=>e) (λ_ _ _ e=>e) (λb ps e=>⟨#[],by rw[e];simp⟩) (λm h=>?_) (λb u e=>?_) I.bare
 ·have e:b=it:=by simpa using g
  subst e;exact⟨h1,d,h2,f⟩
 ·obtain⟨o,es,ep,i,r⟩:=h;exact⟨o,es,ep,k _ o (Ne.symm d) i,r⟩
 ·refine(I.hok b u e).stay (λc v hc q=>k c v ?_ q) (λ_ q=>q) λ_ _ q=>q;rcases hc with z|z
  ·rw[z];exact a b u e
  ·exact a c _ z
theorem Inv.tok(I:Inv X ag σ H s)(t:Nat):Inv X ag σ H {s with toks:=t}:=I.un (h':=s.heap) (t':=t) Un.refl I.hok
theorem Inv.kept{t':Nat}(I:Inv X ag σ H s)(k:∀b u,s.heap.get? b=Z u->h'.get? b=Z u):Inv X ag σ H {s with heap:=h',toks:=t'}:=I.un (Un.kept k) (I.hok.kept k)
theorem Inv.laid{a:cH}{o:HO}{t':Nat}(I:Inv X ag σ H s)(k:∀ b u,s.heap.get? b=some u->h'.get? b=some u)(hp:s.heap.objs.size<=a)(new:dZ X.prog X.w (upd H a o) h' a o):
  Inv X ag σ (upd H a o) {s with heap:=h',toks:=t'}:=I.un (Un.laid k hp (I.hok.fresh hp)) (I.hok.laid k hp new)
theorem Inv.write{x e:cH}{o:HO}{t':Nat}(I:Inv X ag σ H s)(mu:Mut (H x))(he:e=x\/H e=Z (.own x))(k:∀ b u,b≠e->s.heap.get? b=Z u->h'.get? b=Z u)(a:∃ u,h'.get? e=Z u)(new:dZ X.prog X.w (upd H x o) h' x o):Inv X ag σ (upd H x o) {s with heap:=h',toks:=t'}:=I.un (Un.write mu he k a) (I.hok.write mu he k a new)
theorem Inv.pins_of{a:List (cH×Obj)}(I:Inv X ag σ H s)(h:∀p∈a,s.heap.get? p.1=Z p.2/\H p.1=Y/\p.1≠X.env.locals/\p.1∉X.fs /\ ∀v,p.2.data ≠ .cell v):Inv X a σ H s:=
 ⟨I.ok,I.os,I.bare,I.base,I.loc,I.cell,I.free,I.freeC,λp b=>(aE.mp b).elim (λz=>I.pin p (aF _ z)) (h p),I.hok,I.len⟩
theorem sR{N:List Str}(hN:N.Nodup){i j:Nat}{x:Str}(a:N[i]?=Z x)(b:N[j]?=Z x):i=j:=by
 obtain⟨h1,d⟩:=gE1.mp a;obtain⟨h2,c⟩:=gE1.mp b;exact(List.getElem_inj hN).mp (d.trans c.symm)
theorem wT{ao:Model}{A:cJ}{E:cF->cG->Prop}{i:Nat}{x:Str}{v:V}{u:cF}{Q:Unit->cG->Prop}(I:Inv X ag σ H s)(hN:X.N.Nodup)(hi:X.N[i]? = Z x)(hx:uf X.env.scope x)(r:dn v u)(h:∀s',Inv X ag (σ.set i (Z v)) H s'->(∃a,Heap.SameBut a s.heap s'.heap/\(a=X.env.locals\/X.env.cells.lookup x=Z a))->Q () s')(hf:autoParam (X.fn x=M\/X.env.scope.names.lookup x=Z .local) au0):cP ao A (storeName X.env x u) Q E s:=by
 obtain⟨m,aq,hl⟩:=id I.loc;have N:(X.env.scope.kind == .class||(X.env.scope.kind == .module&&X.env.locals != X.env.globals))=J:=by rw[I.ok.kind];rfl
 have B:i<σ.length:=by rw[I.len];exact(gE1.mp hi).1
 have cne:=I.cne;have tracked:∀{a:cH} {h':cR},(∃o,s.heap.get? a=Z o/\H a=Y)->Heap.SameBut a s.heap h'->j4 X.prog X.w H h':=λ{a h'} ha f b ob e=>by
  obtain⟨_,_,l⟩:=ha;refine(I.hok b ob e).stay (λc P hc q=>(f.2 c ?_).trans q) (λ_ q=>q) λ_ _ q=>q;rintro rfl;rcases hc with rfl|hc
  ·rw[l]at e;cases e
  ·rw[l]at hc;cases hc
 rcases hx with w|w
 ·refine wpAny_storeName_local w aq (λh' S f=>?_) N;obtain⟨oL,_,_,hoL,_⟩:=id aq;refine h _ ⟨I.ok,I.os,I.bare,⟨λb o e n F hx=>?_,λb o e n F hx=>?_,I.base.free,λb o e hx=>?_,I.base.tups,I.base.frzs,I.base.tbls⟩,⟨_,S,λj y v' g t e3=>?_⟩,λy c e=>?_,I.free,I.freeC,λp R=>?_,tracked ⟨oL,hoL,I.free⟩ f,by simpa using I.len⟩ ⟨_,f,.inl O⟩
  ·exact(f.2 b (nN1 (nL1 (hL1 e) I.ok.above))).trans (I.base.keep b o e n F hx)
  ·obtain⟨T,g⟩:=I.base.slot b o e n F hx;exact⟨T,(f.2 b (nN1 (nL1 (hL1 e) I.ok.above))).trans g⟩
  ·obtain⟨o',g⟩:=I.base.there b o e hx;exact⟨o',(f.2 b (nN1 (nL1 (hL1 e) I.ok.above))).trans g⟩
  ·by_cases C:j=i
   ·subst C;rw[hi]at g;cases g;rw[aG B]at t;cases t;exact⟨u,r,.inl ⟨w,by simp⟩⟩
   ·rw[gS1 (Ne.symm C)]at t;obtain⟨W,wq,q⟩:=hl j y v' g t e3;refine⟨W,wq,?_⟩;rcases q with⟨k,e⟩|⟨k,c,e,z⟩
    ·refine .inl ⟨k,?_⟩;have:y≠x:=λe=>C (sR hN g (e ▸ hi));simp[this,e]
    ·exact .inr ⟨k,c,e,z.sameBut f (cne y c e)⟩
  ·obtain⟨P,z⟩:=I.cell y c e;exact⟨P,z.sameBut f (cne y c e)⟩
  ·obtain⟨e,n,ne,U,d⟩:=I.pin p R;exact⟨(f.2 p.1 ne).trans e,n,ne,U,d⟩
 ·have D:X.fn x=true:=by
   rcases hf with z|z
   ·exact z
   ·rw[z]at w;cases w
  obtain⟨c,hc⟩:=I.ok.has x (.inl w);obtain⟨P,z⟩:=I.cell x c hc;refine wpAny_storeName_cell I.ok.kind w hc z (λh' K f=>?_);obtain⟨oc,G,am⟩:=id z;refine h {s with heap:=h'} ⟨I.ok,I.os,I.bare,⟨λb o e n F hx=>?_,λb o e n F hx=>?_,I.base.free,λb o e hx=>?_,I.base.tups,I.base.frzs,I.base.tbls⟩,⟨m,aq.sameBut f (Ne.symm (cne x c hc)),λj y v' g t e3=>?_⟩,λy au e=>?_,I.free,I.freeC,λp R=>?_,tracked ⟨oc,G,I.freeC x c hc⟩ f,by simpa using I.len⟩ ⟨c,f,.inr hc⟩
  ·exact(f.2 b (nN1 (nL1 (hL1 e) (I.ok.cab x c D hc)))).trans (I.base.keep b o e n F hx)
  ·obtain⟨T,g⟩:=I.base.slot b o e n F hx;exact⟨T,(f.2 b (nN1 (nL1 (hL1 e) (I.ok.cab x c D hc)))).trans g⟩
  ·obtain⟨o',g⟩:=I.base.there b o e hx;exact⟨o',(f.2 b (nN1 (nL1 (hL1 e) (I.ok.cab x c D hc)))).trans g⟩
  ·by_cases C:j=i
   ·subst C;rw[hi]at g;cases g;rw[aG B]at t;cases t;exact⟨u,r,.inr ⟨.inl w,c,hc,K⟩⟩
   ·rw[gS1 (Ne.symm C)]at t;obtain⟨W,wq,q⟩:=hl j y v' g t e3;refine⟨W,wq,?_⟩;rcases q with q|⟨k,au,e,z'⟩
    ·exact .inl q
    ·refine .inr ⟨k,au,e,z'.sameBut f ?_⟩;rintro rfl;exact C (sR hN g (I.ok.inj _ _ _ e hc ▸ hi))
  ·by_cases L:au=c
   ·subst L;exact⟨_,K⟩
   ·obtain⟨w2,z2⟩:=I.cell y au e;exact⟨w2,z2.sameBut f L⟩
  ·obtain⟨e,n,ne,U,d⟩:=I.pin p R;refine⟨(f.2 p.1 ?_).trans e,n,ne,U,d⟩;intro q;rw[q,G]at e;have q':oc=p.2:=Option.some.inj e;exact d P (by rw[<- q'];exact am)
theorem iP{ao:Model}{A:cJ}{E:cF->cG->Prop}{i:Nat}{x:Str}{v:V}{u:cF}{Q:Unit->cG->Prop}(I:Inv X ag σ H s)(hN:X.N.Nodup)(hi:X.N[i]? = Z x)(hx:uf X.env.scope x)(r:dn v u)(h:∀s',Inv X ag (σ.set i (Z v)) H s'->Q () s')(hf:autoParam (X.fn x=M\/X.env.scope.names.lookup x=Z .local) au0):cP ao A (storeName X.env x u) Q E s:=
 wT I hN hi hx r (λs' a _=>h s' a) hf
theorem Inv.call'{s':cG}{ch:List cH}(I:Inv X ag σ H s)(ho:s'.os=s.os)(u:Un (frs X.stack) ch H H' s.heap s'.heap)(d:j4 X.prog X.w H' s'.heap)(hg:AllBare s'.gens)(a:∀b∈ch,(b∈X.ex\/X.s₀.heap.objs.size<=b)/\b≠X.env.locals/\(∀x c,X.env.cells.lookup x=Z c->c≠b) /\ ∀p∈X.pn++ag,p.1≠b):Inv X ag σ H' s':=by
 obtain⟨h',g,d',f,o'⟩:=s';have e:o'=s.os:=ho;subst e;exact I.call (g':=g) (t':=f) (d':=d') u d hg a
end
abbrev XK:=cF->Option cH->Hp->Prop
abbrev St:=List (Option V)
abbrev VK:=V->Hp->Prop
abbrev TE:=St->Hp->VK->Prop
abbrev TT:=St->Hp->(Bool->Hp->Prop)->Prop
abbrev TA:=St->Hp->(List V->Hp->Prop)->Prop
structure gJ where
 nx:St->Hp->Prop
 rt:VK
 bk:St->Hp->Prop:=λ_ _=>False
 ct:St->Hp->Prop:=λ_ _=>False
abbrev TS:=gJ->St->Hp->Prop
def EP(X:Cx)(ag:List (cH×Obj))(σ:St)(Q:VK)(u:cF)(s':cG):Prop:=∃v H',Inv X ag σ H' s'/\dn v u/\Q v H'
def TP(X:Cx)(ag:List (cH×Obj))(σ:St)(Q:Bool->Hp->Prop)(b:Bool)(s':cG):Prop:=∃H',Inv X ag σ H' s'/\Q b H'
def AP(X:Cx)(ag:List (cH×Obj))(σ:St)(Q:List V->Hp->Prop)(us:List cF)(s':cG):Prop:=∃vs H',Inv X ag σ H' s'/\dF vs us/\Q vs H'
def SP(X:Cx)(ag:List (cH×Obj))(D:gJ)(f:Flow)(s':cG):Prop:=
 match f with
 | .next=>∃ σ' H',Inv X ag σ' H' s'/\D.nx σ' H'
 | .brk=>∃ σ' H',Inv X ag σ' H' s'/\D.bk σ' H'
 | .cont=>∃ σ' H',Inv X ag σ' H' s'/\D.ct σ' H'
 | .ret u=>∃v σ' H',Inv X ag σ' H' s'/\dn v u/\D.rt v H'
def PE(X:Cx)(e:Expr)(t:TE):Prop:=
 ∀(ag:List (cH×Obj)) (s:cG) (σ:St) (H:Hp) (Q:VK),Inv X ag σ H s->t σ H Q->cP (model X.prog X.w) X.A (eval e X.env) (EP X ag σ Q) X.xe s
def PT(X:Cx)(e:Expr)(t:TT):Prop:=
 ∀(ag:List (cH×Obj)) (s:cG) (σ:St) (H:Hp) (Q:Bool->Hp->Prop),Inv X ag σ H s->t σ H Q->cP (model X.prog X.w) X.A (isTrue e X.env (eval e X.env)) (TP X ag σ Q) X.xe s
def PW(X:Cx)(e:Expr)(t:TT):Prop:=
 ∀(whole:Sem cF) (ag:List (cH×Obj)) (s:cG) (σ:St) (H:Hp) (Q:Bool->Hp->Prop),Inv X ag σ H s->t σ H Q->cP (model X.prog X.w) X.A (isTrue e X.env whole) (TP X ag σ Q) X.xe s
theorem PW.pt{X:Cx}{e:Expr}{t:TT}(h:PW X e t):PT X e t:=h _
def PA(X:Cx)(es:List Expr)(t:TA):Prop:=
 ∀(pos:Pos) (ag:List (cH×Obj)) (s:cG) (σ:St) (H:Hp) (Q:List V->Hp->Prop),Inv X ag σ H s->t σ H Q->cP (model X.prog X.w) X.A (spliced (backTo pos (cN es X.env))) (AP X ag σ Q) X.xe s
def PS(X:Cx)(st:cT)(t:TS):Prop:=
 ∀(ag:List (cH×Obj)) (s:cG) (σ:St) (H:Hp) (D:gJ),Inv X ag σ H s->t D σ H->cP (model X.prog X.w) X.A (exec st X.env) (SP X ag D) X.xe s
def uq(X:Cx)(st:List cT)(t:TS):Prop:=
 ∀(ag:List (cH×Obj)) (s:cG) (σ:St) (H:Hp) (D:gJ),Inv X ag σ H s->t D σ H->cP (model X.prog X.w) X.A (execs st X.env) (SP X ag D) X.xe s
theorem eu{α:Type}{t:Sem α}{Q b:α->cG->Prop}{ao:Model}{A:cJ}{E:cF->cG->Prop}{s:cG}(h:cP ao A t Q E s)(c:∀a s,Q a s->b a s):cP ao A t b E s:=wpAny_mono h c λ_ _ x=>x
section
theorem LF{a b:Expr}{ta tb:TE}(ha:PE X a ta)(hb:PE X b tb){ag:List (cH×Obj)}{s:cG}{σ:St}{H:Hp}{R:V->V->Hp->Prop}(I:Inv X ag σ H s)(h:ta σ H fun x H1=>tb σ H1 fun y H2=>R x y H2){α:Type}{Q:α->cG->Prop}{f:cF->cF->Sem α}(hf:∀v u e x y H2,Inv X ag σ H2 e->dn x v->dn y u->R x y H2->cP (model X.prog X.w) X.A (f v u) Q X.xe e):
  cP (model X.prog X.w) X.A (eval a X.env) (λv c=>cP (model X.prog X.w) X.A (eval b X.env) (λu d=>cP (model X.prog X.w) X.A (f v u) Q X.xe d) X.xe c) X.xe s:=by
 refine eu (ha ag s σ H _ I h) λv m ⟨x,H1,g,j,k⟩=>?_;refine eu (hb ag m σ H1 _ g k) λu e ⟨y,H2,i,r2,l⟩=>?_;exact hf v u e x y H2 i j r2 l
noncomputable def Jk(i:Nat):TE:=fun σ H Q=>∃v,σ[i]?=Z (Z v)/\Q v H
noncomputable def tC(v:V):TE:=λ_ H Q=>Q v H
theorem EQ {i:Nat}{x:Str}{pos:Pos}(hN:X.N[i]?=Z x)(hv:Vis X.env.scope x)(hd:autoParam ((x == ("__debug__":Str))=J) bu0)(hcd:autoParam ((x == ("__classdict__":Str))=J) bu0):PE X (.Name x pos) (Jk i):=by
 intro ag s σ H Q I h;obtain⟨v,e,h⟩:=h;obtain⟨m,g,f⟩:=I.loc;obtain⟨u,r,l⟩:=f i x v hN e hv;have d:EP X ag σ Q u s:=⟨v,H,I,r,h⟩;rcases l with⟨b,j⟩|⟨b,c,hc,a⟩
 ·exact wpAny_Name (wpAny_loadName_local I.ok.kind b g j d) hd
 ·rcases b with b|b
  ·exact wpAny_Name (wpAny_loadName_cell I.ok.kind b hc a d) hd
  ·exact wpAny_Name (wpAny_loadName_free I.ok.kind b hc a d hcd) hd
theorem EY{i j pos}:PE X (.Constant (.int i) j pos) (tC (.int i)):=λ_ _ _ H _ I h=>wpAny_Constant_int ⟨.int i,H,I.tok _,⟨_,O⟩,h⟩
theorem Hz{b j pos}:PE X (.Constant (.bool b) j pos) (tC (.bl b)):=λ_ _ _ H _ I h=>Constant_bool ⟨.bl b,H,I,O,h⟩
theorem EV{j pos}:PE X (.Constant .none j pos) (tC .non):=λ_ _ _ H _ I h=>Constant_none ⟨.non,H,I,O,h⟩
theorem ES{x j pos}:PE X (.Constant (.str x) j pos) (tC (.str x)):=λ_ _ _ H _ I h=>Calls.Constant_str ⟨.str x,H,I.tok _,⟨_,O⟩,h⟩
def Gl(X:Cx)(x:Str):Prop:=X.env.kindOf x=Z .globalImplicit
theorem rh {E:cF->cG->Prop}{ag:List (cH×Obj)}{s:cG}{σ:St}{H:Hp}{x:Str}{u:cF}{pos:Pos}{Q:cF->cG->Prop}(I:Inv X ag σ H s)(hg:Gl X x)(hm:X.mg x=some u)(h:Q u s)
  (hd:autoParam ((x == ("__debug__":Str))=J) bu0):cP (model X.prog X.w) X.A (eval (.Name x pos) X.env) Q E s:=
 Calls.Name_function_global I.ok.kind hg (Calls.loadGlobal_global (by rw[I.ok.glob];exact I.mod.glob.keeps I.bk) hm h) hd
theorem i3 {E:cF->cG->Prop}{ag:List (cH×Obj)}{s:cG}{σ:St}{H:Hp}{x:Str}{u:cF}{pos:Pos}{Q:cF->cG->Prop}(I:Inv X ag σ H s)(hg:Gl X x)(hm:X.mg x=none)(hv:bootBuiltins x=some u)(h:Q u s)
  (hn:autoParam (x≠"__name__") bu0) (hd:autoParam ((x == ("__debug__":Str))=J) bu0):cP (model X.prog X.w) X.A (eval (.Name x pos) X.env) Q E s:=by
 obtain⟨a,h1,h2⟩:=I.mod.blt;exact Calls.Name_function_global I.ok.kind hg (Calls.loadGlobal_builtin (by rw[I.ok.glob];exact I.mod.glob.keeps I.bk) hm (by rw[I.ok.blt];exact h1.keeps I.bk) ((h2 x hn).trans hv) h) hd
theorem B0 {x:Str}{v:V}{u:cF}{pos:Pos}(hg:Gl X x)(hm:X.mg x=Z u)(r:dn v u)(hd:autoParam ((x == ("__debug__":Str))=J) bu0):PE X (.Name x pos) (tC v):=
 λ_ _ _ H _ I h=>rh I hg hm ⟨v,H,I,r,h⟩ hd
theorem B6 {x:Str}{v:V}{u:cF}{pos:Pos}(hg:Gl X x)(hm:X.mg x=Y)(hv:bootBuiltins x=Z u)(r:dn v u)(hn:autoParam (x≠"__name__") bu0)(hd:autoParam ((x == ("__debug__":Str))=J) bu0):PE X (.Name x pos) (tC v):=
 λ_ _ _ H _ I h=>i3 I hg hm hv ⟨v,H,I,r,h⟩ hn hd
variable{a b:Expr}{ta tb:TE}{pos:Pos}
noncomputable def tB(t:TE):TT:=fun σ H Q=>t σ H λx H1=>∃c,x = .bl c/\Q c H1
variable{tA tB':TT}{rest:List Expr}
noncomputable def Jv(t u:TT):TT:=fun σ H Q=>t σ H λc H1=>if c=M then u σ H1 Q else Q J H1
noncomputable def KO(t u:TT):TT:=fun σ H Q=>t σ H λc H1=>if c=M then Q M H1 else u σ H1 Q
noncomputable def Jp(t:TT):TT:=fun σ H Q=>t σ H λc H1=>Q (!c) H1
theorem BJ(ha:PT X a tA):PW X (.BoolOp .And [a] pos) tA:=by
 intro b ag s σ H Q I h;refine isTrue_and (eu (ha ag s σ H Q I h) λc d e=>?_);cases c with
 |true=>exact isTrue_and_nil e
 |false=>exact e
theorem Ex(ha:PT X a tA):PW X (.BoolOp .Or [a] pos) tA:=by
 intro b ag s σ H Q I h;refine isTrue_or (eu (ha ag s σ H Q I h) λc d e=>?_);cases c with
 |false=>exact isTrue_or_nil e
 |true=>exact e
theorem Ey(ha:PT X a tA)(hb:PW X (.BoolOp .And (b::rest) pos) tB'):PW X (.BoolOp .And (a::b::rest) pos) (Jv tA tB'):=by
 intro f ag s σ H Q I h;refine isTrue_and (eu (ha ag s σ H _ I h) λc g ⟨H1,d,e⟩=>?_);cases c with
 |true=>exact hb f ag g σ H1 Q d e
 |false=>exact⟨H1,d,e⟩
theorem Hr(ha:PT X a tA)(hb:PW X (.BoolOp .Or (b::rest) pos) tB'):PW X (.BoolOp .Or (a::b::rest) pos) (KO tA tB'):=by
 intro f ag s σ H Q I h;refine isTrue_or (eu (ha ag s σ H _ I h) λc g ⟨H1,d,e⟩=>?_);cases c with
 |true=>exact⟨H1,d,e⟩
 |false=>exact hb f ag g σ H1 Q d e
theorem EC(ha:PT X a tA):PT X (.UnaryOp .Not a pos) (Jp tA):=by
 intro ag s σ H Q I h;exact isTrue_not (ha ag s σ H (λc H1=>Q (!c) H1) I h)
noncomputable def Hf(ta tb:TE):TE:=fun σ H Q=>ta σ H λx H1=>∃c,x = .bl c/\if c=M then tb σ H1 Q else Q (.bl J) H1
noncomputable def G7(ta:TE):TE:=fun σ H Q=>ta σ H λx H1=>∃c,x = .bl c/\Q (.bl (!c)) H1
theorem ET{op}{t:TE}(h:PE X a t):PE X (.BoolOp op [a] pos) t:=λag s σ H Q I b=>BoolOp_one (h ag s σ H Q I b)
theorem EZ(ha:PE X a ta)(hb:PE X (.BoolOp .And (b::rest) pos) tb):PE X (.BoolOp .And (a::b::rest) pos) (Hf ta tb):=by
 intro ag s σ H Q I h;refine BoolOp_and (eu (ha ag s σ H _ I h) λv g ⟨x,H1,e,f,d⟩=>?_);obtain⟨c,rfl,d⟩:=d;cases f;refine wpAny_truthy_bool ?_;cases c with
 |true=>exact hb ag g σ H1 Q e d
 |false=>exact⟨.bl J,H1,e,O,d⟩
theorem EU(ha:PE X a ta):PE X (.UnaryOp .Not a pos) (G7 ta):=by
 intro ag s σ H Q I h;refine UnaryOp_ (eu (ha ag s σ H _ I h) λv f ⟨x,H1,d,e,b⟩=>?_);obtain⟨c,rfl,b⟩:=b;cases e;exact not_of (wpAny_truthy_bool ⟨.bl (!c),H1,d,O,b⟩)
noncomputable def KQ(t:TT)(ta tb:TE):TE:=fun σ H Q=>t σ H λc H1=>if c=M then ta σ H1 Q else tb σ H1 Q
theorem zk{c:Expr}(hc:PT X c tA)(ha:PE X a ta)(hb:PE X b tb):PE X (.IfExp c a b pos) (KQ tA ta tb):=by
 intro ag s σ H Q I h;refine wpAny_IfExp (eu (hc ag s σ H _ I h) λd g ⟨H1,e,f⟩=>?_);cases d with
 |true=>exact ha ag g σ H1 Q e f
 |false=>exact hb ag g σ H1 Q e f
end
def k4(K:Fg1)(H:Hp)(a:cH)(xs:List V):Prop:=
 Rd H a (.lst xs) \/
  ∃(o:Obj) (its:Array cF) (n:Nat),K.lookup a=Z o/\o.cls = .type "list"/\o.dict=Y/\o.data = .seq its n/\its.size<=cO/\dF xs its.toList
def jv(K:Fg1)(H:Hp)(a:cH)(xs:List V):Prop:=
 Rd H a (.tup xs) \/
  ∃(o:Obj) (its:Array cF) (n:Nat),K.lookup a=Z o/\o.cls = .type "tuple"/\o.data = .seq its n/\its.size<=cO/\dF xs its.toList
noncomputable def J9:cF->Option V
 | .none=>Z .non
 | .bool b=>Z (.bl b)
 | .int i _=>Z (.int i)
 | .str x _=>Z (.str x)
 | .bytes b _=>Z (.byt b)
 | .float b _=>Z (.flt b)
 | .ref a=>Z (.ref a)
 | .type n=>Z (.ty n)
 |_=>Y
theorem dn.abs{x:V}{u:cF}(r:dn x u):J9 u=Z x:=by
 cases x with
 |non=>cases r;rfl
 |bl _=>cases r;rfl
 |int _=>obtain⟨t,rfl⟩:=r;rfl
 |str _=>obtain⟨t,rfl⟩:=r;rfl
 |byt _=>obtain⟨t,rfl⟩:=r;rfl
 |flt _=>obtain⟨t,rfl⟩:=r;rfl
 |ref _=>cases r;rfl
 |ty _=>cases r;rfl
theorem dn.inj{x y:V}{u:cF}(r:dn x u)(q:dn y u):x=y:=Option.some.inj (r.abs.symm.trans q.abs)
theorem dF.inj:∀{xs ys:List V} {us:List cF},dF xs us->dF ys us->xs=ys:=by
 intro xs ys us h g
 induction h generalizing ys with
 |nil=>cases g;rfl
 |cons r t ih=>cases g with
  |cons b a=>rw[r.inj b,ih a]
section
variable{ag:List (cH×Obj)}{σ:St}{H:Hp}{s:cG}{a:cH}{xs ys:List V}
theorem k4.of{K:Fg1}(h:H a=Z (.lst xs)):k4 K H a xs:=.inl (.inl h)
theorem jv.of{K:Fg1}(h:H a=Z (.tup xs)):jv K H a xs:=.inl (.inl h)
theorem Inv.list(I:Inv X ag σ H s)(h:k4 X.K H a xs):∃b:List cF,dF xs b/\PlainL s.heap a b.toArray/\xs.length<=cO:=by
 rcases h with h|⟨o,b,n,d,hc,c,f,g,r⟩
 ·obtain⟨z,b,n,r,e⟩:=h.ok I.hok;exact⟨b,r,⟨_,n,e,O,O,O⟩,z⟩
 ·refine⟨b.toList,r,⟨o,n,I.kIn a o d,hc,c,by simpa using f⟩,?_⟩;have e:=r.length;simp only[aH]at e;lia
theorem Inv.tuple(I:Inv X ag σ H s)(h:jv X.K H a xs):∃b:List cF,dF xs b/\IsTup s.heap a b.toArray/\xs.length<=cO:=by
 rcases h with h|⟨o,b,n,c,hc,d,f,r⟩
 ·obtain⟨z,b,r,p⟩:=h.ok I.hok;exact⟨b,r,p,z⟩
 ·refine⟨b.toList,r,⟨o,I.kIn a o c,hc,n,by simpa using d⟩,?_⟩;have e:=r.length;simp only[aH]at e;lia
theorem Inv.list_inj(I:Inv X ag σ H s)(h:k4 X.K H a xs)(h':k4 X.K H a ys):xs=ys:=by
 obtain⟨b,r,⟨o,n,e,_,_,d⟩,_⟩:=I.list h;obtain⟨its',g,⟨o',i,c,_,_,d'⟩,_⟩:=I.list h';rw[e]at c;cases c;rw[d]at d';injection d' with f _;have:b=its':=by simpa using congrArg Array.toList f
 subst this;exact r.inj g
theorem Inv.tuple_inj(I:Inv X ag σ H s)(h:jv X.K H a xs)(h':jv X.K H a ys):xs=ys:=by
 obtain⟨b,r,⟨o,e,_,n,d⟩,_⟩:=I.tuple h;obtain⟨its',g,⟨o',c,_,i,d'⟩,_⟩:=I.tuple h';rw[e]at c;cases c;rw[d]at d';injection d' with f _;have:b=its':=by simpa using congrArg Array.toList f
 subst this;exact r.inj g
end
abbrev Cx.wish(X:Cx)(E:cF->cG->Prop):Cx:={X with xe:=E}
abbrev Cx.nox(X:Cx):Cx:=X.wish λ_ _=>False
theorem Cx.Ok.wish{X:Cx}(ok:X.Ok)(E:cF->cG->Prop):(X.wish E).Ok:=
 ⟨ok.mod,ok.kind,ok.glob,ok.blt,ok.above,ok.inj,ok.has,ok.cab,ok.hd,ok.frames,ok.stk,ok.exf,ok.bs,ok.bsz,ok.noex,ok.exfs,ok.funs,ok.frf⟩
theorem Cx.Ok.unwish{X:Cx}{E:cF->cG->Prop}(ok:(X.wish E).Ok):X.Ok:=
 ⟨ok.mod,ok.kind,ok.glob,ok.blt,ok.above,ok.inj,ok.has,ok.cab,ok.hd,ok.frames,ok.stk,ok.exf,ok.bs,ok.bsz,ok.noex,ok.exfs,ok.funs,ok.frf⟩
section
variable{ag:List (cH×Obj)}{σ:St}{H:Hp}{s:cG}{E:cF->cG->Prop}
theorem Inv.wish(I:Inv X ag σ H s)(E:cF->cG->Prop):Inv (X.wish E) ag σ H s:=⟨I.ok.wish E,I.os,I.bare,I.base,I.loc,I.cell,I.free,I.freeC,I.pin,I.hok,I.len⟩
theorem Inv.unwish(I:Inv (X.wish E) ag σ H s):Inv X ag σ H s:=⟨I.ok.unwish,I.os,I.bare,I.base,I.loc,I.cell,I.free,I.freeC,I.pin,I.hok,I.len⟩
theorem SP.unwish{D:gJ}{f:Flow}{s':cG}(h:SP (X.wish E) ag D f s'):SP X ag D f s':=by
 cases f with
 |next=>obtain⟨a,H',I,q⟩:=h;exact⟨a,H',I.unwish,q⟩
 |brk=>obtain⟨a,H',I,q⟩:=h;exact⟨a,H',I.unwish,q⟩
 |cont=>obtain⟨a,H',I,q⟩:=h;exact⟨a,H',I.unwish,q⟩
 |ret u=>obtain⟨v,a,H',I,r,q⟩:=h;exact⟨v,a,H',I.unwish,r,q⟩
theorem uq.nox{st:List cT}{t:TS}(h:uq X.nox st t):uq X st t:=λag s σ H D I a=>
 wpAny_mono (h ag s σ H D (I.wish _) a) (λ_ _ q=>q.unwish) λ_ _ z=>False.elim z
end
section
variable{st:cT}{rest:List cT}{t u:TS}{e:Expr}{te:TE}{pos:Pos}
noncomputable def G9:TS:=λD σ H=>D.nx σ H
noncomputable def Jm(t u:TS):TS:=λD σ H=>t {D with nx:=u D} σ H
theorem BQ:uq X [] G9:=λ_ _ σ H _ I h=>wpAny_execs_nil ⟨σ,H,I,h⟩
theorem y1(h1:PS X st t)(h2:uq X rest u):uq X (st::rest) (Jm t u):=by
 intro ag s σ H D I h;refine wpAny_execs_cons (eu (h1 ag s σ H {D with nx:=u D} I h) λf c q=>?_);cases f with
 |next=>
  obtain⟨a,H',b,q⟩:=q;exact h2 ag c a H' D b q
 |ret v=>exact q
 |brk=>exact q
 |cont=>exact q
theorem BP(h1:PS X st t):uq X [st] t:=by
 intro ag s σ H D I h;refine wpAny_execs_cons (eu (h1 ag s σ H D I h) λf a q=>?_);cases f with
 |next=>exact wpAny_execs_nil q
 |ret v=>exact q
 |brk=>exact q
 |cont=>exact q
noncomputable def Hd:TS:=λD σ H=>D.ct σ H
theorem sF:PS X (.Continue pos) Hd:=λ_ _ σ H _ I h=>wpAny_Continue ⟨σ,H,I,h⟩
theorem Inv.quiet{ag:List (cH×Obj)}{σ:St}{H:Hp}{s:cG}(I:Inv X ag σ H s):interactive X.env=J:=by simp[interactive,I.ok.kind]
noncomputable def Hb(te:TE):TS:=λD σ H=>te σ H λ_ H1=>D.nx σ H1
theorem BR(he:PE X e te)(hs:autoParam (swapsWith e Y pos.line X.env=pure J) cu0):PS X (.Expr e pos) (Hb te):=by
 intro ag s σ H D I h;exact wpAny_Expr_any (eu (he ag s σ H _ I h) λv d ⟨x,H1,a,c,b⟩=>⟨σ,H1,a,b⟩) I.quiet hs
noncomputable def Jn(te:TE):TS:=λD σ H=>te σ H D.rt
theorem EE(he:PE X e te):PS X (.Return (Z e) pos) (Jn te):=by
 intro ag s σ H D I h;exact wpAny_Return_some (eu (he ag s σ H _ I h) λv d ⟨x,H1,a,b,c⟩=>⟨x,σ,H1,a,b,c⟩)
noncomputable def Jt(c:TT)(t u:TS):TS:=λD σ H=>c σ H λb H1=>if b=M then t D σ H1 else u D σ H1
theorem Hs{c:Expr}{a b:List cT}{tc:TT}(hc:PT X c tc)(ha:uq X a t)(hb:uq X b u):PS X (.If c a b pos) (Jt tc t u):=by
 intro ag s σ H D I h;refine wpAny_If (eu (hc ag s σ H _ I h) λd g ⟨H1,e,f⟩=>?_);cases d with
 |true=>exact ha ag g σ H1 D e f
 |false=>exact hb ag g σ H1 D e f
end
abbrev TG:=V->St->Hp->(St->Hp->Prop)->Prop
abbrev DX:=List V->St->Hp->(St->Hp->Prop)->Prop
def PG(X:Cx)(target:Expr)(t:TG):Prop:=
 ∀(ag:List (cH×Obj)) (s:cG) (σ:St) (H:Hp) (v:V) (u:cF) (Q:St->Hp->Prop),Inv X ag σ H s->dn v u->t v σ H Q ->
  cP (model X.prog X.w) X.A (assign target X.env u) (λ_ s'=>∃ σ' H',Inv X ag σ' H' s'/\Q σ' H') X.xe s
def GF(X:Cx)(ts:List Expr)(t:DX):Prop:=
 ∀(ag:List (cH×Obj)) (s:cG) (σ:St) (H:Hp) (vs:List V) (us:List cF) (Q:St->Hp->Prop),Inv X ag σ H s->dF vs us->t vs σ H Q ->
  cP (model X.prog X.w) X.A (assignInOrder ((assignEach ts X.env).map (·.2)) us) (λ_ s'=>∃ σ' H',Inv X ag σ' H' s'/\Q σ' H') X.xe s
abbrev GD:=V->V->V->Hp->(Hp->Prop)->Prop
def vz(X:Cx)(t:GD):Prop:=
 ∀(ag:List (cH×Obj)) (s:cG) (σ:St) (H:Hp) (o i v:V) (ov iv u:cF) (Q:Hp->Prop),Inv X ag σ H s->dn o ov->dn i iv->dn v u->t o i v H Q ->
  cP (model X.prog X.w) X.A (setItem ov iv u) (λ_ s'=>∃H',Inv X ag σ H' s'/\Q H') X.xe s
abbrev Kd:=V->V->Hp->VK->Prop
def Jg(X:Cx)(op:Operator)(t:Kd):Prop:=
 ∀(ag:List (cH×Obj)) (s:cG) (σ:St) (H:Hp) (x y:V) (v u:cF) (Q:VK),Inv X ag σ H s->dn x v->dn y u->t x y H Q ->
  cP (model X.prog X.w) X.A (inplaceOp op v u) (EP X ag σ Q) X.xe s
section
variable{pos:Pos}
noncomputable def wm(i:Nat):TG:=λv σ H Q=>Q (σ.set i (Z v)) H
theorem vY{i:Nat}{x:Str}(hN:X.N.Nodup)(hi:X.N[i]?=Z x)(hx:uf X.env.scope x)(hf:autoParam (X.fn x=M\/X.env.scope.names.lookup x=Z .local) au0):PG X (.Name x pos) (wm i):=by
 intro ag s σ H v u Q I r h;exact wpAny_assign_Name (iP I hN hi hx r (λs' a=>⟨_,H,a,h⟩) hf)
noncomputable def JS:DX:=λvs σ H Q=>vs=[]/\Q σ H
noncomputable def Ii(t:TG)(u:DX):DX:=λvs σ H Q=>∃v r,vs=v::r/\t v σ H fun σ' H'=>u r σ' H' Q
theorem BZ:GF X [] JS:=by
 intro ag s σ H vs a Q I r h;obtain⟨e,h⟩:=h;subst e;cases r;exact assignInOrder_nil ⟨σ,H,I,h⟩
theorem zg{e:Expr}{es:List Expr}{t:TG}{u:DX}(h1:PG X e t)(h2:GF X es u)(hs:autoParam ((assignEach (e::es) X.env).map (·.2)=assign e X.env::(assignEach es X.env).map (·.2)) cu0):GF X (e::es) (Ii t u):=by
 intro ag s σ H vs j Q I r h;obtain⟨v,i,b,h⟩:=h;subst b;cases r with
 |cons r f=>
  rw[hs];refine assignInOrder_cons (eu (h1 ag s σ H _ _ _ I r h) λ_ g ⟨a,H1,c,d⟩=>?_);exact h2 ag g a H1 _ _ Q c f d
noncomputable def gTup(K:Fg1)(n:Nat)(t:DX):TG:=λv σ H Q=>∃a xs,v = .ref a/\jv K H a xs/\xs.length=n/\t xs σ H Q
theorem EN{es:List Expr}{k:Nat}{t:DX}{n:Nat}(hc:X.calm=M)(h:GF X es t)(hn:autoParam ((assignEach es X.env).length=n) cu0)(hst:autoParam ((assignEach es X.env).findIdx? (·.1)=Y) cu0):PG X (.Tuple es k pos) (gTup X.K n t):=by
 intro ag s σ H v u Q I r c;obtain⟨a,xs,g,p,f,c⟩:=c;subst g;cases r;obtain⟨l,d,j,q⟩:=I.tuple p;refine assign_Tuple_tuple (I.ok.hd hc) j (by simp[hn,<- f,d.length]) hst λh' m=>?_;have i:Inv X ag σ H {s with heap:=h'}:=I.kept (t':=s.toks) λb o e=>m b o (nN1 (hL1 e)) e;exact h ag _ σ H xs _ Q i (by simpa using d) c
noncomputable def gSub(to ti:TE)(t:GD):TG:=λv σ H Q=>to σ H λo H1=>ti σ H1 λi H2=>t o i v H2 λH3=>Q σ H3
theorem EO{o i:Expr}{to ti:TE}{t:GD}(ho:PE X o to)(hi:PE X i ti)(hs:vz X t)(ha:autoParam (∀v,assign (.Subscript o i pos) X.env v=(do
   let a<-holding [v] (eval o X.env)
   let b<-holding [v,a] (eval i X.env)
   standAt pos
   holding [v,a,b] (setItem a b v)
   release [v,a,b] [])) du0):PG X (.Subscript o i pos) (gSub to ti t):=by
 intro ag s σ H v u Q I r h;rw[ha];refine wB1 (wpAny_holding (eu (ho ag s σ H _ I h) λa n ⟨x,H1,f,k,l⟩=>?_));refine wB1 (wpAny_holding (eu (hi ag n σ H1 _ f l) λb e ⟨y,H2,g,r2,m⟩=>?_));refine wB1 (wpAny_standAt (wB1 (wpAny_holding (eu (hs ag e σ H2 x y v a b u _ g k r2 r m) λ_ p ⟨d,j,c⟩=>?_))));exact wpAny_release ⟨σ,d,j,c⟩
noncomputable def yD(te:TE)(g:TG):TS:=λD σ H=>te σ H λx H1=>g x σ H1 D.nx
theorem EI{tg e:Expr}{te:TE}{g:TG}(he:PE X e te)(hg:PG X tg g)(hs:autoParam (swapsWithSole [tg] e pos.line X.env=pure J) cu0)(hw:autoParam (swappedStores [tg] e X.env=pure Y) cu0)(h1:autoParam ((assignEach [tg] X.env).map (·.2)=[assign tg X.env]) cu0):PS X (.Assign [tg] e pos) (yD te g):=by
 intro ag s σ H D I h;refine wpAny_Assign_stores (eu (he ag s σ H _ I h) λv d ⟨x,H1,a,c,b⟩=>?_) hs hw;rw[h1];exact eu (hg ag d σ H1 x v _ a c b) λ_ f q=>q
theorem ED{i:Nat}{x:Str}{e:Expr}{te:TE}{pos':Pos}(hN:X.N.Nodup)(hi:X.N[i]? = some x)(hx:uf X.env.scope x)(he:PE X e te)(hs:autoParam (swapsWith e (some (.Name x pos')) pos.line X.env=pure false) cu0)(hf:autoParam (X.fn x=true\/X.env.scope.names.lookup x=some .local) au0):
  PS X (.Assign [.Name x pos'] e pos) (yD te (wm i)):=by
 intro ag s σ H D I h;refine wpAny_Assign_Name (eu (he ag s σ H _ I h) λv g ⟨y,H1,a,d,c⟩=>?_) hs;exact iP a hN hi hx d (λf b=>⟨_,H1,b,c⟩) hf
noncomputable def Jo(i j:Nat)(ta:TA):TS:=λD σ H=>ta σ H λvs H1=>∃v w,vs=[v,w]/\D.nx ((σ.set i (Z v)).set j (Z w)) H1
theorem EF{i j:Nat}{x y:Str}{a b:Expr}{ta:TA}{f l pt:Pos}{kt k2 pt2}(hc:X.calm=true)(hN:X.N.Nodup)(hi:X.N[i]? = some x)(z:X.N[j]? = some y)(m:i≠j)(hx:X.env.scope.names.lookup x=some .local)(hy:X.env.scope.names.lookup y=some .local)(ha:PA X [a,b] ta)(hw:swappedStores [.Tuple [.Name x f,.Name y l] kt pt] (.Tuple [a,b] k2 pt2) X.env=pure (some [x,y]))(hs:autoParam (swapsWithSole [.Tuple [.Name x f,.Name y l] kt pt] (.Tuple [a,b] k2 pt2) pos.line X.env=pure false) cu0):
  PS X (.Assign [.Tuple [.Name x f,.Name y l] kt pt] (.Tuple [a,b] k2 pt2) pos) (Jo i j ta):=by
 intro ag s σ H D I h;rw[exec_Assign_arm];refine wB1 (wpAny_standAt ?_);rw[hs];refine wB1 (wP1 ?_);rw[aj (by decide)];refine wB1 (Tuple_ (eu (ha _ ag s σ H _ I h) λK c ⟨vs,H1,u,A,k⟩=>?_));obtain⟨v,w,G,k⟩:=k;subst G;obtain⟨d,u2,rfl,C,g⟩:∃d u2,K=[d,u2]/\dn v d/\dn w u2:=by
  cases A with
  |cons p q=>
   cases q with
   |cons F E=>
    cases E;exact⟨_,_,O,p,F⟩
 refine wO1 ?_ (by show 2<=cO;decide);have B:Inv X ag σ H1 {c with heap:=c.heap.push {cls:=.type "tuple",data:=.seq [d,u2].toArray}}:=u.kept (t':=c.toks) λb o e=>hP1 _ e;rw[hw];refine wB1 (wP1 ?_);show cP (model X.prog X.w) X.A (do rule "assign.swapped-stores";let items<-unpackItems (.ref c.heap.objs.size) 2 Y;assignInOrder [λv=>bindName X.env y v,λv=>bindName X.env x v] items.reverse;pure Flow.next) _ _ _;refine wB1 (wpAny_rule (wB1 (unpackItems_tuple (items:= #[d,u2]) (I.ok.hd hc) (IsTup.new c.heap _) λh' n=>?_)));have am:=B.kept (h':=h') (t':=c.toks) λb o e=>n b o (nN1 (hL1 e)) e;show cP _ _ (assignInOrder [λv=>bindName X.env y v,λv=>bindName X.env x v] [u2,d] >>= λ_=>pure Flow.next) _ _ _;refine wB1 (assignInOrder_cons (wpAny_bindName (iP am hN z (.inl hy) g (λao t=>?_) (.inr hy))));refine assignInOrder_cons (wpAny_bindName (iP t hN hi (.inl hx) C (λL r=>assignInOrder_nil (wP1 ?_)) (.inr hx)));rw[List.set_comm _ _ (Ne.symm m)]at r;exact⟨_,H1,r,k⟩
noncomputable def Ju(i:Nat)(te:TE)(ti:Kd):TS:=λD σ H=>∃x,σ[i]?=Z (Z x)/\te σ H λy H1=>ti x y H1 λz H2=>D.nx (σ.set i (Z z)) H2
theorem EH{i:Nat}{x:Str}{e:Expr}{te:TE}{op:Operator}{ti:Kd}{pos':Pos}(hN:X.N.Nodup)(hi:X.N[i]? = some x)(hx:uf X.env.scope x)(he:PE X e te)(ho:Jg X op ti)(hf:autoParam (X.fn x=true\/X.env.scope.names.lookup x=some .local) au0):
  PS X (.AugAssign (.Name x pos') op e pos) (Ju i te ti):=by
 intro ag s σ H D I h;obtain⟨v,F,h⟩:=h;obtain⟨m,B,E⟩:=I.loc;have g:Vis X.env.scope x:=by rcases hx with k|k;exact .inl k;exact .inr (.inl k)
 obtain⟨u,r,l⟩:=E i x v hi F g;refine wpAny_AugAssign_Name ?_;have j:cP (model X.prog X.w) X.A (eval e X.env) (λw d=>cP (model X.prog X.w) X.A (inplaceOp op u w) (λr f=>cP (model X.prog X.w) X.A (storeName X.env x r) (λ_=>SP X ag D .next) X.xe f) X.xe d) X.xe s:=by
  refine eu (he ag s σ H _ I h) λw t ⟨y,H1,n,o,p⟩=>?_;refine eu (ho ag t σ H1 v y u w _ n r o p) λz L ⟨am,H2,A,r2,q⟩=>?_;exact iP A hN hi hx r2 (λK G=>⟨_,H2,G,q⟩) hf
 rcases l with⟨a,C⟩|⟨a,c,hc,b⟩
 ·exact wpAny_loadName_local I.ok.kind a B C j
 ·rcases a with a|a
  ·exact wpAny_loadName_cell I.ok.kind a hc b j
  ·rcases hx with k|k
   ·have:X.env.scope.names.lookup x=Z .free:=a;rw[k]at this;cases this
   ·have:X.env.scope.names.lookup x=Z .free:=a;rw[k]at this;cases this
noncomputable def yA(c:TT)(tb:TS):TS:=λD σ H=>∃W:Nat->St->Hp->Prop,(∃m,W m σ H) /\ ∀m σ H,W m σ H ->
 c σ H λb H1=>if b=M then∃N:St->Hp->Prop,(∀ σ' H',N σ' H' -> ∃m',m'<m/\W m' σ' H')/\tb {D with nx:=N,ct:=N,bk:=D.nx} σ H1 else D.nx σ H1
theorem y2{c:Expr}{e:List cT}{tc:TT}{tb:TS}(hp:PassesOwn (model X.prog X.w) X.A X.env X.xe)(hc:PT X c tc)(hb:uq X e tb):PS X (.While c e [] pos) (yA tc tb):=by
 intro ag s σ H D I h;obtain⟨W,⟨y,z⟩,i⟩:=h;refine wpAny_While (codeAny_whileLoop (λn s'=>∃j H',Inv X ag j H' s'/\W n j H') ?_ y ⟨σ,H,I,z⟩);rintro n x ⟨d,H1,w,A⟩;refine wpAny_passesOwn hp (eu (hc ag x d H1 _ w (i n d H1 A)) λb B ⟨H2,u,k⟩=>?_);cases b with
 |true=>
  obtain⟨N,t,k⟩:=k;rw[ak O];refine wpAny_passesOwn hp (eu (hb ag B d H2 _ u k) λf C l=>?_);cases f with
  |next=>
   obtain⟨a,g,r,o⟩:=l;obtain⟨p,q,m⟩:=t a g o;exact⟨p,q,a,g,r,m⟩
  |cont=>
   obtain⟨a,g,r,o⟩:=l;obtain⟨p,q,m⟩:=t a g o;exact⟨p,q,a,g,r,m⟩
  |brk=>exact l
  |ret v=>exact l
 |false=>
  rw[aj aI];exact wpAny_execs_nil ⟨d,H2,u,k⟩
end
structure It where
 go:Nat->Hp->Prop
 yld:Nat->Hp->V->Hp->Prop
 stop:Nat->Hp->Prop
def h8(X:Cx)(ag:List (cH×Obj))(H:Hp)(b:cH):Prop:=
 H b=Y/\b≠X.env.locals/\b∉X.fs/\(b∈X.ex\/X.s₀.heap.objs.size<=b)/\(∀x c,X.env.cells.lookup x=Z c->c≠b) /\ ∀p∈X.pn++ag,p.1≠b
theorem Inv.fpOk{X:Cx}{ag:List (cH×Obj)}{σ:St}{H H':Hp}{s:cG}{b:cH}(I:Inv X ag σ H s)(hb:s.heap.objs.size<=b)(hn:H' b=Y):h8 X ag H' b:=by
 refine⟨hn,nG1 (nL1 I.lt hb),I.nofs hb,.inr (aB I.sz hb),λx c e z=>?_,λp a z=>?_⟩
 ·obtain⟨v,q⟩:=I.cell x c e;exact absurd (nL1 q.lt (by rw[z];exact hb)) (az _)
 ·exact absurd (nL1 (hL1 (I.pin p a).1) (by rw[z];exact hb)) (az _)
structure rP (P:cI)(w:cK)(K:Fg1)(tg:Expr)(am:It)(fp:List cH)(it:cH)(tn:Nat->cR->Prop):Prop where
 mem:it∈fp
 obj:∀i h,tn i h -> ∀b∈fp,∃o,h.get? b=some o /\ ∀v,o.data ≠ .cell v
 keep:∀i h h',tn i h->(∀b∈fp,∀o,h.get? b=some o->h'.get? b=some o)->tn i h'
 item:∀(X:Cx),X.prog=P->X.w=w->X.K=K->X.calm=true -> ∀(i:Nat) (ag:List (cH×Obj)) (s:cG) (σ:St) (H:Hp) (E:cF->cG->Prop),Inv X ag σ H s->(∀b∈fp,h8 X ag H b)->tn i s.heap->am.go i H ->
  cP (model P w) X.A (pyNext (.ref it)) (λr s1=>∃u,r=some u /\
   cP (model P w) X.A (letOwnedTupleGo tg (.ref it) u) (λ_ s2=>∃x H',Inv X ag σ H' s2/\dn x u/\am.yld i H x H'/\tn (i+1) s2.heap /\ ∀b∈fp,H' b=none) E s1) E s
 done:∀(X:Cx),X.prog=P->X.w=w->X.K=K->X.calm=true -> ∀(i:Nat) (ag:List (cH×Obj)) (s:cG) (σ:St) (H:Hp) (E:cF->cG->Prop),Inv X ag σ H s->(∀b∈fp,h8 X ag H b)->tn i s.heap->am.stop i H ->
  cP (model P w) X.A (pyNext (.ref it)) (λr s1=>r=none/\Inv X ag σ H s1) E s
 self:∀(A:cJ) (i:Nat) (s:cG) (Q:cF->cG->Prop) (E:cF->cG->Prop),tn i s.heap->Q (.ref it) s->cP (model P w) A (pyIter (.ref it)) Q E s
abbrev TI:=St->Hp->(It->Hp->Prop)->Prop
def KD(X:Cx)(ag:List (cH×Obj))(σ:St)(tg:Expr)(R:It->Hp->Prop)(itv:cF)(s2:cG):Prop:=
 ∃(it:cH) (fp:List cH) (tn:Nat->cR->Prop) (am:It) (H':Hp),itv = .ref it/\Inv X ag σ H' s2/\rP X.prog X.w X.K tg am fp it tn/\tn 0 s2.heap/\(∀b∈fp,h8 X ag H' b)/\R am H'
def PI(X:Cx)(tg iter:Expr)(wi:TI):Prop:=
 ∀(ag:List (cH×Obj)) (s:cG) (σ:St) (H:Hp) (R:It->Hp->Prop),Inv X ag σ H s->wi σ H R ->
  cP (model X.prog X.w) X.A (eval iter X.env) (λv s1=>cP (model X.prog X.w) X.A (pyIter v) (KD X ag σ tg R) X.xe s1) X.xe s
theorem wl {ao:Model}{A:cJ}{E:cF->cG->Prop}{s:cG}{tg:Expr}{it:cH}{u:cF}{o:Obj}{n:String}{vs:Array cF}{Q:Unit->cG->Prop}(ho:s.heap.get? it=some o)(hc:o.cls = .type n)(hd:o.data = .fields vs)
   (hn:["enumerate","zip","dict_itemiterator","dict_reverseitemiterator","odict_iterator","itertools.zip_longest","itertools.pairwise"].contains n=J) (a:Q () s):cP ao A (letOwnedTupleGo tg (.ref it) u) Q E s:=by
 unfold letOwnedTupleGo;cases tg <;> first
   |exact wP1 a
   | (cases u<;>first
       |exact wP1 a
       | (refine wB1 (wpAny_load ho ?_)
          rw[hc,hd];show cP ao A (if(["enumerate","zip","dict_itemiterator","dict_reverseitemiterator","odict_iterator","itertools.zip_longest","itertools.pairwise"].contains n&&vs[0]? == Z (rawInt _))=M then _ else _) Q E s;rw[aj (by intro h;rw[hn,aJ]at h;cases h)];exact wP1 a))
noncomputable def KH(K:Fg1)(a:cH):It:=
 ⟨λi H=>∃xs x,k4 K H a xs/\xs[i]?=Z x,λi H x H'=>H'=H /\ ∀xs,k4 K H a xs->xs[i]?=Z x,λi H=>∃xs,k4 K H a xs/\xs.length<=i⟩
noncomputable def KG(K:Fg1)(a:cH):It:=
 ⟨λi H=>∃xs x,jv K H a xs/\xs[i]?=Z x,λi H x H'=>H'=H /\ ∀xs,jv K H a xs->xs[i]?=Z x,λi H=>∃xs,jv K H a xs/\xs.length<=i⟩
noncomputable def IK(lo:Int)(n:Nat):It:=⟨λi _=>i<n,λi H x H'=>H'=H/\x = .int (lo+i),λi _=>n<=i⟩
theorem wQ{P:cI}{w:cK}{K:Fg1}{tg:Expr}(a it:cH):rP P w K tg (KH K a) [it] it (λi h=>h.IsListIter it a i) where
 mem:=by simp
 obj:=λi h st b f=>by
  have e:b=it:=by simpa using f
  subst e;obtain⟨o,e,c,d⟩:=st;exact⟨o,e,λv z=>by rw[d]at z;cases z⟩
 keep:=λi h h' st k=>st.at λo e=>k it (by simp) o e
 item:=by
  intro X r F D hc i ag s σ H E I j st l;subst r F D;obtain⟨xs,x,g,A⟩:=l;obtain⟨n,t,p,ao⟩:=I.list g;obtain⟨u,au,R⟩:=t.get A;obtain⟨C,q,L,m,y,B⟩:=j it (by simp);refine wpAny_pyNext_list_item st p.isList (x:=u) (by simpa using au) λh' st' Q=>?_;have G:Inv X ag σ H {s with heap:=h'}:=I.turned (t':=s.toks) (λb o f e=>(Q.2 b f).trans e) C q m y B;obtain⟨o,e,c,d⟩:=id st';exact⟨u,O,wl (s:={s with heap:=h'}) e c d (by decide) ⟨x,H,G,R,⟨O,λys am=>by rw[I.list_inj am g];exact A⟩,st',λb f=>(j b f).1⟩⟩
 done:=by
  intro X r F D hc i ag s σ H E I j st l;subst r F D;obtain⟨xs,g,A⟩:=l;obtain⟨n,t,p,ao⟩:=I.list g;obtain⟨C,q,L,m,y,B⟩:=j it (by simp);have S:=t.length;exact wpAny_pyNext_list_end (I.ok.hd hc) st p.isList (by simp;lia) λh' N=>⟨O,I.turned (t':=s.toks) (λb o f e=>N b o f e) C q m y B⟩
 self:=λ_ _ _ _ _ st h=>wpAny_pyIter_listiter st h
theorem uA{P:cI}{w:cK}{K:Fg1}{tg:Expr}(a it:cH):rP P w K tg (KG K a) [it] it (λi h=>h.IsTupleIter it a i) where
 mem:=by simp
 obj:=λi h st b g=>by
  have e:b=it:=by simpa using g
  subst e;obtain⟨o,e,c,d⟩:=st;exact⟨o,e,λv z=>by rw[d]at z;cases z⟩
 keep:=λi h h' st k=>st.at λo e=>k it (by simp) o e
 item:=by
  intro X r F D hc i ag s σ H E I l st m;subst r F D;obtain⟨xs,x,j,A⟩:=m;obtain⟨f,t,p,ao⟩:=I.tuple j;obtain⟨u,au,R⟩:=t.get A;obtain⟨C,q,L,n,y,B⟩:=l it (by simp);refine wpAny_pyNext_tuple_item st (show s.heap.IsTuple a f.toArray from p) (x:=u) (by simpa using au) λh' st' Q=>?_;have G:Inv X ag σ H {s with heap:=h'}:=I.turned (t':=s.toks) (λb o g e=>(Q.2 b g).trans e) C q n y B;obtain⟨o,e,c,d⟩:=id st';exact⟨u,O,wl (s:={s with heap:=h'}) e c d (by decide) ⟨x,H,G,R,⟨O,λys am=>by rw[I.tuple_inj am j];exact A⟩,st',λb g=>(l b g).1⟩⟩
 done:=by
  intro X r F D hc i ag s σ H E I l st m;subst r F D;obtain⟨xs,j,A⟩:=m;obtain⟨f,t,p,ao⟩:=I.tuple j;obtain⟨C,q,L,n,y,B⟩:=l it (by simp);have S:=t.length;exact wpAny_pyNext_tuple_end (I.ok.hd hc) st (show s.heap.IsTuple a f.toArray from p) (by simp;lia) λh' N=>⟨O,I.turned (t':=s.toks) (λb o g e=>N b o g e) C q n y B⟩
 self:=λ_ _ _ _ _ st h=>wpAny_pyIter_tupleiter st h
theorem uB{P:cI}{w:cK}{K:Fg1}{tg:Expr}(it:cH)(lo:Int)(n:Nat):rP P w K tg (IK lo n) [it] it (λi h=>IsRangeIter h it (lo+(i:Nat)*1) ((n:Int)-(i:Nat)) 1) where
 mem:=by simp
 obj:=λi h st b a=>by
  have e:b=it:=by simpa using a
  subst e;exact⟨_,st,λv z=>by
   have y:Data.fields _=Data.cell v:=z;cases y⟩
 keep:=λi h h' st k=>k it (by simp) _ st
 item:=by
  intro X r p m hc i ag s σ H E I c st f;subst r p m;obtain⟨g,q,A,j,l,d⟩:=c it (by simp);have W:=Walks.range (prog:=X.prog) (w:=X.w) (I.ok.hd hc) it lo 1 n;refine W.item i s _ _ f st λv h' tk B st' C=>?_;obtain⟨t,rfl⟩:=B;have x:Inv X ag σ H {s with heap:=h',toks:=tk}:=I.turned (λb o a e=>C b o (by simpa using a) e) g q j l d;refine⟨_,O,wl (s:={s with heap:=h',toks:=tk}) (n:="range_iterator") st' O O (by decide) ⟨.int (lo+i),H,x,⟨t,?_⟩,⟨O,O⟩,st',λb a=>(c b a).1⟩⟩;rw[Int.mul_one]
 done:=by
  intro X r p m hc i ag s σ H E I c st f;subst r p m;obtain⟨g,q,A,j,l,d⟩:=c it (by simp);exact wpAny_pyNext_range_end (I.ok.hd hc) st (by have:n<=i:=f;lia) λh' u=>⟨O,I.turned (t':=s.toks) (λb o a e=>u b o a e) g q j l d⟩
 self:=λ_ _ _ _ _ st h=>wpAny_pyIter_rangeiter st h
section
variable{tg:Expr}
def Ic(K:Fg1)(tl:TE):TI:=fun σ H R=>tl σ H λx H1=>∃a,x = .ref a/\(∃xs,k4 K H1 a xs)/\R (KH K a) H1
def JR(K:Fg1)(tl:TE):TI:=fun σ H R=>tl σ H λx H1=>∃a,x = .ref a/\(∃xs,jv K H1 a xs)/\R (KG K a) H1
theorem BX{l:Expr}{tl:TE}(f:PE X l tl):PI X tg l (Ic X.K tl):=by
 intro ag s σ H R I h;refine eu (f ag s σ H _ I h) λv d ⟨x,H1,c,k,m⟩=>?_;obtain⟨a,e,⟨xs,j⟩,q⟩:=m;subst e;cases k;obtain⟨g,n,p,r⟩:=c.list j;refine wpAny_pyIter_list p.isList ?_;refine⟨d.heap.objs.size,[d.heap.objs.size],_,_,H1,O,c.kept (t':=d.toks) λb o e=>hP1 _ e,wQ a _,⟨_,hS1 _ O,O,O⟩,λb i=>?_,q⟩;have e:b=d.heap.objs.size:=by simpa using i
 subst e;exact c.fpOk (nR1 _) (c.hok.fresh (nR1 _))
theorem EL{l:Expr}{tl:TE}(g:PE X l tl):PI X tg l (JR X.K tl):=by
 intro ag s σ H R I h;refine eu (g ag s σ H _ I h) λv c ⟨x,H1,d,k,m⟩=>?_;obtain⟨a,e,⟨xs,j⟩,q⟩:=m;subst e;cases k;obtain⟨f,n,p,r⟩:=d.tuple j;refine wpAny_pyIter_tuple (show c.heap.IsTuple a f.toArray from p) ?_;refine⟨c.heap.objs.size,[c.heap.objs.size],_,_,H1,O,d.kept (t':=c.toks) λb o e=>hP1 _ e,uA a _,⟨_,hS1 _ O,O,O⟩,λb i=>?_,q⟩;have e:b=c.heap.objs.size:=by simpa using i
 subst e;exact d.fpOk (nR1 _) (d.hok.fresh (nR1 _))
theorem sA{ag:List (cH×Obj)}{σ:St}{H:Hp}{s:cG}{R:It->Hp->Prop}{E:cF->cG->Prop}{lo hi:Int}{t u v:Tok}{tk:Nat}(I:Inv X ag σ H s)(h1: -(2^62)<=lo)(h2:lo<2^62)(c: -(2^62)<=hi)(h:hi<2^62)(q:R (IK lo (hi-lo).toNat) H):cP (model X.prog X.w) X.A (pyIter (.ref s.heap.objs.size)) (KD X ag σ tg R) E {s with heap:=s.heap.push {cls:=.type "range",data:=.fields #[.int lo t,.int hi u,.int 1 v]},toks:=tk}:=by
 refine wpAny_pyIter_range (IsRange.new ..) (small_one h1 h2 c h) ?_;have a:Inv X ag σ H {s with heap:=s.heap.push {cls:=.type "range",data:=.fields #[.int lo t,.int hi u,.int 1 v]},toks:=tk}:=I.kept λb o e=>hP1 _ e;refine⟨(s.heap.push {cls:=.type "range",data:=.fields #[.int lo t,.int hi u,.int 1 v]}).objs.size,[(s.heap.push {cls:=.type "range",data:=.fields #[.int lo t,.int hi u,.int 1 v]}).objs.size],_,_,H,O,
  a.kept (t':=tk) λb o e=>hP1 _ e,uB _ lo (hi-lo).toNat,?_,λb g=>?_,q⟩
 ·have d:lo+((0:Nat):Int)*1=lo:=by simp
  have f:(((hi-lo).toNat:Nat):Int)-((0:Nat):Int)=Builtin.Range.rangeSize lo hi 1:=by rw[rangeSize_one];split<;>lia
  show IsRangeIter _ _ (lo+((0:Nat):Int)*1) ((((hi-lo).toNat:Nat):Int)-((0:Nat):Int)) 1;rw[d,f];exact hS1 _ O
 ·have e:b=(s.heap.push {cls:=.type "range",data:=.fields #[.int lo t,.int hi u,.int 1 v]}).objs.size:=by simpa using g
  subst e;exact a.fpOk (nR1 _) (a.hok.fresh (nR1 _))
def Ib(ta:TA):TI:=fun σ H R=>ta σ H λvs H1=>∃j:Int,vs=[.int j] /\ -(2^62)<=j/\j<2^62/\R (IK 0 j.toNat) H1
def Ia(ta:TA):TI:=fun σ H R=>ta σ H λvs H1=>∃i j:Int,vs=[.int i,.int j]/\(-(2^62)<=i/\i<2^62 /\ -(2^62)<=j/\j<2^62)/\R (IK i (j-i).toNat) H1
theorem wY {a:Expr}{ta:TA}{p pos:Pos}(hg:Gl X "range")(hm:X.mg "range"=Y)(ha:PA X [a] ta)(hs:autoParam (cN [a] X.env=[(J,eval a X.env)]) cu0):PI X tg (.Call (.Name "range" p) [a] [] pos) (Ib ta):=by
 intro ag s σ H R I h;refine Call_ (i3 I hg hm boot_range (PyProof.Rows.callWith_type1 (eu (ha pos ag s σ H _ I h) λi k ⟨vs,H1,d,f,b⟩=>?_) hs O));obtain⟨j,e,b,g,q⟩:=b;subst e;cases f with
 |cons r c=>
  cases c;obtain⟨t,rfl⟩:=r;exact call_range_1 (sA d (by lia) (by lia) b g (by simpa using q))
theorem wX {a b:Expr}{ta:TA}{p pos:Pos}(hg:Gl X "range")(hm:X.mg "range"=none)(ha:PA X [a,b] ta)(hs:autoParam (cN [a,b] X.env=[(false,eval a X.env),(false,eval b X.env)]) cu0)(hs2:autoParam (cN [b] X.env=[(false,eval b X.env)]) cu0):
  PI X tg (.Call (.Name "range" p) [a,b] [] pos) (Ia ta):=by
 intro ag s σ H R I h;refine Call_ (i3 I hg hm boot_range (PyProof.Rows.callWith_type1 (eu (ha pos ag s σ H _ I h) λo v ⟨vs,H1,k,m,d⟩=>?_) (by rw[hs,hs2]) (by rw[hs2];rfl)));obtain⟨i,j,e,⟨d,n,g,f⟩,q⟩:=d;subst e;cases m with
 |cons r c=>
  cases c with
  |cons l c=>
   cases c;obtain⟨t,rfl⟩:=r;obtain⟨u,rfl⟩:=l;exact call_range_2 (sA k d n g f q)
noncomputable def Ha(wi:TI)(g:TG)(tb:TS):TS:=λD σ H=>wi σ H λam H1=>∃W:Nat->Nat->St->Hp->Prop,(∃m,W 0 m σ H1) /\ ∀i m σ H,W i m σ H ->
 (am.stop i H/\D.nx σ H)\/(am.go i H /\ ∃N:St->Hp->Prop,(∀ σ' H',N σ' H' -> ∃m',m'<m/\W (i+1) m' σ' H') /\ ∀x H',am.yld i H x H'->g x σ H' fun σ2 H2=>tb {D with nx:=N,ct:=N,bk:=D.nx} σ2 H2)
noncomputable def lf(fp:List cH)(h:cR):List (cH×Obj):=fp.filterMap λb=>(h.get? b).map λo=>(b,o)
theorem fL{a:List cH}{h:cR}{b:cH}{o:Obj}(hb:b∈a)(e:h.get? b=Z o):(b,o)∈lf a h:=List.mem_filterMap.mpr ⟨b,hb,by rw[e];rfl⟩
theorem w1{a:List cH}{h:cR}{p:cH×Obj}(hp:p∈lf a h):p.1∈a/\h.get? p.1=Z p.2:=by
 obtain⟨b,c,e⟩:=List.mem_filterMap.mp hp;cases q:h.get? b with
 |none=>rw[q]at e;cases e
 |some o=>
  rw[q]at e;have d:(b,o)=p:=Option.some.inj e;subst d;exact⟨c,q⟩
theorem Inv.pinned{ag:List (cH×Obj)}{σ:St}{H:Hp}{s:cG}{a:List cH}(I:Inv X ag σ H s)(hf:∀b∈a,h8 X ag H b)(ho:∀b∈a,∃o,s.heap.get? b=Z o /\ ∀v,o.data ≠ .cell v):Inv X (ag++lf a s.heap) σ H s:=
 I.pins_of λp g=>(aE.mp g).elim (λz=>I.pin p (mA1 _ z)) λz=>by
  obtain⟨f,e⟩:=w1 z;obtain⟨h,j,i,_⟩:=hf p.1 f;obtain⟨o,c,d⟩:=ho p.1 f;rw[e]at c;cases c;exact⟨e,h,j,i,d⟩
theorem Inv.unpinned{ag pl:List (cH×Obj)}{σ:St}{H:Hp}{s:cG}(I:Inv X (ag++pl) σ H s):Inv X ag σ H s:=I.pins_of λp a=>I.pin p (mA1 _ (aF _ a))
theorem EG{iter:Expr}{t:List cT}{R:TI}{g:TG}{tb:TS}{pos:Pos}(hp:PassesOwn (model X.prog X.w) X.A X.env X.xe)(hc:X.calm=M)(hi:PI X tg iter R)(hg:PG X tg g)(hb:uq X t tb)(hs:autoParam (∀x,foldedSetIterable iter X.env x=pure x) du0):PS X (.For tg iter t [] pos) (Ha R g tb):=by
 intro ag s σ H D I h;refine wpAny_For (eu (hi ag s σ H _ I h) λv s1 h1=>eu h1 λitv s2 h2=>?_) hs;obtain⟨it,z,U,am,H2,e,I2,T,P,V,W,⟨m0,w0⟩,E⟩:=h2;subst e
 -- what stays M of the iterator's objects through the loop
 have k:∀{H':Hp},(∀b∈z,H' b=Y) -> ∀b∈z,h8 X ag H' b:=λhn b hb=>⟨hn b hb,(V b hb).2⟩;refine codeAny_forLoop_any (λn s'=>∃i l H',Inv X ag l H' s'/\U i s'.heap/\(∀b∈z,H' b=Y)/\W i n l H') ?_ m0 ⟨0,σ,H2,I2,P,λb hb=>(V b hb).1,w0⟩;rintro n S ⟨i,j,F,wq,B,C,w3⟩;rcases E i n j F w3 with⟨A,qn⟩|⟨go,N,hN,step⟩
 ·refine wpAny_passesOwn hp (eu (T.done X O O O hc i ag S j F X.xe wq (k C) B A) λr s4 ⟨ao,I4⟩=>?_);subst ao;exact wpAny_execs_nil ⟨j,F,I4,qn⟩
 ·refine wpAny_passesOwn hp (eu (T.item X rfl rfl rfl hc i ag S j F X.xe wq (k C) B go) fun r s4 ⟨u,ao,h4⟩=>?_);subst ao;refine wpAny_passesOwn hp (eu h4 fun _ Q ⟨x,aq,I5,r5,y5,w,L⟩=>?_);have K:=I5.pinned (k L) (T.obj _ _ w);refine wpAny_passesOwn hp (eu (hg _ Q j aq x u _ K r5 (step x aq y5)) fun _ s6 ⟨G,H6,I6,q6⟩=>?_);refine wpAny_passesOwn hp (eu (hb _ s6 G H6 _ I6 q6) fun f au q=>?_);have again:∀ {a:St} {c:Hp},Inv X (ag++lf z Q.heap) a c au->N a c -> ∃ m,m<n /\ ∃ i l H',Inv X ag l H' au/\U i au.heap/\(∀ b∈z,H' b=none)/\W i m l H':=fun {a c} p y=>by
   obtain⟨m',hm,w7⟩:=hN a c y;refine⟨m',hm,i+1,a,c,p.unpinned,T.keep _ _ _ w λb hb o e=>(p.pin (b,o) (mA1 _ (mA1 _ (fL hb e)))).1,λb hb=>?_,w7⟩;obtain⟨o,e,d⟩:=T.obj _ _ w b hb;exact(p.pin (b,o) (mA1 _ (mA1 _ (fL hb e)))).2.1
  cases f with
  |next=>obtain⟨a,c,p,y⟩:=q;exact again p y
  |cont=>obtain⟨a,c,p,y⟩:=q;exact again p y
  |brk=>obtain⟨a,c,p,q⟩:=q;exact⟨a,c,p.unpinned,q⟩
  |ret v=>obtain⟨x7,a,c,p,r7,q⟩:=q;exact⟨x7,a,c,p.unpinned,r7,q⟩
end
abbrev R2:=V->V->Hp->VK->Prop
def fy(X:Cx)(f:cF->cF->Sem cF)(r:R2):Prop:=
 ∀(ag:List (cH×Obj)) (s:cG) (σ:St) (H:Hp) (x y:V) (v u:cF) (Q:VK),Inv X ag σ H s->dn x v->dn y u->r x y H Q ->
  cP (model X.prog X.w) X.A (f v u) (EP X ag σ Q) X.xe s
def GN(X:Cx)(f:cF->Sem cF)(r:V->Hp->VK->Prop):Prop:=
 ∀(ag:List (cH×Obj)) (s:cG) (σ:St) (H:Hp) (x:V) (v:cF) (Q:VK),Inv X ag σ H s->dn x v->r x H Q ->
  cP (model X.prog X.w) X.A (f v) (EP X ag σ Q) X.xe s
def eh(X:Cx)(f:cF)(r:List V->Hp->VK->Prop):Prop:=
 ∀(ag:List (cH×Obj)) (s:cG) (σ:St) (H:Hp) (xs:List V) (us:List cF) (Q:VK),Inv X ag σ H s->dF xs us->r xs H Q ->
  cP (model X.prog X.w) X.A (call f us) (EP X ag σ Q) X.xe s
def Kc(X:Cx)(r:V->Hp->(Bool->Hp->Prop)->Prop):Prop:=
 ∀(ag:List (cH×Obj)) (s:cG) (σ:St) (H:Hp) (x:V) (v:cF) (Q:Bool->Hp->Prop),Inv X ag σ H s->dn x v->r x H Q ->
  cP (model X.prog X.w) X.A (truthy v) (TP X ag σ Q) X.xe s
noncomputable def G6(r:R2)(ta tb:TE):TE:=fun σ H Q=>ta σ H λx H1=>tb σ H1 λy H2=>r x y H2 Q
def Km(r:V->Hp->VK->Prop)(ta:TE):TE:=fun σ H Q=>ta σ H λx H1=>r x H1 Q
def rI(C:Int->Int->Prop)(g:Int->Int->V):R2:=λx y H Q=>∃i j,x = .int i/\y = .int j/\C i j/\Q (g i j) H
noncomputable def BH(g:Int->Int->V):R2:=λx y H Q=>∃i j,x = .int i/\y = .int j/\Q (g i j) H
def rU(g:Int->V):V->Hp->VK->Prop:=λx H Q=>∃i,x = .int i/\Q (g i) H
section
variable{a b c:Expr}{ta tb tc:TE}{pos:Pos}
theorem Gr(ha:PE X a ta)(hb:PE X b tb){ag:List (cH×Obj)}{s:cG}{σ:St}{H:Hp}{R:V->V->Hp->Prop}(I:Inv X ag σ H s)(h:ta σ H fun x H1=>tb σ H1 fun y H2=>R x y H2){Q:cF->cG->Prop}{f:cF->cF->Sem cF}(hf:∀v u e x y H2,Inv X ag σ H2 e->dn x v->dn y u->R x y H2->cP (model X.prog X.w) X.A (f v u) Q X.xe e):
  cP (model X.prog X.w) X.A (eval a X.env) (λv c=>cP (model X.prog X.w) X.A (eval b X.env) (λu d=>cP (model X.prog X.w) X.A (f v u) Q X.xe d) X.xe c) X.xe s:=by
 refine eu (ha ag s σ H _ I h) λv m ⟨x,H1,g,j,k⟩=>?_;refine eu (hb ag m σ H1 _ g k) λu e ⟨y,H2,i,r2,l⟩=>?_;exact hf v u e x y H2 i j r2 l
theorem Hw{op:Operator}{r:R2}(ho:fy X (binaryOp op) r)(ha:PE X a ta)(hb:PE X b tb):PE X (.BinOp a op b pos) (G6 r ta tb):=by
 intro ag s σ H Q I h;exact wpAny_BinOp (Gr ha hb I h λv u e x y H2 c d f q=>ho ag e σ H2 x y v u Q c d f q)
theorem Hv{op:UnaryOp}{r:V->Hp->VK->Prop}(ho:GN X (unaryOp op) r)(ha:PE X a ta):PE X (.UnaryOp op a pos) (Km r ta):=by
 intro ag s σ H Q I h;exact UnaryOp_ (eu (ha ag s σ H _ I h) λv e ⟨x,H1,b,c,d⟩=>ho ag e σ H1 x v Q b c d)
theorem opI{f:cF->cF->Sem cF}{C:Int->Int->Prop}{g:Int->Int->Int}(a:∀(i j:Int) (t u:Tok) (s:cG) (Q:cF->cG->Prop) (E:cF->cG->Prop),C i j->Q (.int (g i j) s.toks) {s with toks:=s.toks+1}->cP (model X.prog X.w) X.A (f (.int i t) (.int j u)) Q E s):
  fy X f (rI C λi j=>.int (g i j)):=by
 intro ag s σ H x y v u Q I c d h;obtain⟨i,j,rfl,rfl,hc,q⟩:=h;obtain⟨t,rfl⟩:=c;obtain⟨b,rfl⟩:=d;exact a i j t b s _ _ hc ⟨.int (g i j),H,I.tok _,⟨_,O⟩,q⟩
theorem E9{f:cF->cF->Sem cF}{g:Int->Int->Int}(a:∀(i j:Int) (t u:Tok) (s:cG) (Q:cF->cG->Prop) (E:cF->cG->Prop),Q (.int (g i j) s.toks) {s with toks:=s.toks+1}->cP (model X.prog X.w) X.A (f (.int i t) (.int j u)) Q E s):
  fy X f (BH λi j=>.int (g i j)):=by
 intro ag s σ H x y v u Q I c d h;obtain⟨i,j,rfl,rfl,q⟩:=h;obtain⟨t,rfl⟩:=c;obtain⟨b,rfl⟩:=d;exact a i j t b s _ _ ⟨.int (g i j),H,I.tok _,⟨_,O⟩,q⟩
theorem Fa{f:cF->cF->Sem cF}{g:Int->Int->Bool}(a:∀(i j:Int) (t u:Tok) (s:cG) (Q:cF->cG->Prop) (E:cF->cG->Prop),Q (.bool (g i j)) s->cP (model X.prog X.w) X.A (f (.int i t) (.int j u)) Q E s):
  fy X f (BH λi j=>.bl (g i j)):=by
 intro ag s σ H x y v u Q I c d h;obtain⟨i,j,rfl,rfl,q⟩:=h;obtain⟨t,rfl⟩:=c;obtain⟨b,rfl⟩:=d;exact a i j t b s _ _ ⟨.bl (g i j),H,I,O,q⟩
def IN(i j:Int):Prop:=0<j/\j<1073741824
def IL(i j:Int):Prop:=0<=j/\j<=1000000/\i.natAbs<2^64
def IM(i j:Int):Prop:=(-(2^64)<i/\i<2^64)\/(-(2^64)<j/\j<2^64)
theorem IM.ok{i j:Int}(h:IM i j):IntMulOk i j:=by
 rcases h with⟨h1,h2⟩|⟨h1,h2⟩
 ·exact .of_left (intBits_le_64 h1 h2)
 ·exact .of_right (intBits_le_64 h1 h2)
theorem E8:fy X (binaryOp .Add) (BH λi j=>.int (i+j)):=E9 λ_ _ _ _ _ _ _ q=>add_int q
theorem E2:fy X (binaryOp .Sub) (BH λi j=>.int (i-j)):=E9 λ_ _ _ _ _ _ _ q=>sub_int q
theorem B9:fy X (binaryOp .FloorDiv) (rI IN λi j=>.int (i/j)):=opI λi j _ _ _ _ _ hc q=>by
 have h1:(0:Int)<j:=hc.1;have h2:j<1073741824:=hc.2;exact floordiv_int (by lia) (by rw[Int.fdiv_eq_ediv_of_nonneg i (by lia)];exact q) (.inl (PyProof.noPylong_small (by lia)))
theorem E5:fy X (binaryOp .Mod) (rI (λ_ j=>0<j) λi j=>.int (i%j)):=opI λi j _ _ _ _ _ hc q=>by
 have h1:(0:Int)<j:=hc;exact mod_int' (by lia) (by rw[Int.fmod_eq_emod_of_nonneg i (by lia)];exact q)
theorem E3:fy X (binaryOp .Pow) (rI IL λi j=>.int (i^j.toNat)):=opI λ_ _ _ _ _ _ _ hc q=>pow_int_small hc.1 hc.2.1 hc.2.2 q
theorem CP:fy X (inplaceOp .Add) (BH λi j=>.int (i+j)):=E9 λ_ _ _ _ _ _ _ q=>iadd_int q
theorem KM{f:cF->Sem cF}{g:Int->Int}(a:∀(i:Int) (t:Tok) (s:cG) (Q:cF->cG->Prop) (E:cF->cG->Prop),Q (.int (g i) s.toks) {s with toks:=s.toks+1}->cP (model X.prog X.w) X.A (f (.int i t)) Q E s):
  GN X f (rU λi=>.int (g i)):=by
 intro ag s σ H x v Q I b h;obtain⟨i,rfl,q⟩:=h;obtain⟨t,rfl⟩:=b;exact a i t s _ _ ⟨.int (g i),H,I.tok _,⟨_,O⟩,q⟩
theorem D5:GN X (unaryOp .USub) (rU λi=>.int (-i)):=KM λ_ _ _ _ _ q=>neg_int q
theorem As{ag:List (cH×Obj)}{σ:St}{H:Hp}{s:cG}{Q:VK}{k k':Bool}(I:Inv X ag σ H s)(q:Q (.bl k) H)(e:k=k'):EP X ag σ Q (.bool k') s:=by
 subst e;exact⟨.bl k,H,I,O,q⟩
theorem HA:fy X (compareOp .LtE) (BH λi j=>.bl (decide (i<=j))):=Fa λ_ _ _ _ _ _ _ q=>le_int q
theorem HB:fy X (compareOp .Gt) (BH λi j=>.bl (decide (j<i))):=Fa λ_ _ _ _ _ _ _ q=>gt_int q
theorem HC:fy X (compareOp .GtE) (BH λi j=>.bl (decide (j<=i))):=Fa λ_ _ _ _ _ _ _ q=>ge_int q
theorem E6:fy X (compareOp .Is) (λx y H Q=>y = .non/\Q (.bl (decide (x = .non))) H):=by
 intro ag s σ H x y v u Q I a b h;obtain⟨rfl,q⟩:=h;cases b;refine is_none_gen (As I q ?_);cases x<;>first
  |(cases a;rfl)
  |(obtain⟨t,rfl⟩:=a;rfl)
theorem B8:fy X (compareOp .IsNot) (λx y H Q=>y = .non/\Q (.bl (!decide (x = .non))) H):=by
 intro ag s σ H x y v u Q I a b h;obtain⟨rfl,q⟩:=h;cases b;refine isnot_none_gen (As I q ?_);cases x<;>first
  |(cases a;rfl)
  |(obtain⟨t,rfl⟩:=a;rfl)
theorem zz(b:Expr){op:CmpOp}(h:autoParam (op ≠ .In) bu0)(h2:autoParam (op ≠ .NotIn) bu0):behindInMarks op b=J:=by
 have c:(op == CmpOp.In)=J:=by cases op<;>first|rfl|exact absurd rfl h
 have a:(op == CmpOp.NotIn)=J:=by cases op<;>first|rfl|exact absurd rfl h2
 cases b<;>simp[behindInMarks,c,a]
theorem B4{op:CmpOp}{r:R2}(ho:fy X (compareOp op) r)(ha:PE X a ta)(hb:PE X b tb)(hm:behindInMarks op b=J):PE X (.Compare a [op] [b] pos) (G6 r ta tb):=by
 intro ag s σ H Q I h;exact wpAny_Compare1 (Gr ha hb I h λv u e x y H2 c d f q=>ho ag e σ H2 x y v u Q c d f q) hm
noncomputable def G0(t:TE):TT:=fun σ H Q=>t σ H λx H'=>∃k,x = .bl k/\Q k H'
theorem BO{op:CmpOp}{r:R2}(ho:fy X (compareOp op) r)(ha:PE X a ta)(hb:PE X b tb)(hm:behindInMarks op b=J):PT X (.Compare a [op] [b] pos) (G0 (G6 r ta tb)):=by
 intro ag s σ H Q I h;refine wpAny_isTrue_Compare1 (eu (ha ag s σ H _ I h) λv q ⟨x,H1,i,n,o⟩=>eu (hb ag q σ H1 _ i o) λu g ⟨y,H2,j,r2,p⟩=>
  eu (ho ag g σ H2 x y v u _ j n r2 p) λc t ⟨z,f,m,l,k,e,d⟩=>?_) hm
 subst e;cases l;exact wpAny_truthy_bool ⟨f,m,d⟩
noncomputable def yC(r r':R2)(ta tb tc:TE):TE:=fun σ H Q=>ta σ H λx H1=>tb σ H1 λy H2=>r x y H2 λz H3=>∃k,z = .bl k /\
 (if k=M then tc σ H3 λw' H4=>r' y w' H4 Q else Q (.bl J) H3)
theorem zn{op op':CmpOp}{r f:R2}(ho:fy X (compareOp op) r)(ho':fy X (compareOp op') f)(ha:PE X a ta)(hb:PE X b tb)(hc:PE X c tc)(hm:lastMarks [op,op'] [b,c]=J:=by with_unfolding_all rfl):PE X (.Compare a [op,op'] [b,c] pos) (yC r f ta tb tc):=by
 intro ag s σ H Q I h;refine Compare_chain (eu (ha ag s σ H _ I h) λv w ⟨x,H1,n,p,q⟩=>chain_link (eu (hb ag w σ H1 _ n q) λu am ⟨y,H2,A,r2,t⟩=>
  eu (ho ag am σ H2 x y v u _ A p r2 t) λd B ⟨z,i,j,G,k,e,g⟩=>?_)) hm
 subst e;cases G;refine wpAny_truthy_bool ?_;cases k with
 |false=>exact ite_ff ⟨.bl J,i,j,O,g⟩
 |true=>exact ite_tt (chain_last (eu (hc ag B σ i _ j g) λD C ⟨o,F,m,E,l⟩=>ho' ag C σ F y o u D Q m r2 E l))
def Dr(K:Fg1)(x:V)(H:Hp)(k:Bool):Prop:=
 match x with
 | .non=>k=J
 | .bl b=>k=b
 | .int i=>k=(i != 0)
 | .str y=>y.length<=cO/\k=((y.length:Int) != 0)
 | .byt y=>y.size<=cO/\k=((y.size:Int) != 0)
 | .ref p=>(∃xs,k4 K H p xs/\k = !xs.isEmpty)\/(∃xs,jv K H p xs/\k = !xs.isEmpty) \/ ∃kvs,H p=Z (.dK kvs)/\k = !kvs.isEmpty
 |_=>False
theorem u8{κ:Type}{kvs:List (κ×V)}{vs:List (κ×cF)}(r:KV kvs vs):(!vs.isEmpty) = !kvs.isEmpty:=by
 cases r<;>rfl
theorem nS{xs:List V}{its:List cF}(r:dF xs its):(!its.toArray.isEmpty) = !xs.isEmpty:=by
 cases r<;>simp
theorem ls:(cO:Nat)<2^63:=by rw[sizeLine_eq];decide
theorem Ec:Kc X (λx H Q=>∃k,Dr X.K x H k/\Q k H):=by
 intro ag s σ H x v Q I d h;obtain⟨k,e,q⟩:=h;have o:=ls;have u:cO=16777216:=sizeLine_eq;cases x with
 |non=>
  cases d;have a:k=J:=e;subst a;exact truthy_none ⟨H,I,q⟩
 |bl b=>
  cases d;have a:k=b:=e;subst a;exact wpAny_truthy_bool ⟨H,I,q⟩
 |int i=>
  obtain⟨t,rfl⟩:=d;have a:k=(i != 0):=e;subst a;exact PySem.P.truthy_int ⟨H,I,q⟩
 |str y=>
  obtain⟨t,rfl⟩:=d;obtain⟨l,a⟩:y.length<=cO/\k=((y.length:Int) != 0):=e;subst a;exact PySem.P.truthy_str (by lia) ⟨H,I.tok _,q⟩
 |byt y=>
  obtain⟨t,rfl⟩:=d;obtain⟨l,a⟩:y.size<=cO/\k=((y.size:Int) != 0):=e;subst a;exact PySem.W.truthy_bytes (by lia) ⟨H,I.tok _,q⟩
 |ref p=>
  cases d;have a:(∃xs,k4 X.K H p xs/\k = !xs.isEmpty)\/(∃xs,jv X.K H p xs/\k = !xs.isEmpty) \/ ∃kvs,H p=Z (.dK kvs)/\k = !kvs.isEmpty:=e;rcases a with⟨xs,f,a⟩|⟨xs,f,a⟩|⟨kvs,f,a⟩
  ·subst a;obtain⟨g,r,pl,j⟩:=I.list f;have c:=r.length;exact wpAny_truthy_list pl.isList (by simp only[sT1];lia) ⟨H,I.tok _,by rw[nS r];exact q⟩
  ·subst a;obtain⟨g,r,pl,j⟩:=I.tuple f;have c:=r.length;exact truthy_tuple pl (by simp only[sT1];lia) ⟨H,I.tok _,by rw[nS r];exact q⟩
  ·subst a;obtain⟨j,n,vs,r,m⟩:kvs.length<=cO/\(p == sysModules)=false /\ ∃vs,KV kvs vs/\s.heap.DictOf (ez X.prog X.w) p vs:=I.hok p _ f;have c:kvs.length=vs.length:=Paired.length r;exact wpAny_truthy_dict n m (by lia) ⟨H,I.tok _,by rw[u8 r];exact q⟩
 |_=>exact(show False from e).elim
theorem y0(ha:PE X a ta)(he:∀ b,isTrue a X.env b=(do let v<-b;standAt a.pos;holding [v] (truthy v))):
  PT X a (fun σ H Q=>ta σ H λx H'=>∃k,Dr X.K x H' k/\Q k H'):=by
 intro ag s σ H Q I h;exact isTrue_plain (eu (ha ag s σ H _ I h) λv f ⟨x,H1,c,d,e⟩=>Ec ag f σ H1 x v Q c d e) (he _)
theorem uP:fy X (binaryOp .Add) (λx y H Q=>∃i j,x = .str i/\y = .str j/\i.length+j.length<=cO/\Q (.str (i++j)) H):=by
 intro ag s σ H x y v u Q I b d h;obtain⟨i,j,rfl,rfl,a,q⟩:=h;obtain⟨t,rfl⟩:=b;obtain⟨c,rfl⟩:=d;exact add_str (λc tk=>⟨.str (i++j),H,I.tok _,⟨_,O⟩,q⟩) a
theorem gL{x:V}{us:List cF}(r:dF [x] us):∃u,us=[u]/\dn x u:=by
 cases r with
 |cons a r2=>cases r2;exact⟨_,O,a⟩
theorem yj{x y:V}{us:List cF}(r:dF [x,y] us):∃u w',us=[u,w']/\dn x u/\dn y w':=by
 cases r with
 |cons b r2=>
  cases r2 with
  |cons c a=>cases a;exact⟨_,_,O,b,c⟩
theorem xJ(hc:X.calm=M):eh X (.builtin "max") (λxs H Q=>∃i j,xs=[.int i,.int j]/\Q (.int (if j>i then j else i)) H):=by
 intro ag s σ H xs b Q I r h;obtain⟨i,j,rfl,q⟩:=h;obtain⟨u,c,rfl,⟨t,rfl⟩,⟨d,rfl⟩⟩:=yj r;refine max_two_ints (I.ok.hd hc) λh' tk k=>⟨_,H,I.kept k,?_,q⟩;by_cases a:j>i
 ·rw[ak a,ak a];exact⟨_,O⟩
 ·rw[aj a,aj a];exact⟨_,O⟩
theorem xI(hc:X.calm=M):eh X (.builtin "min") (λxs H Q=>∃i j,xs=[.int i,.int j]/\Q (.int (if j<i then j else i)) H):=by
 intro ag s σ H xs b Q I r h;obtain⟨i,j,rfl,q⟩:=h;obtain⟨u,c,rfl,⟨t,rfl⟩,⟨d,rfl⟩⟩:=yj r;refine min_two_ints (I.ok.hd hc) λh' tk k=>⟨_,H,I.kept k,?_,q⟩;by_cases a:j<i
 ·rw[ak a,ak a];exact⟨_,O⟩
 ·rw[aj a,aj a];exact⟨_,O⟩
theorem pI:eh X (.type "int") (λxs H Q=>(∃i,xs=[.int i]/\Q (.int i) H) \/ ∃k,xs=[.bl k]/\Q (.int (if k then 1 else 0)) H):=by
 intro ag s σ H xs b Q I r h;rcases h with⟨i,rfl,q⟩|⟨k,rfl,q⟩
 ·obtain⟨u,rfl,t,rfl⟩:=gL r;exact call_int_int ⟨.int i,H,I,⟨_,O⟩,q⟩
 ·obtain⟨u,rfl,a⟩:=gL r;cases a;exact call_int_bool ⟨.int (if k then 1 else 0),H,I.tok _,⟨_,O⟩,q⟩
end
structure GG (h:cR)(x dx C:cH)(mA:Str->Option cF):Prop where
 obj:h.get? x=some (PySem.W.instObj C dx)
 ns:h.Ns1 dx mA
 ne:dx≠x
theorem xc{h:cR}{dx:cH}{mA:Str->Option cF}(n:h.Ns1 dx mA):∃c,h.get? dx=Z c /\ ∀name,PySem.W.lookIn name c=Z (mA name):=by
 obtain⟨o,es,ep,k,f,g,_,j⟩:=n;refine⟨o,k,λname=>?_⟩;have e:=j name;unfold nsFind findBy at e;rw[<- Array.find?_toList]at e;unfold PySem.W.lookIn;rw[f];dsimp only;split
 ·rename_i y q;rw[q]at e;exact congrArg Z e
 ·rename_i q;rw [q] at e;have a:es.toList.any (·.refKey)=false:=by
   rw[List.any_eq_false];intro y d;obtain⟨z,t,b⟩:=g y (Array.mem_toList_iff.mp d);simp[DictEntry.refKey,b]
  have i:¬ es.toList.any (·.refKey)=M:=by rw[a];exact aI
  rw[aj i];exact congrArg Z e
theorem GG.look{h:cR}{x dx C:cH}{mA:Str->Option cF}(I:GG h x dx C mA):∃a,PySem.W.InstAt h x (PySem.W.instObj C dx) C (Z a) /\ ∀name,PySem.W.lookIn name a=Z (mA name):=
 let ⟨a,ho,hl⟩:=xc I.ns
 ⟨a,⟨I.obj,O,O,ho⟩,hl⟩
section
variable{prog:cI}{w:cK}{A:cJ}{E:cF->cG->Prop}{s:cG}{K:Fg1}{x dx C f:cH}{mA:Str->Option cF}{name:Str}{v:cF}
end
theorem lE.some_of{v:V}{o:Option cF}(r:lE (Z v) o):∃u,o=Z u/\dn v u:=by
 cases o with
 |none=>exact(show False from r).elim
 |some u=>exact⟨u,O,r⟩
section
variable{P:cI}{w:cK}{H H':Hp}{h h':cR}{a C dx:cH}{fs fs':List (Str×V)}
theorem CQ(b:j4 P w H h)(e:H a=Z (.ins C dx fs)):∃mA,GG h a dx C mA/\(∀f,lE (fs.lookup f) (mA f))/\PySem.Within mA (fs.map (·.1))/\fs.length<=1000/\H dx=Z (.own a):=by
 obtain⟨d,z,ne,c,mA,n,r,q⟩:=(show dZ P w H h a (.ins C dx fs)from b a _ e);exact⟨mA,⟨c,n,ne⟩,r,q,z,d⟩
end
structure Kj (K:Fg1)(C:cH):Prop where
 pg:PySem.W.plainGet K C Str.empty=true
 hd:PySem.W.hasDictIn K C=true
 po:PySem.W.plainOver K C=true
 sa:PySem.W.findIn K (.ref C) "__setattr__"=some (some (.builtin "object.__setattr__"))
theorem Kj.get{K:Fg1}{C:cH}(c:Kj K C)(f:Str):PySem.W.plainGet K C f=M:=c.pg
section
variable{ag:List (cH×Obj)}{σ:St}{H:Hp}{s:cG}{a C dx:cH}{fs:List (Str×V)}{f:Str}{v:V}{A:cJ}{E:cF->cG->Prop}
end
section
variable{o e value:Expr}{f:Str}{pos pos' tpos:Pos}{ta tv:TE}
end
section
variable{ag:List (cH×Obj)}{σ:St}{H:Hp}{s:cG}{A:cJ}{E:cF->cG->Prop}{Q:cF->cG->Prop}{c:cF}{b:Bool}
inductive mG (K:Fg1)(H:Hp):V->cF->Prop where
 |non:mG K H .non (.type "NoneType")
 |bl (x:Bool):mG K H (.bl x) (.type "bool")
 |int (i:Int):mG K H (.int i) (.type "int")
 |str (x:Str):mG K H (.str x) (.type "str")
 |flt (x:UInt64):mG K H (.flt x) (.type "float")
 |lst {a:cH} {xs:List V} (e:H a=some (.lst xs)):mG K H (.ref a) (.type "list")
 |frz {a:cH} {o:Obj} {xs:List V} (e:H a=some (.frz o (.lst xs))):mG K H (.ref a) (.type "list")
 |tup {a:cH} {xs:List V} (e:H a=some (.tup xs)):mG K H (.ref a) (.type "tuple")
 |dK {a:cH} {kvs:List (Key×V)} (e:H a=some (.dK kvs)):mG K H (.ref a) (.type "dict")
 |dT {a:cH} {kvs:List (List Key×V)} (e:H a=some (.dT kvs)):mG K H (.ref a) (.type "dict")
 | ins {a C dx:cH} {fs:List (Str×V)} (e:H a=some (.ins C dx fs)) (cl:Kj K C) (ha:PySem.W.findIn K (.ref C) "__class__"=some (some (.builtin "object.__class__")))
   (hn:PySem.W.specialIn K (.builtin "object.__class__") "__get__"=some (some (.builtin "getset_descriptor.__get__"))) (htk:PySem.W.takesIn K (.builtin "object.__class__")=some true)
   (hm:PySem.W.mroIn K C (.type "object")=some true):mG K H (.ref a) (.ref C)
theorem hX{x:V}{u t:cF}(I:Inv X ag σ H s)(f:dn x u)(ty:mG X.K H x t)(e:PySem.W.kitOne X.K t c=some b)(h:∀ tk,Q (.bool b) {s with toks:=tk}):
  cP (model X.prog X.w) A (call (.builtin "isinstance") [u,c]) Q E s:=by
 cases ty with
 |non=>cases(show u=Value.none from f);exact PySem.W.kia_one PySem.W.kitx_none I.kIn True.intro e (λz=>nomatch z) h
 |bl y=>cases(show u=Value.bool y from f);exact PySem.W.kia_one PySem.W.kitx_bool I.kIn True.intro e (λz=>nomatch z) h
 |int i=>obtain⟨t,q⟩:=(show∃t,u=Value.int i t from f);cases q;exact PySem.W.kia_one PySem.W.kitx_int I.kIn True.intro e (λz=>nomatch z) h
 |str y=>obtain⟨t,q⟩:=(show∃t,u=Value.str y t from f);cases q;exact PySem.W.kia_one PySem.W.kitx_str I.kIn True.intro e (λz=>nomatch z) h
 |flt y=>obtain⟨t,q⟩:=(show∃t,u=Value.float y t from f);cases q;exact PySem.W.kia_one PySem.W.kitx_float I.kIn True.intro e (λz=>nomatch z) h
 | @lst a xs d=>
  cases(show u=Value.ref a from f);obtain⟨_,_,n,_,h1⟩:=(show dZ X.prog X.w H s.heap a (.lst xs)from I.hok a _ d);exact PySem.W.kia_one PySem.W.kitx_list I.kIn ⟨_,h1,O⟩ e (λz=>nomatch z) h
 | @frz a r xs d=>
  cases(show u=Value.ref a from f);obtain⟨_,_,_,n,_,h1⟩:=(show dZ X.prog X.w H s.heap a (.frz r (.lst xs))from I.hok a _ d);exact PySem.W.kia_one PySem.W.kitx_list I.kIn ⟨_,h1,O⟩ e (λz=>nomatch z) h
 | @tup a xs d=>
  cases(show u=Value.ref a from f);obtain⟨_,_,_,p⟩:=(show dZ X.prog X.w H s.heap a (.tup xs)from I.hok a _ d);obtain⟨o,h1,h2,_⟩:=p;exact PySem.W.kia_one PySem.W.kitx_tuple I.kIn ⟨o,h1,h2⟩ e (λz=>nomatch z) h
 | @dK a kvs d=>
  cases(show u=Value.ref a from f);obtain⟨_,_,vs,_,p⟩:=(show dZ X.prog X.w H s.heap a (.dK kvs)from I.hok a _ d);obtain⟨o,es,ep,h1,h2,_⟩:=p;exact PySem.W.kia_one PySem.W.kitx_dict I.kIn ⟨o,h1,h2.1⟩ e (λz=>nomatch z) h
 | @dT a kvs d=>
  cases(show u=Value.ref a from f);obtain⟨_,_,xs,_,o,es,ep,h1,h2,_⟩:=(show dZ X.prog X.w H s.heap a (.dT kvs)from I.hok a _ d);exact PySem.W.kia_one PySem.W.kitx_dict I.kIn ⟨o,h1,h2.1⟩ e (λz=>nomatch z) h
 | @ins a C dx fs d j k l g m=>
  cases(show u=Value.ref a from f);obtain⟨mA,au,_⟩:=CQ I.hok d;obtain⟨v,am,_⟩:=au.look;exact PySem.W.kia_one (PySem.W.kitx_own (j.get _) j.hd k l g m) I.kIn am e (λz=>nomatch z) h
end
structure fb (k:Nat)(A:cJ):Prop where
 hd:A.handled=none
 dp:A.depth+3*k+5<recursionLimit
 un:A.units+16*k+200<cLine
 gd:A.guards=some []
theorem fb.mono{j k:Nat}{A:cJ}(r:fb k A)(h:j<=k):fb j A:=⟨r.hd,by have:=r.dp;lia,by have:=r.un;lia,r.gd⟩
theorem fb.deeper{k:Nat}{A:cJ}(r:fb (k+1) A)(env:Env):fb k (A.deeper env):=
 ⟨r.hd,by have:=r.dp;show A.depth+1+3*k+5<_;lia,by have:=r.un;show A.units+3+16*k+200<_;lia,r.gd⟩
theorem fb.depth{k:Nat}{A:cJ}(r:fb k A):A.depth<recursionLimit:=by have:=r.dp;lia
theorem fb.units{k:Nat}{A:cJ}(r:fb k A):A.units+64<cLine:=by have:=r.un;lia
noncomputable def G8:TA:=λ_ H Q=>Q [] H
noncomputable def He(ta:TE)(tr:TA):TA:=fun σ H Q=>ta σ H λx H1=>tr σ H1 λxs H2=>Q (x::xs) H2
section
variable{e:Expr}{es:List Expr}{te:TE}{t:TA}{pos:Pos}
theorem lg:PA X [] G8:=λ_ _ _ _ H Q I h=>Calls.spliced_nil ⟨[],H,I,.nil,h⟩
theorem ig(ha:PE X e te)(hr:PA X es t)(hs:autoParam (cN (e::es) X.env=(J,eval e X.env)::cN es X.env) cu0):PA X (e::es) (He te t):=by
 intro pos ag s σ H Q I h;rw[hs];show cP _ _ (spliced ((J,eval e X.env)::backTo pos (cN es X.env))) _ _ s;refine Calls.spliced_cons (eu (ha ag s σ H _ I h) λu g ⟨x,H1,a,c,d⟩=>?_);exact eu (hr pos ag g σ H1 _ a d) λj i ⟨xs,H2,b,r2,f⟩=>⟨x::xs,H2,b,.cons c r2,f⟩
def Jl(t:TA):TE:=fun σ H Q=>t σ H λxs H1=>xs.length<=cO /\ ∀p,H1 p=Y->Q (.ref p) (upd H1 p (.tup xs))
def Js(t:TA):TE:=fun σ H Q=>t σ H λxs H1=>xs.length<=cO /\ ∀p,H1 p=Y->Q (.ref p) (upd H1 p (.lst xs))
theorem ER{x1}(h:PA X es t):PE X (.Tuple es x1 pos) (Jl t):=by
 intro ag s σ H Q I g;refine wpAny_Tuple_spliced (eu (h pos ag s σ H _ I g) λf a ⟨xs,H1,c,r,z,q⟩=>⟨by rw[<- r.length];exact z,?_⟩);have d:H1 a.heap.objs.size=Y:=c.hok.fresh (nR1 _);refine⟨.ref a.heap.objs.size,upd H1 a.heap.objs.size (.tup xs),c.laid (t':=a.toks) (λb u e=>hP1 _ e) (nR1 _) ?_,O,q _ d⟩;exact⟨z,f,r,⟨_,hS1 _ O,O,_,O⟩⟩
theorem EX(h:PA X es t):PE X (.List es pos) (Js t):=by
 intro ag s σ H Q I g;refine wpAny_List_spliced (eu (h pos ag s σ H _ I g) λf a ⟨xs,H1,c,r,z,q⟩=>⟨by rw[<- r.length];exact z,?_⟩);have d:H1 a.heap.objs.size=Y:=c.hok.fresh (nR1 _);refine⟨.ref a.heap.objs.size,upd H1 a.heap.objs.size (.lst xs),c.laid (t':=a.toks) (λb u e=>hP1 _ e) (nR1 _) ?_,O,q _ d⟩;exact⟨z,f,0,r,hS1 _ O⟩
end
abbrev Sp:=List V->Hp->VK->XK->Prop
abbrev x3:=List Env->Hp->cG->XK->cF->cG->Prop
structure Dv (P:cI)(w:cK)(K:Fg1)(mg:Str->Option cF)(base:cR)(A:cJ)(outer:List Env)(s:cG)(H:Hp):Prop where
 frames:A.frames=some outer
 mod:Mod K mg base
 bs:∀b o,base.get? b=some o->s.heap.get? b=some o/\H b=none
 bsz:base.objs.size<=s.heap.objs.size
 funs:s.heap.FunFrames base outer
 frf:∀b∈frs outer,H b=none
 hok:j4 P w H s.heap
 bare:AllBare s.gens
def CE(outer:List Env)(P:cI)(w:cK)(H:Hp)(s:cG)(Q:VK)(u:cF)(s':cG):Prop:=
 ∃v H',s'.os=s.os/\AllBare s'.gens/\Un (frs outer) [] H H' s.heap s'.heap/\j4 P w H' s'.heap/\dn v u/\Q v H'
def CR(CX:x3)(outer:List Env)(P:cI)(w:cK)(H:Hp)(s:cG)(Q:VK)(E:XK)(r:Result)(s':cG):Prop:=
 match r with
 | .ok (.ret u)=>CE outer P w H s Q u s'
 | .ok _=>False
 | .error e=>CX outer H s E e s'
structure k3 (P:cI)(w:cK)(K:Fg1)(mg:Str->Option cF)(base:cR)(CX:x3)(k:Nat)(f:cH)(fd:cS)(ps:List Str)(sp:Sp):Prop where
 len:∀vs H Q E,sp vs H Q E->vs.length=ps.length
 run:∀(A:cJ) (outer:List Env) (s:cG) (H:Hp) (args:Args) (us:List cF) (vs:List V) (Q:VK) (E:XK),fb k A->Dv P w K mg base A outer s H->BindsTo s fd args (ps.zip us)->dF vs us->sp vs H Q E ->
  cQ (model P w) A (.call (.ref f) args) (CR CX outer P w H s Q E) s
section
variable{ag:List (cH×Obj)}{σ:St}{H:Hp}{s s':cG}
theorem Inv.env0(I:Inv X ag σ H s):Dv X.prog X.w X.K X.mg X.base X.A X.stack s H:=
 ⟨I.ok.frames,I.ok.mod,I.bs,aB I.ok.bsz I.sz,I.stack,I.stkFree,I.hok,I.bare⟩
theorem Inv.after{Q:VK}{u:cF}(I:Inv X ag σ H s)(h:CE X.stack X.prog X.w H s Q u s'):EP X ag σ Q u s':=by
 obtain⟨v,H',i,a,un,c,r,q⟩:=h;obtain⟨f,g,d,t,e⟩:=s';obtain rfl:e=s.os:=i;exact⟨v,H',I.call (h':=f) (g':=g) (d':=d) (t':=t) (ch:=[]) un c a (λb z=>absurd z (by simp)),r,q⟩
end
noncomputable def Dz(sp:Sp)(dvs:List V)(E:XK)(t:TA):TE:=fun σ H Q=>t σ H λvs H1=>sp (vs++dvs) H1 Q E
def jK(K:Fg1)(fd:cS)(ps:List Str)(ds:List cF):Prop:=
 ∀(s:cG) (us:List cF),K.In s.heap->(us++ds).length=ps.length->BindsTo s fd ⟨us,[]⟩ (ps.zip (us++ds))
theorem jK.all{K:Fg1}{fd:cS}{ps:List Str}(h:∀a:List cF,a.length=ps.length->bindArgs fd ⟨a,[]⟩=pure (ps.zip a)):jK K fd ps []:=λs a _ b=>by
 rw[aK]at b ⊢;exact .of_eq (h a b)
def rR(CX:x3)(X:Cx)(E:XK):Prop:=∀(ag:List (cH×Obj)) (σ:St) (H:Hp) (s:cG) (e:cF) (s':cG),Inv X ag σ H s->CX X.stack H s E e s'->X.xe e s'
section
variable{CX:x3}{k:Nat}{f C:cH}{fd:cS}{ps:List Str}{sp:Sp}{dvs:List V}{ds:List cF}{E:XK}{x m:Str}{p pos apos:Pos}{e o:Expr}{es:List Expr}{ta:TE}{t:TA}
theorem yP{ag:List (cH×Obj)}{σ:St}{H:Hp}{s:cG}{Q:VK}{us:List cF}{vs:List V}(F:k3 X.prog X.w X.K X.mg X.base CX k f fd ps sp)(hr:fb k X.A)(hb:jK X.K fd ps ds)(hd:dF dvs ds)(hx:rR CX X E)(I:Inv X ag σ H s)(r:dF vs us)(h:sp (vs++dvs) H Q E):cP (model X.prog X.w) X.A (call (.ref f) us) (EP X ag σ Q) X.xe s:=by
 have r2:dF (vs++dvs) (us++ds):=r.append hd;have b:(us++ds).length=ps.length:=by rw[<- r2.length];exact F.len _ _ _ _ h
 refine wpAny_call (codeAny_mono (F.run X.A X.stack s H ⟨us,[]⟩ (us++ds) (vs++dvs) Q E hr I.env0 (hb s us I.kIn b) r2 h) λr s' a=>?_);cases r with
 |error e=>exact hx ag σ H s e s' I a
 |ok c=>
  cases c with
  |ret u=>exact I.after a
  |next=>exact False.elim a
  |brk=>exact False.elim a
  |cont=>exact False.elim a
theorem B5 (F:k3 X.prog X.w X.K X.mg X.base CX k f fd ps sp)(hr:fb k X.A)(hg:Gl X x)(hm:X.mg x=some (.ref f))(hk:wK1 X.K (.ref f)=true)(hb:jK X.K fd ps ds)(hd:dF dvs ds)(hx:rR CX X E)
  (ha:PA X (e::es) t) (hdb:autoParam ((x == ("__debug__":Str))=J) bu0) (he:autoParam (cN (e::es) X.env=(J,eval e X.env)::cN es X.env) cu0) (hpl:autoParam ((backTo pos (cN es X.env)).any (·.1)=J) cu0):
  PE X (.Call (.Name x p) (e::es) [] pos) (Dz sp dvs E t):=by
 intro ag s σ H Q I h;refine wpAny_Call_Name_kw (rh I hg hm ?_ hdb);refine PySem.W.callWith_K (h₀:=X.base) I.ok.mod.kin hk (eu (ha pos ag s σ H _ I h) λb c ⟨vs,H1,a,r,q⟩=>⟨a.kIn,?_⟩) he hpl;exact yP F hr hb hd hx a r q
theorem zo (F:k3 X.prog X.w X.K X.mg X.base CX k f fd ps sp)(hr:fb k X.A)(hg:Gl X x)(hm:X.mg x=some (.ref f))(hk:wK1 X.K (.ref f)=true)(hb:jK X.K fd ps ds)(hd:dF dvs ds)(hx:rR CX X E)
  (hdb:autoParam ((x == ("__debug__":Str))=J) bu0):PE X (.Call (.Name x p) [] [] pos) (Dz sp dvs E G8):=by
 intro ag s σ H Q I h;refine wpAny_Call_Name_kw (rh I hg hm ?_ hdb);exact PySem.W.callWith_K0 I.kIn hk (yP (us:=[]) F hr hb hd hx I .nil h)
end
section
variable{CX:x3}{k:Nat}{f C:cH}{fd:cS}{ps ks:List Str}{sp:Sp}{E:XK}{x m:Str}{p pos apos kpos:Pos}{e o:Expr}{es:List Expr}{kws:List Keyword}{te ta:TE}{t tk:TA}{nm:Option Str}
variable{g:List cF->List cF->List cF}{gV:List V->List V->List V}
end
structure fS (N P:List Str)(sc:cU):Prop where
 kind:sc.kind = .function
 co:sc.isCoroutine=false
 gen:sc.isGenerator=false
 nd:N.Nodup
 pre:N.take P.length=P
 par:∀x∈P,sc.names.lookup x=some .local\/sc.names.lookup x=some .cell
 nofree:∀y∈sc.names,y.2 ≠ .free
theorem pK{kindOf:Str->Option NameKind}{x:Str}:∀{binds:List (Str×cF)} {m:Str->Option cF},(∀v,(x,v)∉binds)->bindL kindOf binds m x=m x
 |[],_,_=>rfl
 |(n,v)::r,m,h=>by
  unfold bindL;rw[pK λw a=>h w (mC1 _ a)];split
  ·have:x≠n:=by rintro rfl;exact h v mS1
   simp[this]
  ·rfl
theorem pM{kindOf:Str->Option NameKind}{x:Str}:∀{binds:List (Str×cF)} {m:Str->Option cF},(∀v,(x,v)∉binds)->bindC kindOf binds m x=m x
 |[],_,_=>rfl
 |(n,v)::r,m,h=>by
  unfold bindC;rw[pM λw a=>h w (mC1 _ a)];split
  ·rfl
  ·have:x≠n:=by rintro rfl;exact h v mS1
   simp[this]
theorem pL{kindOf:Str->Option NameKind}{x:Str}{v:cF}:∀ {P:List Str} {vs:List cF} {i:Nat} {m:Str->Option cF},P.Nodup->P[i]? = some x->vs[i]? = some v->kindOf x=some .local ->
  bindL kindOf (P.zip vs) m x=Z v
 |[],_,_,_,_,h,_,_=>by simp at h
 |_::_,[],_,_,_,_,h,_=>by simp at h
 |p::P,w::vs,0,m,nd,h1,h2,hk=>by
  simp at h1 h2;subst h1;subst h2;show bindL kindOf ((p,w)::P.zip vs) m p=_;unfold bindL;rw[pK λv a=>(aL.mp nd).1 (List.of_mem_zip a).1,ak hk];simp
 |p::P,w::vs,i+1,m,nd,h1,h2,hk=>by
  show bindL kindOf ((p,w)::P.zip vs) m x=_;unfold bindL;exact pL (i:=i) (aL.mp nd).2 (by simpa using h1) (by simpa using h2) hk
theorem pN{kindOf:Str->Option NameKind}{x:Str}{v:cF}:∀ {P:List Str} {vs:List cF} {i:Nat} {m:Str->Option cF},P.Nodup->P[i]? = some x->vs[i]? = some v->kindOf x≠some .local ->
  bindC kindOf (P.zip vs) m x=Z v
 |[],_,_,_,_,h,_,_=>by simp at h
 |_::_,[],_,_,_,_,h,_=>by simp at h
 |p::P,w::vs,0,m,nd,h1,h2,hk=>by
  simp at h1 h2;subst h1;subst h2;show bindC kindOf ((p,w)::P.zip vs) m p=_;unfold bindC;rw[pM λv a=>(aL.mp nd).1 (List.of_mem_zip a).1,aj hk];simp
 |p::P,w::vs,i+1,m,nd,h1,h2,hk=>by
  show bindC kindOf ((p,w)::P.zip vs) m x=_;unfold bindC;exact pN (i:=i) (aL.mp nd).2 (by simpa using h1) (by simpa using h2) hk
noncomputable def start(N:List Str)(vs:List V):St:=vs.map Z++aM (N.length-vs.length) Y
noncomputable def mD(CX:x3)(P:cI)(w:cK)(K:Fg1)(mg:Str->Option cF)(base:cR)(N:List Str)(qual:Str)(scope:cU)(f:cH)(cd:cF)(A:cJ)(outer:List Env)(s:cG)(H:Hp)(E:XK):Cx where
 prog:=P
 w:=w
 K:=K
 mg:=mg
 base:=base
 A:=A.deeper (envOfC qual scope s.heap.objs.size f cd)
 N:=N
 s₀:=s
 H₀:=H
 env:=envOfC qual scope s.heap.objs.size f cd
 outer:=outer
 stack:=envOfC qual scope s.heap.objs.size f cd::outer
 ex:=[]
 calm:=M
 fn:=λ_=>M
 pn:=[]
 xe:=λe s'=>cP (model P w) (A.deeper (envOfC qual scope s.heap.objs.size f cd)) (leaving (envOfC qual scope s.heap.objs.size f cd) e) (λ_ s''=>CX outer H s E e s'') (λe' s''=>CX outer H s E e' s'') s'
theorem tR{a:cU}{n:Nat}{x:Str}(h:a.names.lookup x=Z .cell):∃c,(cellsFrom n a.names []).lookup x=Z c:=by
 have q:=PySem.W.cellsFrom_some a.names n [] (.inl h);exact aN.mp q
theorem xj{CX:x3}{P:cI}{w:cK}{K:Fg1}{mg:Str->Option cF}{base:cR}{N ps:List Str}{g:Str}{scope:cU}{f:cH}{B:cF}{A:cJ}{d:List Env}{s s1:cG}{H:Hp}{E:XK}{us:List cF}{vs:List V}(S:fS N ps scope)(hd:A.handled=none)(j:Dv P w K mg base A d s H)(L:vs.length=ps.length)(r:dF vs us)(x:InCallC s s.heap.objs.size (bindL (envOfC g scope s.heap.objs.size f B).kindOf (ps.zip us) fun _=>none) (cellsFrom (s.heap.objs.size+1) scope.names []) (bindC (envOfC g scope s.heap.objs.size f B).kindOf (ps.zip us) fun _=>none) s1):
  Inv (mD CX P w K mg base N g scope f B A d s H E) [] (start N vs) H s1:=by
 have G:ps.length<=N.length:=by have:=congrArg List.length S.pre;rw[aO]at this;lia
 obtain⟨h1,tk,rfl,C⟩:=x.done;have m:∀b:cH,b∉(mD CX P w K mg base N g scope f B A d s H E).ex:=λb z=>absurd (show b∈([]:List cH)from z) (by simp);refine⟨⟨j.mod,S.kind,O,O,nR1 _,λy z c h1 h2=>?_,λy l=>?_,λy c _ h=>?_,λ_=>hd,Around.frames_deeper j.frames,.inr ⟨O,O⟩,λb z=>absurd z (m b),j.bs,j.bsz,λb _ _=>m b,λb z=>absurd z (m b),j.funs,j.frf⟩,
  rfl,j.bare,Un.kept C,⟨_,x.toInCall.ns,λi y v h1 h2 am=>?_⟩,λy c h=>⟨_,x.cell y c h⟩,j.hok.fresh (nR1 _),λy c h=>?_,λp o=>absurd (show p∈([]:List (cH×Obj))from o) (by simp),j.hok.kept C,?_⟩
 ·exact name_of_addr x.apart (PySem.mem_of_lookup h1) (PySem.mem_of_lookup h2)
 ·have l:scope.names.lookup y=Z .cell\/scope.names.lookup y=Z .free:=l;rcases l with l|l
  ·exact tR l
  ·exact absurd O (S.nofree _ (PySem.mem_of_lookup l))
 ·exact Nat.le_of_lt (x.above y c (PySem.mem_of_lookup h))
 ·have hi:i<vs.length:=by
   unfold start at h2;by_cases hi:i<vs.length
   ·exact hi
   ·rw[gR1 (by simpa using hi)]at h2;rw[aP]at h2;split at h2<;>cases h2
  have F:vs[i]?=Z v:=by
   unfold start at h2;rw[gL1 (by simpa using hi),gP1]at h2;cases e:vs[i]? with
   |none=>rw[e]at h2;cases h2
   |some a=>rw[e]at h2;cases h2;rfl
  obtain⟨u,D,I⟩:=r.get F;have o:ps[i]?=Z y:=by
   rw[<- S.pre,aQ (by lia)];exact h1
  have t:ps.Nodup:=by rw[<- S.pre];exact S.nd.sublist (aR _ _)
  refine⟨u,I,?_⟩;rcases S.par y (gM1 o)with k|k
  ·exact .inl ⟨k,pL t o D k⟩
  ·obtain⟨c,e⟩:=tR (n:=s.heap.objs.size+1) k;refine .inr ⟨.inl k,c,e,?_⟩;have q:=x.cell y c e;rw[pN t o D (by show scope.names.lookup y≠_;rw[k];decide)]at q;exact q
 ·exact j.hok.fresh (Nat.le_of_lt (x.above y c (PySem.mem_of_lookup h)))
 ·unfold start;show _=N.length;rw[lA1,lM1,lR1];lia
theorem Ij{CX:x3}{P:cI}{w:cK}{K:Fg1}{mg:Str->Option cF}{base:cR}{k:Nat}{f:cH}{name c:Str}{params:Arguments}{g:List cT}{scope:cU}{T kV m R d ct X:cF}{au od:Option cH}{C:Array (Option cF)}{N ps:List Str}{sp:Sp}(lk:K.lookup f=some ⟨X,od,.func (wF1 name c params g scope T kV m R au d ct),C⟩)(hcd:wC1 K d c=true)(S:fS N ps scope)(len:∀vs H Q E,sp vs H Q E->vs.length=ps.length)(i:∀(A:cJ) (a:List Env) (s:cG) (H:Hp) (vs:List V) (Q:VK) (E:XK),fb k (A.deeper (envOfC c scope s.heap.objs.size f d))->sp vs H Q E ->
   ∃t,uq (mD CX P w K mg base N c scope f d A a s H E) g t/\t {nx:=λ_ H'=>Q .non H',rt:=Q} (start N vs) H):
  k3 P w K mg base CX (k+1) f (wF1 name c params g scope T kV m R au d ct) ps sp:=by
 refine⟨len,λA a s H ao us vs Q E G B hb r z=>?_⟩;have hl:=len _ _ _ _ z;have L:K.In s.heap:=B.mod.kin.keeps λb o e=>(B.bs b o e).1;have D:s.heap.NoLimit:=B.mod.nolimit.keeps λb o e=>(B.bs b o e).1;have j:∀y∈ps.zip us,scope.names.lookup y.1=Z .local\/(scope.names.lookup y.1=Z .cell/\((cellsFrom (s.heap.objs.size+1) scope.names []).lookup y.1).isSome=M):=λ⟨n,v⟩ aq=>by
  rcases S.par n (List.of_mem_zip aq).1 with q|q
  ·exact .inl q
  ·exact .inr ⟨q,PySem.W.cellsFrom_some _ _ _ (.inl q)⟩
 refine codeAny_call_function G.depth (L _ _ lk) O S.co S.gen O (PySem.W.codeRec_of L hcd) (hb _ _ _ _ ?_);refine wpAny_newFunctionEnv_cells S.kind j λU wq s1 x=>?_;subst wq;refine⟨D.keeps x.toInCall.keep,codeAny_func ?_⟩;obtain⟨t,ht,hq⟩:=i A a s H vs Q E (G.deeper _) z;have I:Inv (mD CX P w K mg base N c scope f d A a s H E) [] (start N vs) H s1:=xj S G.hd B hl r x;refine wpAny_mono (ht [] s1 (start N vs) H _ I hq) (λW s' l=>?_) λe s' l=>l;have p:∀{h:St} {H':Hp} {v:V} {u:cF},Inv (mD CX P w K mg base N c scope f d A a s H E) [] h H' s'->dn v u->Q v H'->CE a P w H s Q u s':=
  λ{h H' v u} am F q=>⟨v,H',am.os,am.bare,am.base,am.hok,F,q⟩
 cases W with
 |ret u=>
  obtain⟨v,h,H',am,F,q⟩:=l;exact p am F q
 |next=>
  obtain⟨h,H',am,q⟩:=l;exact p (v:=V.non) (u:=Value.none) am O q
 |brk=>
  obtain⟨_,_,_,q⟩:=l;exact False.elim q
 |cont=>
  obtain⟨_,_,_,q⟩:=l;exact False.elim q
section
variable{x:Str}{p pos:Pos}{e:Expr}{es:List Expr}{t:TA}{id T:String}{r:List V->Hp->VK->Prop}
def Ko(r:List V->Hp->VK->Prop)(t:TA):TE:=fun σ H Q=>t σ H λvs H1=>r vs H1 Q
theorem nB (hc:eh X (.builtin id) r)(hg:Gl X x)(hm:X.mg x=none)(hv:bootBuiltins x=some (.builtin id))(ha:PA X (e::es) t)(hn:autoParam (x≠"__name__") bu0)(hdb:autoParam ((x == ("__debug__":Str))=false) bu0)
  (he:autoParam (cN (e::es) X.env=(J,eval e X.env)::cN es X.env) cu0) (hpl:autoParam ((backTo pos (cN es X.env)).any (·.1)=J) cu0):PE X (.Call (.Name x p) (e::es) [] pos) (Ko r t):=by
 intro ag s σ H Q I h;refine wpAny_Call_Name_kw (i3 I hg hm hv ?_ hn hdb);exact PyProof.Rows.callWith_builtin1 (eu (ha pos ag s σ H _ I h) λb f ⟨vs,H1,a,c,d⟩=>hc ag f σ H1 vs b Q a c d) he hpl
theorem jh (hc:eh X (.type T) r)(hg:Gl X x)(hm:X.mg x=none)(hv:bootBuiltins x=some (.type T))(ha:PA X (e::es) t)(hn:autoParam (x≠"__name__") bu0)(hdb:autoParam ((x == ("__debug__":Str))=false) bu0)
  (he:autoParam (cN (e::es) X.env=(J,eval e X.env)::cN es X.env) cu0) (hpl:autoParam ((backTo pos (cN es X.env)).any (·.1)=J) cu0):PE X (.Call (.Name x p) (e::es) [] pos) (Ko r t):=by
 intro ag s σ H Q I h;refine wpAny_Call_Name_kw (i3 I hg hm hv ?_ hn hdb);exact PyProof.Rows.callWith_type1 (eu (ha pos ag s σ H _ I h) λb f ⟨vs,H1,a,c,d⟩=>hc ag f σ H1 vs b Q a c d) he hpl
end
end L2
namespace HT
open PySem PyProof.Rows
section
open PySem.SeqAt
open PySem.AutoSeq1 (wpAny_loadPart')
open PySem.MeetsSeq PySem.MeetsSeq2 PySem.MeetsSeq3
end
section
variable{prog:cI}{w:cK}{A:cJ}{E:cF->cG->Prop}{s:cG}
theorem Da {t b:cH}{vs ws:List cF}{Q:cF->cG->Prop}(ht:IsTup s.heap t vs.toArray)(hb:IsTup s.heap b ws.toArray)(hv:vs≠[])
  (h1:ws=[]->Q (.ref t) s) (h2:ws≠[]->Q (.ref s.heap.objs.size) {s with heap:=s.heap.push {cls:=.type "tuple",data:=.seq (vs++ws).toArray}})
  (hsz:vs.length+ws.length<=cO):cP (model prog w) A (binaryOp .Add (.ref t) (.ref b)) Q E s:=by
 obtain⟨⟨cls,m,data,o⟩,i,hc,n,l⟩:=id ht;obtain⟨⟨p,c,j,d⟩,a,f,k,g⟩:=id hb;simp only at hc l f g;subst hc l f g;have e:vs.toArray++ws.toArray=(vs++ws).toArray:=by simp
 by_cases h:ws=[]
 ·exact concat_meets ⟨_,i,rfl⟩ ⟨_,a,rfl⟩ noFill_tuple_add seq_tuple_add PySem.F.slot_tuple_add PySem.F.entry_tuple_add (PySem.F.args_tuple_add_2 _ _)
   (tuple_addW1 t b vs.toArray ws.toArray n k m c o d (by simpa using hv) (by simp[h])) ⟨i,a,h1 h⟩
 ·refine concat_meets ⟨_,i,rfl⟩ ⟨_,a,rfl⟩ noFill_tuple_add seq_tuple_add PySem.F.slot_tuple_add PySem.F.entry_tuple_add (PySem.F.args_tuple_add_2 _ _)
   (tuple_addW2 t b vs.toArray ws.toArray n k m c o d (by simpa using hv) (by simpa using h) (by rw[sT1,sT1];exact hsz)) ⟨i,a,?_⟩
  rw[e];exact h2 h
noncomputable def sIx(n d:Nat):Option Int->Nat
 |none=>d
 |some v=>if v<0 then(v+(n:Int)).toNat else min v.toNat n
theorem sv(n d:Nat):sIx n d Y=d:=rfl
theorem vU(n d k:Nat):sIx n d (Z (k:Int))=min k n:=by
 show(if(k:Int)<0 then((k:Int)+(n:Int)).toNat else min (k:Int).toNat n)=min k n;rw[aj (by lia),Int.toNat_natCast]
theorem En(n d:Nat)(hd:d<=n)(o:Option Int):sIx n d o<=n:=by
 cases o with
 |none=>exact hd
 |some v=>
  show(if v<0 then(v+(n:Int)).toNat else min v.toNat n)<=n;by_cases a:v<0
  ·rw[ak a];lia
  ·rw[aj a];exact Nat.min_le_right _ _
theorem wt(v:Int)(n d:Nat):(if v<0 then max (v+(n:Int)) 0 else min v (n:Int))=((sIx n d (Z v):Nat):Int):=by
 show(if v<0 then max (v+(n:Int)) 0 else min v (n:Int))=(((if v<0 then(v+(n:Int)).toNat else min v.toNat n):Nat):Int);by_cases a:v<0
 ·simp only[ak a];lia
 ·simp only[aj a];lia
theorem vr(lo hi:Option Int)(n:Nat):Builtin.Slice.sliceAdjust lo hi 1 (n:Int)=(((sIx n 0 lo:Nat):Int),((sIx n n hi:Nat):Int)):=by
 have h1:¬ ((1:Int)<0):=by lia
 unfold Builtin.Slice.sliceAdjust;simp only[h1,if_false];refine Prod.ext ?_ ?_
 ·cases lo with
  |none=>rfl
  |some v=>exact wt v n 0
 ·cases hi with
  |none=>rfl
  |some v=>exact wt v n n
theorem uL(i j:Nat):Builtin.Slice.slicePlaces (i:Int) (j:Int) 1=j-i:=by
 unfold Builtin.Slice.slicePlaces;have h1:(1:Int)>0:=by lia
 simp only[h1,if_true,Int.ediv_one];split<;>lia
theorem nk{v:cF}{o:Option Int}{Q:Option Int->cG->Prop}(p:IsPart v o)(h:Q o s):cP (model prog w) A (Builtin.Slice.slicePartIndex v) Q E s:=by
 cases p with
 |none=>exact slicePart_none h
 |int i t=>exact slicePart_int h
theorem hL{sl:cH}{d c:cF}{lo hi:Option Int}{n:Nat}{Q:Int×Int×Nat->cG->Prop}(hs:s.heap.IsSliceOf sl d c .none)(pl:IsPart d lo)(e:IsPart c hi)(h:Q (((sIx n 0 lo:Nat):Int),1,sIx n n hi-sIx n 0 lo) s):cP (model prog w) A (Builtin.Slice.sliceApplied (.ref sl) (pure (n:Int))) Q E s:=by
 obtain⟨g,a,f,b⟩:=id hs;unfold Builtin.Slice.sliceApplied Builtin.Slice.sliceFields;refine wB1 (wB1 (wpAny_field a b (x:=d) O (wB1 (wpAny_field a b (x:=c) O (wB1 (wpAny_field a b (x:=.none) O (wP1 ?_)))))));refine wB1 (slicePart_none ?_);show cP _ _ (if((1:Int) == 0)=M then _ else _) _ _ s;rw[aj (by decide)];refine wB1 (nk pl (wB1 (nk e (wB1 (wP1 ?_)))));show cP _ _ (match Builtin.Slice.sliceAdjust lo hi 1 (n:Int)with|(lo,hi)=>pure (lo,(1:Int),Builtin.Slice.slicePlaces lo hi 1)) _ _ s;rw[vr lo hi n];show cP _ _ (pure (((sIx n 0 lo:Nat):Int),(1:Int),Builtin.Slice.slicePlaces ((sIx n 0 lo:Nat):Int) ((sIx n n hi:Nat):Int) 1)) _ _ s;rw[uL];exact wP1 h
theorem zf(xs:Array cF)(i k:Nat):((af k).filterMap λ(m:Nat)=>xs[((i:Int)+(m:Int)*1).toNat]?).toArray=((xs.toList.drop i).take k).toArray:=by
 have e:(λ(m:Nat)=>xs[((i:Int)+(m:Int)*1).toNat]?)=λm=>xs[i+m]?:=by
  funext m
  have:((i:Int)+(m:Int)*1).toNat=i+m:=by lia
  rw[this]
 rw[e];have:=pick_run xs i k;rw[List.filterMap_map]at this;have a:((λx=>xs[x]?)∘λx=>i+x)=λm=>xs[i+m]?:=rfl;rw[a]at this;rw[this]
theorem kN {t sl:cH}{items:Array cF}{g f:cF}{lo hi:Option Int}{Q:cF->cG->Prop}(ht:IsTup s.heap t items)(hs:s.heap.IsSliceOf sl g f .none)(pl:IsPart g lo)(i:IsPart f hi)
  (hw:¬ (sIx items.size 0 lo=0/\sIx items.size items.size hi=items.size))
  (h:Q (.ref s.heap.objs.size) {s with heap:=s.heap.push {cls:=.type "tuple",data:=.seq ((items.toList.drop (sIx items.size 0 lo)).take (sIx items.size items.size hi-sIx items.size 0 lo)).toArray}})
  (hsz:items.size<=cO):cP (model prog w) A (getItem (.ref t) (.ref sl)) Q E s:=by
 have a:sizeOk (.seq ((items.toList.drop (sIx items.size 0 lo)).take (sIx items.size items.size hi-sIx items.size 0 lo)).toArray):=by
  show((items.toList.drop (sIx items.size 0 lo)).take (sIx items.size items.size hi-sIx items.size 0 lo)).toArray.size<=cO;rw[sT1,aO,List.length_drop,aH];omega
 have l:sIx items.size items.size hi<=items.size:=En _ _ (nR1 _) hi;obtain⟨j,c,e,k⟩:=id hs;have b:s.TypeIs (.ref sl) "slice":=⟨j,c,e⟩;unfold getItem
 try with_reducible refine wpAny_holding ?_
 first|refine wB1 (wP1 ?_)|skip
 refine wB1 (wpAny_sequenceKey ht.typeIs (by decide) ?_);refine wB1 (wpAny_callSpecial?_slot (name:=Str.ofString "__getitem__") ht.typeIs PyProof.Rows.slot_tuple_getitem
  (wE1 PyProof.Rows.slot_tuple_getitem ht.typeIs entry_tuple_getitem ?_ (args_tuple_getitem _ _)))
 show cP _ _ (Builtin.Tuple.tupleItemsOf (.ref t) >>= _) _ _ s;refine wB1 (tupleItemsOf_ ht ?_);refine wB1 (wpAny_typeOf b ?_);rw[ak (by decide)];refine wB1 (hL hs pl i ?_);have d:¬ ((((sIx items.size 0 lo:Nat):Int) == 0&&(1:Int) == 1&&(sIx items.size items.size hi-sIx items.size 0 lo) == items.size)=M):=by
  intro q;rw[bA1,bA1]at q;have n:((sIx items.size 0 lo:Nat):Int)=0:=eq_of_beq q.1.1;have o:sIx items.size items.size hi-sIx items.size 0 lo=items.size:=eq_of_beq q.2;exact hw ⟨by omega,by omega⟩
 show cP _ _ (if(((sIx items.size 0 lo:Nat):Int) == 0&&(1:Int) == 1&&(sIx items.size items.size hi-sIx items.size 0 lo) == items.size)=M then _ else _) _ _ s;rw[aj d,zf]
 first
  |exact wB1 (m:=Builtin.Tuple.tupleExact _) (wO1 (wP1 ⟨_,rfl,wP1 h⟩) a)
  |exact wB1 (m:=Builtin.Tuple.tupleExact _) (wO1 (wB1 (wP1 (wP1 ⟨_,rfl,wP1 h⟩))) a)
  |exact wB1 (wB1 (m:=Builtin.Tuple.tupleExact _) (wO1 (wP1 (wP1 ⟨_,rfl,wP1 h⟩)) a))
  |exact wB1 (wB1 (m:=Builtin.Tuple.tupleExact _) (wO1 (wP1 ⟨_,rfl,wP1 h⟩) a))
end
end HT
namespace L2
open PySem PySem.Spec PyProof.Rows
abbrev TO:=St->Hp->(Option Int->Hp->Prop)->Prop
def PO(X:Cx)(e:Option Expr)(t:TO):Prop:=
 ∀(ag:List (cH×Obj)) (s:cG) (σ:St) (H:Hp) (Q:Option Int->Hp->Prop),Inv X ag σ H s->t σ H Q ->
  cP (model X.prog X.w) X.A (evalPart e X.env) (λu s'=>∃o H',Inv X ag σ H' s'/\IsPart u o/\Q o H') X.xe s
noncomputable def Bv:TO:=λ_ H Q=>Q Y H
noncomputable def G5(t:TE):TO:=fun σ H Q=>t σ H λx H1=>∃i,x = .int i/\Q (Z i) H1
variable{X:Cx}
section
variable{e:Expr}{te:TE}{lo hi:Option Expr}{tl th:TO}{pos p2:Pos}
theorem BW:PO X Y Bv:=by
 intro ag s σ H Q I h;rw[evalPart_none];exact wP1 ⟨Y,H,I,.none,h⟩
theorem BV(h:PE X e te):PO X (Z e) (G5 te):=by
 intro ag s σ H Q I b;rw[evalPart_some];refine eu (h ag s σ H _ I b) λu f ⟨x,H1,a,c,d⟩=>?_;obtain⟨i,rfl,q⟩:=d;obtain⟨t,rfl⟩:=c;exact⟨Z i,H1,a,.int i t,q⟩
def Ba(X:Cx)(r:V->Option Int->Option Int->Hp->VK->Prop):Prop:=
 ∀(ag:List (cH×Obj)) (s:cG) (σ:St) (H:Hp) (x:V) (v vl vu:cF) (lo hi:Option Int) (sl:cH) (Q:VK),Inv X ag σ H s->dn x v->s.heap.IsSliceOf sl vl vu .none->IsPart vl lo->IsPart vu hi->r x lo hi H Q ->
  ∃T id,typeLookup (.type T) "__getitem__"=pure (Z (.builtin id))/\s.TypeIs v T/\cP (model X.prog X.w) X.A (getItem v (.ref sl)) (EP X ag σ Q) X.xe s
theorem Ba.or{r c:V->Option Int->Option Int->Hp->VK->Prop}(h:Ba X r)(h':Ba X c):Ba X (λx lo hi H Q=>r x lo hi H Q\/c x lo hi H Q):=by
 intro ag s σ H x v f d lo hi a Q I g e pl b q;rcases q with q|q
 ·exact h ag s σ H x v f d lo hi a Q I g e pl b q
 ·exact h' ag s σ H x v f d lo hi a Q I g e pl b q
def KN(r:V->Option Int->Option Int->Hp->VK->Prop)(te:TE)(tl th:TO):TE:=fun σ H Q=>te σ H λx H1=>tl σ H1 λl H2=>th σ H2 λu H3=>r x l u H3 Q
theorem zj{r:V->Option Int->Option Int->Hp->VK->Prop}(hr:Ba X r)(he:PE X e te)(B:PO X lo tl)(A:PO X hi th):PE X (.Subscript e (.Slice lo hi Y p2) pos) (KN r te tl th):=by
 intro ag s σ H Q I h;refine Subscript_ (eu (he ag s σ H _ I h) λv p ⟨x,H1,k,m,n⟩=>?_);refine wpAny_Slice (eu (B ag p σ H1 _ k n) λc D ⟨l,H2,w,pl,o⟩=>eu (A ag D σ H2 _ w o) λd a ⟨u,f,C,t,y⟩=>?_);rw[evalPart_none];refine wP1 ?_;have i:Inv X ag σ f {a with heap:=a.heap.push {cls:=.type "slice",data:=.fields #[c,d,.none]}}:=C.kept (t':=a.toks) λb E q=>hP1 _ q;obtain⟨T,id,g,z,j⟩:=hr ag {a with heap:=a.heap.push {cls:=.type "slice",data:=.fields #[c,d,.none]}} σ f x v c d l u a.heap.objs.size Q i m (Heap.IsSliceOf.new ..) pl t y;show cP (model X.prog X.w) X.A (subscriptTail e (.Slice lo hi Y p2) v (.ref a.heap.objs.size)) (EP X ag σ Q) X.xe {a with heap:=a.heap.push {cls:=.type "slice",data:=.fields #[c,d,.none]}};exact tail_any (ops:=[.ref a.heap.objs.size,v]) z g j (by with_unfolding_all rfl)
def tO(xs:List V)(lo hi:Option Int):List V:=(xs.drop (HT.sIx xs.length 0 lo)).take (HT.sIx xs.length xs.length hi-HT.sIx xs.length 0 lo)
theorem l8(xs:List V)(lo hi:Option Int):(tO xs lo hi).length<=xs.length:=by
 unfold tO;rw[aO,List.length_drop];lia
def JD(K:Fg1):V->Option Int->Option Int->Hp->VK->Prop:=λx lo hi H Q=>∃a xs,x = .ref a/\jv K H a xs /\
 ¬ (HT.sIx xs.length 0 lo=0/\HT.sIx xs.length xs.length hi=xs.length) /\ ∀p,H p=Y->Q (.ref p) (upd H p (.tup (tO xs lo hi)))
theorem Ek:Ba X (JD X.K):=by
 intro ag s σ H x v p n lo hi m Q I l i pl g h;obtain⟨a,xs,rfl,j,k,q⟩:=h;cases l;obtain⟨d,r,e,f⟩:=I.tuple j;have c:d.toArray.size=xs.length:=by rw[sT1];exact r.length.symm
 refine⟨"tuple",_,PyProof.Rows.slot_tuple_getitem.lookup,e.typeIs,?_⟩;refine HT.kN e i pl g (by rw[c];exact k) ?_ (by rw[c];exact f);rw[c];refine⟨.ref s.heap.objs.size,_,I.laid (t':=s.toks) (o:=.tup (tO xs lo hi)) (λb t q=>hP1 _ q) (nR1 _) ?_,O,q _ (I.hok.fresh (nR1 _))⟩;exact⟨aB (l8 xs lo hi) f,_,(r.drop (HT.sIx xs.length 0 lo)).take (HT.sIx xs.length xs.length hi-HT.sIx xs.length 0 lo),IsTup.new _ _⟩
def Hq(K:Fg1):R2:=λx y H Q=>∃a b xs ys,x = .ref a/\y = .ref b/\jv K H a xs/\jv K H b ys/\xs≠[]/\xs.length+ys.length<=cO /\
 (ys=[]->Q (.ref a) H)/\(ys≠[] -> ∀p,H p=Y->Q (.ref p) (upd H p (.tup (xs++ys))))
theorem dF.nil_iff{xs:List V}{us:List cF}(r:dF xs us):us=[]↔xs=[]:=by
 cases r with
 |nil=>simp
 |cons _ _=>simp
theorem Ca:fy X (binaryOp .Add) (Hq X.K):=by
 intro ag s σ H x y v u Q I m k h;obtain⟨a,b,xs,ys,rfl,rfl,f,l,j,d,n,p⟩:=h;cases m;cases k;obtain⟨i,c,g,_⟩:=I.tuple f;obtain⟨e,r2,p2,_⟩:=I.tuple l;refine HT.Da g p2 (λz=>j (c.nil_iff.mp z)) (λz=>⟨.ref a,H,I,O,n (r2.nil_iff.mp z)⟩) (λz=>?_) (by rw[<- c.length,<- r2.length];exact d);refine⟨.ref s.heap.objs.size,_,I.laid (t':=s.toks) (o:=.tup (xs++ys)) (λb r q=>hP1 _ q) (nR1 _) ?_,O,p (λw=>z (r2.nil_iff.mpr w)) _ (I.hok.fresh (nR1 _))⟩;exact⟨by rw[lA1];exact d,_,c.append r2,IsTup.new _ _⟩
end
noncomputable def xi(n:Nat)(i:Int):Option Nat:=if 0<=i then(if i<n then Z i.toNat else Y)else if-(n:Int)<=i then Z (i+n).toNat else Y
def vp{α:Type}(xs:List α)(i:Int):Option α:=(xi xs.length i).bind λj=>xs[j]?
theorem rl{n:Nat}{i:Int}{j:Nat}(h:xi n i=Z j):seqIndex? i n=Z j/\j<n /\ -(n:Int)<=i/\i<n:=by
 unfold xi at h;by_cases a:0<=i
 ·rw[ak a]at h;by_cases h1:i<n
  ·rw[ak h1]at h;have e:i.toNat=j:=Option.some.inj h;exact⟨by rw[seqIndex_of a h1,e],by lia,by lia,h1⟩
  ·rw[aj h1]at h;cases h
 ·rw[aj a]at h;by_cases h1: -(n:Int)<=i
  ·rw[ak h1]at h;have e:(i+n).toNat=j:=Option.some.inj h;exact⟨by rw[seqIndex_neg (by lia) h1,e],by lia,h1,by lia⟩
  ·rw[aj h1]at h;cases h
theorem ww{α:Type}{xs:List α}{i:Int}{v:α}(h:vp xs i=Z v):∃j,seqIndex? i xs.length=Z j/\xs[j]?=Z v/\j<xs.length /\ -(xs.length:Int)<=i/\i<xs.length:=by
 unfold vp at h;cases e:xi xs.length i with
 |none=>rw[e]at h;cases h
 |some j=>
  rw[e]at h;obtain⟨h1,h2,a,b⟩:=rl e;exact⟨j,h1,h,h2,a,b⟩
def mW(b:Expr):Prop:=∀o i,subscripted b J o i=operate [o,i] (getItem o i)
def DZ(X:Cx)(r:R2):Prop:=
 ∀(value slice:Expr) (ag:List (cH×Obj)) (s:cG) (σ:St) (H:Hp) (x y:V) (v u:cF) (Q:VK),Inv X ag σ H s->dn x v->dn y u->r x y H Q ->
  subscripted slice J v u=operate [v,u] (getItem v u)->cP (model X.prog X.w) X.A (subscriptTail value slice v u) (EP X ag σ Q) X.xe s
def GO(X:Cx)(id:String)(r:V->List V->Hp->VK->Prop):Prop:=
 ∀(ag:List (cH×Obj)) (s:cG) (σ:St) (H:Hp) (x:V) (xs:List V) (v:cF) (us:List cF) (Q:VK),Inv X ag σ H s->dn x v->dF xs us->r x xs H Q ->
  cP (model X.prog X.w) X.A (call (.builtin id) (v::us)) (EP X ag σ Q) X.xe s
section
variable{a b:Expr}{ta tb:TE}{pos:Pos}
theorem Hx{r:R2}(hr:DZ X r)(ha:PE X a ta)(hb:PE X b tb)(hs:mW b):PE X (.Subscript a b pos) (G6 r ta tb):=by
 intro ag s σ H Q I h;exact Subscript_ (Gr ha hb I h λv u e x y H2 c d f q=>hr a b ag e σ H2 x y v u Q c d f q (hs _ _))
def JG(K:Fg1):R2:=λx y H Q=>∃p xs i v,x = .ref p/\y = .int i/\k4 K H p xs/\vp xs i=Z v/\Q v H
def JF(K:Fg1):R2:=λx y H Q=>∃p xs i v,x = .ref p/\y = .int i/\jv K H p xs/\vp xs i=Z v/\Q v H
theorem CM:DZ X (JG X.K):=by
 intro value e ag s σ H x y v u Q I B A h g;obtain⟨p,xs,i,z,rfl,rfl,m,l,q⟩:=h;cases B;obtain⟨t,rfl⟩:=A;obtain⟨b,r,pl,F⟩:=I.list m;obtain⟨j,h1,h2,D,C,n⟩:=ww l;obtain⟨w,f,d⟩:=r.get h2;have o:=r.length;have E:=ls;have a:EP X ag σ Q w s:=⟨z,H,I,d,q⟩;by_cases k:0<=i
 ·have c:i.toNat=j:=by
   rw[seqIndex_of k n]at h1;exact Option.some.inj h1
  exact item_listR pl.isList k (by lia) (by rw[c];simpa using f) a g
 ·have c:(i+(b.toArray.size:Int)).toNat=j:=by
   rw[seqIndex_neg (by lia) C]at h1;rw[sT1,<- o];exact Option.some.inj h1
  exact subscriptTail_builtinR (x:=w) pl.isList.typeIs slot_list_getitem.lookup
   (wpAny_getItem_list_neg (Q:=λr s'=>r=w/\EP X ag σ Q r s') pl.isList (by lia) (by rw[sT1]<;>lia) (by lia) (by rw[c];simpa using f) ⟨O,a⟩) g
theorem F9:DZ X (JF X.K):=by
 intro value b ag s σ H x y v u Q I n m h l;obtain⟨p,xs,i,z,rfl,rfl,e,d,q⟩:=h;cases n;obtain⟨t,rfl⟩:=m;obtain⟨k,r,pl,C⟩:=I.tuple e;obtain⟨j,h1,h2,o,D,A⟩:=ww d;obtain⟨w,g,c⟩:=r.get h2;have f:=r.length;have B:=ls;have a:EP X ag σ Q w s:=⟨z,H,I,c,q⟩;exact subscriptTail_builtinR (x:=w) pl.typeIs slot_tuple_getitem.lookup
  (getItem_tuple (j:=j) (Q:=λr s'=>r=w/\EP X ag σ Q r s') pl (by lia) (by lia) (by rw[sT1,<- f];exact h1) (by simpa using g) ⟨O,a⟩) l
theorem u3(its:List cF)(n j:Nat)(u:cF):Obj.mapSeq (·.setIfInBounds j u) {cls:=.type "list",data:=.seq its.toArray n}={cls:=.type "list",data:=.seq (its.set j u).toArray n}:=by
 simp[Obj.mapSeq]
theorem Inv.lst{ag:List (cH×Obj)}{σ:St}{H:Hp}{s:cG}{p:cH}{xs:List V}(I:Inv X ag σ H s)(h:H p=some (.lst xs)):
  ∃(its:List cF) (n:Nat),dF xs its/\s.heap.get? p=Z {cls:=.type "list",data:=.seq its.toArray n}/\xs.length<=cO:=by
 obtain⟨z,its,n,r,e⟩:=I.hok p _ h;exact⟨its,n,r,e,z⟩
theorem Inv.lstUpd {ag:List (cH×Obj)}{σ:St}{H:Hp}{s:cG}{p:cH}{xs ys:List V}{its its':List cF}{n n':Nat}{f:Obj->Obj}(I:Inv X ag σ H s)(h:H p=some (.lst xs))
  (ho:s.heap.get? p=Z {cls:=.type "list",data:=.seq its.toArray n}) (hf:f {cls:=.type "list",data:=.seq its.toArray n}={cls:=.type "list",data:=.seq its'.toArray n'}) (r:dF ys its') (hz:ys.length<=cO) (t:Nat):
  Inv X ag σ (upd H p (.lst ys)) {s with heap:=s.heap.update p f,toks:=t}:=by
 have e:(s.heap.update p f).get? p=Z {cls:=.type "list",data:=.seq its'.toArray n'}:=by
  rw[hW1 f ho (by rw[hf]<;>rfl),hf]
 refine I.write (x:=p) (e:=p) (by rw[h];trivial) (.inl O) (λb u a q=>(Heap.get?_update_other _ _ (Ne.symm a)).trans q) ⟨_,e⟩ ?_;exact⟨hz,its',n',r,e⟩
def Ho:V->V->V->Hp->(Hp->Prop)->Prop:=λo i v H Q=>∃p xs k j,o = .ref p/\i = .int k/\H p=Z (.lst xs)/\xi xs.length k=Z j/\Q (upd H p (.lst (xs.set j v)))
theorem yN:vz X Ho:=by
 intro ag s σ H o i v D B u Q I z w x h;obtain⟨p,xs,k,j,rfl,rfl,e,y,q⟩:=h;cases z;obtain⟨t,rfl⟩:=w;obtain⟨a,n,r,d,A⟩:=I.lst e;obtain⟨h1,h2,f,m⟩:=rl y;have c:=r.length;have C:=ls;have g:Inv X ag σ (upd H p (.lst (xs.set j v))) {s with heap:=s.heap.update p (Obj.mapSeq (·.setIfInBounds j u))}:=
  I.lstUpd e d (u3 a n j u) (r.set x j) (by rw[aS];exact A) s.toks
 by_cases l:0<=k
 ·have b:k.toNat=j:=by
   rw[seqIndex_of l m]at h1;exact Option.some.inj h1
  exact PySem.W.ki_setAt d l (by lia) (by rw[sT1,<- c];exact m) (by rw[b];exact⟨_,g,q⟩)
 ·have b:(k+(a.toArray.size:Int)).toNat=j:=by
   rw[seqIndex_neg (by lia) f]at h1;rw[sT1,<- c];exact Option.some.inj h1
  exact PySem.W.ki_setBack d (by lia) (by rw[sT1,<- c];exact f) (by lia) (by rw[b];exact⟨_,g,q⟩)
theorem qf(lo hi:Option Int)(n:Nat):(sliceBounds lo hi Y n).1=((HT.sIx n 0 lo:Nat):Int)/\(sliceBounds lo hi Y n).2.1=((HT.sIx n n hi:Nat):Int)/\(sliceBounds lo hi Y n).2.2=1:=by
 refine⟨?_,?_,O⟩
 ·cases lo with
  |none=>simp[sliceBounds,HT.sIx]
  |some i=>
   simp only[sliceBounds,HT.sIx,Option.getD_none,show(1:Int)>0 by decide,if_true];by_cases h:i<0
   ·simp only[h,if_true]<;>lia
   ·simp only[h,if_false]<;>lia
 ·cases hi with
  |none=>simp[sliceBounds,HT.sIx]
  |some i=>
   simp only[sliceBounds,HT.sIx,Option.getD_none,show(1:Int)>0 by decide,if_true];by_cases h:i<0
   ·simp only[h,if_true]<;>lia
   ·simp only[h,if_false]<;>lia
theorem oz(its:List cF)(lo hi:Option Int):slicePick its.toArray lo hi Y=((its.drop (HT.sIx its.length 0 lo)).take (HT.sIx its.length its.length hi-HT.sIx its.length 0 lo)).toArray:=by
 obtain⟨h1,h2,a⟩:=qf lo hi its.toArray.size;unfold slicePick;rw[h1,h2,a];simp only[sliceRange_one,pick_run,sT1]<;>rfl
def JE(K:Fg1):V->Option Int->Option Int->Hp->VK->Prop:=λx lo hi H Q=>∃a xs,x = .ref a/\k4 K H a xs /\ ∀p,H p=Y->Q (.ref p) (upd H p (.lst (tO xs lo hi)))
theorem Bz:Ba X (JE X.K):=by
 intro ag s σ H x v n m lo hi l Q I k g pl e h;obtain⟨a,xs,rfl,i,q⟩:=h;cases k;obtain⟨f,r,d,j⟩:=I.list i;have c:=r.length;refine⟨"list",_,slot_list_getitem.lookup,d.isList.typeIs,?_⟩;refine wpAny_getItem_list_slice d.isList g pl e .none (by simp) ?_ (by rw[sT1]<;>lia);rw[oz,<- c];refine⟨.ref s.heap.objs.size,_,I.laid (t':=s.toks) (o:=.lst (tO xs lo hi)) (λb p q=>hP1 _ q) (nR1 _) ?_,O,q _ (I.hok.fresh (nR1 _))⟩;exact⟨aB (l8 xs lo hi) j,_,0,(r.drop (HT.sIx xs.length 0 lo)).take (HT.sIx xs.length xs.length hi-HT.sIx xs.length 0 lo),hS1 _ O⟩
noncomputable def jF:V->Bool
 | .non=>M
 | .bl _=>M
 | .int _=>M
 | .str _=>M
 |_=>J
noncomputable def uo:V->V->Bool
 | .non,.non=>M
 | .bl a,.bl b=>a == b
 | .bl a,.int b=>(if a then 1 else 0) == b
 | .int a,.bl b=>a == (if b then 1 else 0)
 | .int a,.int b=>a == b
 | .str a,.str b=>a == b
 |_,_=>J
theorem jX{A:cJ}{s:cG}{y x:V}{u v:cF}(f:dn y u)(c:dn x v)(g:jF y=M)(e:jF x=M):SeqAt.EqAt A s u v (uo y x):=by
 cases y with
 |non=>
  cases f;cases x with
  |non=>cases c;exact SeqAt.EqAt.same _
  |bl b=>cases c;exact SeqAt.EqAt.none_bool b
  |int b=>obtain⟨t,rfl⟩:=c;exact SeqAt.EqAt.none_int b t
  |str b=>obtain⟨t,rfl⟩:=c;exact SeqAt.EqAt.none_str b t
  |_=>exact absurd (show J=M from e) aI
 |bl a=>
  cases f;cases x with
  |non=>cases c;exact SeqAt.EqAt.bool_none a
  |bl b=>cases c;exact SeqAt.EqAt.bool_bool a b
  |int b=>obtain⟨t,rfl⟩:=c;exact SeqAt.EqAt.bool_int a b t
  |str b=>obtain⟨t,rfl⟩:=c;exact SeqAt.EqAt.bool_str a b t
  |_=>exact absurd (show J=M from e) aI
 |int a=>
  obtain⟨d,rfl⟩:=f;cases x with
  |non=>cases c;exact SeqAt.EqAt.int_none a d
  |bl b=>cases c;exact SeqAt.EqAt.int_bool a d b
  |int b=>obtain⟨t,rfl⟩:=c;exact SeqAt.EqAt.int_int a d b t
  |str b=>obtain⟨t,rfl⟩:=c;exact SeqAt.EqAt.int_str a d b t
  |_=>exact absurd (show J=M from e) aI
 |str a=>
  obtain⟨d,rfl⟩:=f;cases x with
  |non=>cases c;exact SeqAt.EqAt.str_none a d
  |bl b=>cases c;exact SeqAt.EqAt.str_bool a d b
  |int b=>obtain⟨t,rfl⟩:=c;exact SeqAt.EqAt.str_int a d b t
  |str b=>obtain⟨t,rfl⟩:=c;exact SeqAt.EqAt.str_str a d b t
  |_=>exact absurd (show J=M from e) aI
 |_=>exact absurd (show J=M from g) aI
theorem rH:eh X (.builtin "len") (λxs H Q=>∃p ys,xs=[.ref p]/\(k4 X.K H p ys\/jv X.K H p ys)/\Q (.int ys.length) H):=by
 intro ag s σ H xs i Q I r h;obtain⟨p,ys,rfl,b,q⟩:=h;obtain⟨u,rfl,e⟩:=gL r;cases e;have g:=ls;rcases b with b|b
 ·obtain⟨d,c,pl,f⟩:=I.list b;have a:=c.length;exact Calls.call_len_list pl.isList (by simp only[sT1]<;>lia) ⟨.int ys.length,H,I.tok _,⟨s.toks+1,by rw[sT1,a]⟩,q⟩
 ·obtain⟨d,c,pl,f⟩:=I.tuple b;have a:=c.length;exact len_tuple pl (by simp only[sT1]<;>lia) ⟨.int ys.length,H,I.tok _,⟨s.toks+1,by rw[sT1,a]⟩,q⟩
theorem rG:eh X (.builtin "len") (λxs H Q=>∃z,xs=[.str z]/\z.length<=cO/\Q (.int z.length) H):=by
 intro ag s σ H xs a Q I r h;obtain⟨z,rfl,c,q⟩:=h;obtain⟨u,rfl,t,rfl⟩:=gL r;have b:=ls;exact len_str (by lia) ⟨.int z.length,H,I.tok _,⟨_,O⟩,q⟩
theorem rF:eh X (.type "list") (λxs H Q=>∃p ys,xs=[.ref p]/\(k4 X.K H p ys\/jv X.K H p ys) /\ ∀l,H l=Y->Q (.ref l) (upd H l (.lst ys))):=by
 intro ag s σ H xs w Q I r h;obtain ⟨p,ys,rfl,f,q⟩:=h;obtain ⟨u,rfl,v⟩:=gL r;cases v;have g:∀ (a:List cF),dF ys a->ys.length<=cO -> ∀ (h':cR) (c:Nat),(∀ b o',s.heap.get? b=some o'->h'.get? b=some o') ->
   h'.get? s.heap.objs.size=Z {cls:=.type "list",dict:=Y,data:=.seq a.toArray c,slots:= #[]}->EP X ag σ Q (.ref s.heap.objs.size) {s with heap:=h'}:=λa d j h' c i e=>
  ⟨.ref s.heap.objs.size,_,I.laid (t':=s.toks) i (nR1 _) (show dZ X.prog X.w _ h' _ (.lst ys)from⟨j,a,c,d,e⟩),O,q _ (I.hok.fresh (nR1 _))⟩
 rcases f with f|f
 ·obtain⟨a,d,pl,j⟩:=I.list f;have k:=d.length;obtain⟨o,t,hc,n,m⟩:=pl.isList;exact call_list_seq p (.inl O) t hc m (λh' c i e=>g a d j h' c i e) (by simp only[sT1]<;>lia)
 ·obtain⟨a,d,pl,j⟩:=I.tuple f;have k:=d.length;obtain⟨o,t,hc,n,m⟩:=pl;exact call_list_seq p (.inr O) t hc m (λh' c i e=>g a d j h' c i e) (by simp only[sT1]<;>lia)
theorem oK:eh X (.type "tuple") (λxs H Q=>∃p ys,xs=[.ref p]/\((k4 X.K H p ys /\ ∀l,H l=Y->Q (.ref l) (upd H l (.tup ys)))\/(jv X.K H p ys/\Q (.ref p) H))):=by
 intro ag s σ H xs n Q I r h;obtain⟨p,ys,rfl,h⟩:=h;obtain⟨u,rfl,j⟩:=gL r;cases j;rcases h with⟨d,q⟩|⟨d,q⟩
 ·obtain ⟨a,c,pl,g⟩:=I.list d;have i:=c.length;refine call_tuple_list pl.isList (fun h' k=>?_) (by simp only [sT1]<;>lia);have f:Inv X ag σ H {s with heap:=h'}:=I.kept (t':=s.toks) k;have m:Inv X ag σ (upd H h'.objs.size (.tup ys)) {s with heap:=h'.push {cls:=.type "tuple",data:=.seq a.toArray}}:=
   f.laid (t':=s.toks) (λb o e=>hP1 _ e) (nR1 _) (show dZ X.prog X.w _ _ _ (.tup ys)from⟨g,a,c,IsTup.new _ _⟩)
  exact⟨.ref h'.objs.size,_,m,O,q _ (f.hok.fresh (nR1 _))⟩
 ·obtain⟨a,c,pl,g⟩:=I.tuple d;exact call_tuple_same pl ⟨.ref p,H,I,O,q⟩
def Kl(K:Fg1)(T:String)(x:V)(H:Hp):Prop:=match x with
 | .str _=>T="str"
 | .int _=>T="int"
 | .ref p=>(T="list" /\ ∃ xs,k4 K H p xs)\/(T="tuple" /\ ∃ o,K.lookup p=some o/\o.cls = .type "tuple"/\o.dict=none) \/
   (T="dict"/\((∃kvs,H p=Z (.dK kvs)) \/ ∃kvs,H p=Z (.dT kvs)))\/(T="set" /\ ∃S n,H p=Z (.set S n))
 |_=>False
theorem D7{ag:List (cH×Obj)}{σ:St}{H:Hp}{s:cG}{T:String}{x:V}{v:cF}(I:Inv X ag σ H s)(r:dn x v)(ty:Kl X.K T x H):
  s.TypeIs v T /\ ∀a,v = .ref a -> ∃g,s.heap.get? a=Z g/\g.dict=Y:=by
 cases x with
 |str z=>
  obtain⟨t,rfl⟩:=r;cases(show T="str" from ty);exact⟨typeIs_str s z t,λ_ e=>nomatch e⟩
 |int i=>
  obtain⟨t,rfl⟩:=r;cases(show T="int" from ty);exact⟨typeIs_int s i t,λ_ e=>nomatch e⟩
 |ref p=>
  cases r;rcases ty with⟨rfl,xs,j⟩|⟨rfl,o,b,hc,d⟩|⟨rfl,b⟩|⟨rfl,S,n,b⟩
  ·obtain⟨h,_,pl,_⟩:=I.list j;refine⟨pl.isList.typeIs,λa e=>?_⟩;cases e;obtain⟨o,n,e,c,d,_⟩:=pl;exact⟨o,e,d⟩
  ·refine⟨⟨o,I.kIn p o b,hc⟩,λa e=>?_⟩;cases e;exact⟨o,I.kIn _ o b,d⟩
  ·have z:∃ o,s.heap.get? p=some o/\o.ExactDict:=by
    rcases b with⟨kvs,b⟩|⟨kvs,b⟩
    ·obtain⟨_,_,_,_,o,_,_,e,ex,_⟩:=I.hok p _ b;exact⟨o,e,ex⟩
    ·obtain⟨_,_,_,_,o,_,_,e,ex,_⟩:=I.hok p _ b;exact⟨o,e,ex⟩
   obtain⟨o,e,ex⟩:=z;refine⟨⟨o,e,ex.1⟩,λa f=>?_⟩;cases f;exact⟨o,e,ex.2.1⟩
  ·obtain⟨o,_,_,_,e,ex,_⟩:=I.hok p _ b;refine⟨⟨o,e,ex.1⟩,λa f=>?_⟩;cases f;exact⟨o,e,ex.2.1⟩
 |_=>exact False.elim ty
def KU(K:Fg1)(T:String)(r:V->List V->Hp->VK->Prop)(to:TE)(t:TA):TE:=fun σ H Q=>to σ H λx H1=>Kl K T x H1/\t σ H1 λxs H2=>r x xs H2 Q
variable{o e:Expr}{es:List Expr}{to:TE}{t:TA}{name:Str}{apos cpos:Pos}{T id:String}{r:V->List V->Hp->VK->Prop}
theorem Hy (i:PlainAttrs T)(slot:Slot T name id)(hty:typeOf (.builtin id)=pure (.type "method_descriptor"))(hm:GO X id r)(ho:PE X o to)(ha:PA X (e::es) t)
  (hbase:autoParam (attributeBase o name X.env (eval o X.env)=eval o X.env) cu0)
  (hfew:autoParam (((backTo cpos (cN (e::es) X.env)).all (λx=> !x.1)&&(backToKw cpos (keywordEach [] X.env)).all (λx=>x.1.isSome)
   && decide ((e::es).length+([]:List Keyword).length+(if([]:List Keyword).isEmpty then 0 else 1)<30))=M) cu0)
  (hline:autoParam ((apos.endLine == cpos.line)=M) cu0) (hs:autoParam (cN (e::es) X.env=(J,eval e X.env)::cN es X.env) cu0) (hplain:autoParam ((backTo cpos (cN es X.env)).any (·.1)=J) cu0):
  PE X (.Call (.Attribute o name apos) (e::es) [] cpos) (KU X.K T r to t):=by
 intro ag s σ H Q I h;refine wpAny_Call_method_late hbase hfew hline O (eu (ho ag s σ H _ I h) λv l ⟨x,H1,a,c,ty,j⟩=>?_);obtain⟨h1,h2⟩:=D7 a c ty;refine⟨T,id,i,slot,hty,h1,h2,?_⟩;have b:=ha cpos ag l σ H1 _ a j;rw[hs]at b ⊢;refine Calls.callWith_builtin (by show(J||(backTo cpos (cN es X.env)).any (·.1))=J;rw[hplain]<;>rfl) (Calls.evalArgs_plain ?_);exact eu b λg d ⟨vs,H2,f,r2,k⟩=>hm ag d σ H2 x vs v g Q f c r2 k
end
def KE(X:Cx)(id:String)(r:V->List V->Hp->VK->Prop):Prop:=
 ∀(ag:List (cH×Obj)) (s:cG) (σ:St) (H:Hp) (x:V) (xs:List V) (v:cF) (us:List cF) (Q:VK),Inv X ag σ H s->dn x v->dF xs us->r x xs H Q ->
  cP (model X.prog X.w) X.A (call (.builtin id) (v::us)) (EP X ag σ Q) X.xe s
theorem dF.one:∀{x:V} {us:List cF},dF [x] us -> ∃u,us=[u]/\dn x u:=by
 intro x us h;cases h with
 |cons r t=>cases t;exact⟨_,O,r⟩
theorem dF.zero:∀{us:List cF},dF [] us->us=[]
 |_,.nil=>rfl
theorem dF.eraseIdx:∀{xs:List V} {us:List cF} (i:Nat),dF xs us->dF (xs.eraseIdx i) (us.eraseIdx i)
 |_,_,_,.nil=>.nil
 |_,_,0,.cons _ t=>t
 |_,_,i+1,.cons r t=>.cons r (dF.eraseIdx i t)
theorem dF.reverse{xs:List V}{us:List cF}(h:dF xs us):dF xs.reverse us.reverse:=by
 induction h with
 |nil=>exact .nil
 |cons r t ih=>rw[aT,aT];exact dF.append ih (.cons r .nil)
theorem pp{α:Type}:∀(l:List α) (i:Nat),(l.eraseIdx i).length<=l.length
 |[],_=>nR1 _
 |_::_,0=>aU _
 |_::r,i+1=>Nat.succ_le_succ (pp r i)
section
variable{ag:List (cH×Obj)}{σ:St}{H:Hp}{s:cG}{l b:cH}{xs ys zs:List V}
theorem Inv.lset {its its':List cF}{n:Nat}{f:Array cF->Array cF}{t':Nat}(I:Inv X ag σ H s)(c:H l=some (.lst xs))
  (e:s.heap.get? l=Z {cls:=.type "list",data:=.seq its.toArray n}) (hf:f its.toArray=its'.toArray) (hv:dF ys its') (hz:ys.length<=cO):
  Inv X ag σ (upd H l (.lst ys)) {s with heap:=s.heap.update l (Obj.mapSeq f),toks:=t'}:=by
 have q:=PySem.IsL.update e f;rw[hf]at q;refine I.write (x:=l) (e:=l) (by rw[c];exact trivial) (.inl O) (λd u a b=>(Heap.get?_update_other s.heap (Obj.mapSeq f) (Ne.symm a)).trans b) ⟨_,q⟩ ?_;exact⟨hz,its',_,hv,q⟩
theorem Inv.lnew{its:List cF}{t':Nat}(I:Inv X ag σ H s)(hv:dF ys its)(hz:ys.length<=cO):
  Inv X ag σ (upd H s.heap.objs.size (.lst ys)) {s with heap:=s.heap.push {cls:=.type "list",data:=.seq its.toArray},toks:=t'}:=
 I.laid (λ_ _ q=>hP1 _ q) (nR1 _) ⟨hz,its,0,hv,hS1 _ O⟩
theorem Inv.fresh(I:Inv X ag σ H s):H s.heap.objs.size=Y:=I.hok.fresh (nR1 _)
theorem Inv.lstM(I:Inv X ag σ H s)(a:H l=Z (.lst xs)):xs.length<=cO /\ ∃(its:List cF) (n:Nat),dF xs its/\xs.length=its.length/\s.heap.get? l=Z {cls:=.type "list",data:=.seq its.toArray n}:=by
 obtain⟨z,its,n,r,e⟩:=I.hok l _ a;exact⟨z,its,n,r,r.length,e⟩
end
def BI:V->List V->Hp->VK->Prop:=λx vs H Q=>∃l xs y,x = .ref l/\vs=[y]/\H l=Z (.lst xs)/\xs.length<cO/\Q .non (upd H l (.lst (xs++[y])))
theorem pi:KE X "list.append" BI:=by
 intro ag s σ H x vs v i Q I c f h;obtain⟨l,xs,y,rfl,rfl,b,j,q⟩:=h;cases c;obtain⟨u,rfl,d⟩:=f.one;obtain⟨z,a,n,r,g,e⟩:=I.lstM b;refine call_meets F.slot_list_append ⟨_,e,O⟩ F.entry_list_append (F.args_list_append_2 _ _) (PySem.list_append l a.toArray n u (by rw[sT1];lia)) ⟨e,?_⟩;refine⟨.non,_,I.lset (its':=a++[u]) b e (by simp) (r.append (.cons d .nil)) ?_,O,q⟩;rw[lA1,List.length_singleton];lia
def Ew:V->List V->Hp->VK->Prop:=λx vs H Q=>∃l xs i k y,x = .ref l/\vs=[.int i]/\H l=Z (.lst xs) /\ -(2^63)<=i/\i<2^63/\seqIndex? i xs.length=Z k/\xs[k]?=Z y/\Q y (upd H l (.lst (xs.eraseIdx k)))
theorem zF:KE X "list.pop" Ew:=by
 intro ag s σ H x vs v A Q I p m h;obtain⟨l,xs,i,k,y,rfl,rfl,c,h1,h2,f,d,q⟩:=h;cases p;obtain⟨u,rfl,j⟩:=m.one;obtain⟨t,rfl⟩:=j;obtain⟨z,a,n,r,g,e⟩:=I.lstM c;obtain⟨w,o,b⟩:=r.get d;refine call_meets F.slot_list_pop ⟨_,e,O⟩ F.entry_list_pop (F.args_list_pop_2 _ _)
  (MeetsSeq.list_pop_at l a.toArray n i t k w (fitsIndex_both h1 h2) (by rw[sT1,<- g];exact f) (by rw[<- aT1];exact o) (by rw[sT1];lia)) ⟨e,?_⟩
 refine⟨y,_,I.lset (its':=a.eraseIdx k) c e ?_ (r.eraseIdx k) ?_,b,q⟩
 ·show a.toArray.eraseIdxIfInBounds k=(a.eraseIdx k).toArray;rw[List.eraseIdxIfInBounds_toArray]
 ·have:=pp xs k;lia
def JH:R2:=λx y H Q=>∃l b xs zs,x = .ref l/\y = .ref b/\H l=Z (.lst xs)/\H b=Z (.lst zs)/\xs.length+zs.length<=cO /\ ∀p,H p=Y->Q (.ref p) (upd H p (.lst (xs++zs)))
theorem E7:fy X (binaryOp .Add) JH:=by
 intro ag s σ H x y v u Q I k j h;obtain⟨l,b,xs,zs,rfl,rfl,m,f,t,q⟩:=h;cases k;cases j;obtain⟨z,c,n,r,p,e⟩:=I.lstM m;obtain⟨w,a,o,r2,i,d⟩:=I.lstM f;refine PySem.P.add_list e d ?_ (by rw[sT1,sT1];lia);have g:c.toArray++a.toArray=(c++a).toArray:=by simp
 rw[g];exact⟨.ref _,_,I.lnew (t':=s.toks) (r.append r2) (by rw[lA1];lia),O,q _ I.fresh⟩
section
variable{prog:cI}{w:cK}{A:cJ}{E:cF->cG->Prop}{s:cG}
end
end L2
namespace Att
open PySem PySem.W PySem.Calls PyProof.Rows
theorem mw{P:Params}{h:cR}:∀(ns:List Int) (vs:List cF),WellAll P h vs (ns.map WData.int)->IntsAre vs ns:=by
 intro ns
 induction ns with
 |nil=>
  intro vs w;rw[aV]at w;cases w;exact .nil
 |cons n ns ih=>
  intro vs w;rw[mP1]at w;cases w with
  |cons a b=>
   cases a;exact .cons _ _ (ih _ b)
theorem wV{l:OpenLaw}{n:Nat}(hn:l.most=some n){P:Params}{h:cR}{args:List WData}{b:List cF}(c:l.row.toRowW.claim.pre args=true)(j:WellAll P h b args):
  ∃a vs ns,b=[Value.ref a]/\args=[WData.list (ns.map WData.int)]/\h.get? a=Z {cls:=.type "list",data:=.seq vs.toArray}/\IntsAre vs ns/\ns.length<=n:=by
 have k:WShape.hasAll [] args [.list .int]=M:=(pre_splitW c).1;have hc:l.pre.holds [] {args:=args}=M:=(pre_splitW c).2;obtain⟨d,r,rfl,h1,h2⟩:=hasAllW_cons k;obtain rfl:=hasAllW_nil h2;obtain⟨xs,rfl,m⟩:=hasW_list h1;obtain⟨ns,rfl⟩:=items_int m;have f:ns.length<=n:=by
  unfold OpenLaw.pre at hc;have i:(WTm.not (.lt (.lit (.int (n:Int))) (.len (.arg 0)))).holds [] {args:=[.list (ns.map .int)]}=M:=by
   have i:=(holds_andW hc).1;rw[hn]at i;exact i
  have g:=condW_of i (w_not (w_lt w_lit (w_len_list (w_arg O))));rw[lM1]at g;refine Nat.le_of_not_lt λq=>?_;have p:(n:Int)<((ns.length:Nat):Int):=by omega
  first
   |(rw[ah p]at g;exact absurd g (by decide))
   |(simp at g;omega)
 cases j with
 |cons s o=>
  cases o;cases s with
  |list t e=>exact⟨_,_,ns,O,O,t,mw ns _ e,f⟩
theorem wW(l:OpenLaw)(args:List WData):l.row.toRowW.claim.post args (.bool M) args=M:=
 postW_of (r:=l.row.toRowW) (X:=(M == M))
  (show WShape.has [] (.bool M) .bool=M by first|rfl|decide|simp[WShape.has,WShape.arms,WShape.armsAll])
  (show(WTm.eq .res (.lit (.bool M))).value [] {args:=args,res:=Z (.bool M),after:=args}=Z (.bool (M == M))from w_eq_bool (w_res O) w_lit) O
theorem attach_call {l:OpenLaw}{n:Nat}{q:cI}{e:List Str}{XP:(Str->Option cF)->cR->Prop}{A:cK->cR->Prop}{d:DefRec}
  (hn:l.most=Z n) (s:d.params.defaults=[])
  (call:∀(w:cK) (c b:cG) (mg u:Str->Option cF) (i:cH) (o:Obj) (y p g:cF) (a:cH) (vs:List cF) (ns:List Int),
   Ground q e [] XP w c mg u b.heap->A w b.heap ->
   b.heap.get? i=Z o->o.data = .func (docDef d.name d.params d.body d.scope y p g)->b.heap.CodeRec p d.name->mg d.name=Z (.ref i) ->
   b.heap.get? a=Z {cls:=.type "list",data:=.seq vs.toArray}->IntsAre vs ns->ns.length<=n->b.gens = #[] ->
   cQ (model l.prog w) callerA (.call (.ref i) ⟨[.ref a],[]⟩) (λr s'=>r = .ok (.ret (.bool M))/\OldK b.heap s'.heap/\s'.os=b.os/\AllBare s'.gens) b):
  WalkO q e XP A l.row.toRowW d [] (λf vs=>PySem.call f vs):=by
 intro w c b mg u G aq i o y p g au kV I ao x B t F z C as k D H v N;obtain rfl:au = .none:=Dflts.none B s;obtain rfl:kV = .none:=Dflts.noKw B;obtain⟨a,vs,ns,rfl,rfl,m,h,j⟩:=wV hn k v;refine enter_call (codeAny_mono (call w c b mg u i o y p g a vs ns G aq I (fd_plain ao) x t m h j F) λr s' K=>?_);obtain⟨rfl,h2,E,am⟩:=K;exact⟨.inl ⟨.bool M,.bool M,[],O,λ_=>rfl,.bool M,wW l _,λ_=>⟨List.Pairwise.nil,λ_ L=>(nomatch L)⟩⟩,h2,E,am⟩
section
variable{prog:cI}{w:cK}{A:cJ}{E:cF->cG->Prop}{s:cG}{K:Frag}
end
end Att
namespace L2
open PySem PySem.Spec PyProof.Rows
theorem wO:∀{vs:List cF} {ns:List Int},IntsAre vs ns->dF (ns.map V.int) vs:=by
 intro vs ns h
 induction h with
 |nil=>exact .nil
 |cons n t h ih=>exact .cons ⟨t,O⟩ ih
def Dt(H:Hp):Prop:=∀b,H b=Y \/ ∃o xs,H b=Z (.frz o (.lst xs))
theorem Aa {P:cI}{w:cK}{K:Fg1}{mg I:Str->Option cF}{CX:x3}{k:Nat}{D a:cH}{fd:cS}{x:Str}{sp:Sp}{s₁:cG}{vs:List cF}{ns:List Int}
  (N:K.In s₁.heap) (i:s₁.heap.Ns cM mg) (hb:s₁.heap.Ns builtinsNs I) (G:∀x:Str,x≠"__name__"->I x=bootBuiltins x) (p:s₁.heap.NoLimit) (hg:s₁.gens = #[])
  (ha:s₁.heap.get? a=Z {cls:=.type "list",data:=.seq vs.toArray}) (hi:IntsAre vs ns) (R:ns.length<=cO) (hr:fb k callerA)
  (F:∀base:cR,K.In base->base.Ns cM mg->k3 P w K mg base CX k D fd [x] sp) (g:∀(s:cG) (u:cF),BindsTo s fd ⟨[u],[]⟩ [(x,u)])
  (E:∀H:Hp,Dt H->k4 K H a (ns.map V.int)->sp [.ref a] H (λv _=>v = .bl M) λ_ _ _=>False)
  (L:∀H e s',CX [] H s₁ (λ_ _ _=>False) e s'->False):
  cQ (model P w) callerA (.call (.ref D) ⟨[.ref a],[]⟩) (λr s'=>r = .ok (.ret (.bool M))/\OldK s₁.heap s'.heap/\s'.os=s₁.os/\AllBare s'.gens) s₁:=by
 have Q:=wO hi;have t:=hi.length
 -- from an abstract heap in which nothing but the script may be tracked
 have f:∀ H:Hp,Dt H->k4 K H a (ns.map V.int)->j4 P w H s₁.heap->(∀ b,H b≠none->b=a)->(H a≠none->K.lookup a=none) ->
   cQ (model P w) callerA (.call (.ref D) ⟨[.ref a],[]⟩) (λr s'=>r = .ok (.ret (.bool M))/\OldK s₁.heap s'.heap/\s'.os=s₁.os/\AllBare s'.gens) s₁:=by
  intro H ao hS j au hK;have base_of:∀{b:cH} {o:Obj},s₁.heap.get? b=Z o->H b=Y->(rn s₁.heap H).get? b=Z o:=λe n=>Aj e n;have am:∀{b:cH} {o:Obj} {es:Array DictEntry} {ep:Nat},s₁.heap.get? b=Z o->o.data = .dict es ep->H b=Y:=λ{b o es ep} e d=>by
   cases q:H b with
   |none=>rfl
   |some u=>
    have C:b=a:=au b (by rw[q];simp);subst C;rw[ha]at e;cases e;have d':Data.seq vs.toArray _=Data.dict es ep:=d;cases d'
  have c:∀{b:cH} {m:Str->Option cF},s₁.heap.Ns b m->(rn s₁.heap H).Ns b m:=λ{b m} ⟨o,es,ep,e,d,r⟩=>⟨o,es,ep,base_of e (am e d),d,r⟩;have B:K.In (rn s₁.heap H):=λb o e=>base_of (N b o e) (by
   cases q:H b with
   |none=>rfl
   |some u=>
    have C:b=a:=au b (by rw[q];simp);subst C;rw[hK (by rw[q];simp)]at e;cases e)
  have aq:Mod K mg (rn s₁.heap H):=⟨B,c i,⟨I,c hb,G⟩,let ⟨mc,h1,h2⟩:=p;⟨mc,c h1,h2⟩⟩;have e0:Dv P w K mg (rn s₁.heap H) callerA [] s₁ H:=⟨O,aq,λb o e=>Cb e,Nat.le_of_eq (xp _ _),trivial,λb hb=>absurd (show b∈([]:List cH)from hb) (by simp),j,.of_eq hg⟩;refine codeAny_mono ((F _ B (c i)).run callerA [] s₁ H ⟨[.ref a],[]⟩ [.ref a] [.ref a] _ _ hr e0 (g s₁ (.ref a)) (.cons O .nil) (E H ao hS)) λr s' h=>?_;cases r with
  |error e=>exact(L H e s' h).elim
  |ok U=>
   cases U with
   |next=>exact False.elim h
   |brk=>exact False.elim h
   |cont=>exact False.elim h
   |ret u=>
    obtain⟨v,H',wq,y,un,A,X,q⟩:=h;have q':v = .bl M:=q;subst q';obtain rfl:u=Value.bool true:=X;refine⟨O,OldK.of_keep λb o e=>?_,wq,y⟩;cases q:H b with
    |none=>exact un.keep b o e q (by intro z;exact absurd (show b∈([]:List cH)from z) (by simp)) (by simp)
    |some u=>
     rcases ao b with z|⟨ob,xs,z⟩
     ·rw[q]at z;cases z
     ·have T:=un.frzs b ob _ z;obtain⟨S,_⟩:=j b _ z;obtain⟨W,_⟩:=A b _ T;rw[e]at S;cases S;exact W
 cases hk:K.lookup a with
 |some o=>
  -- the script is one of the module's own objects
  have e:=N a o hk;rw[ha]at e;cases e;refine f (λ_=>Y) (λ_=>.inl O) (.inr ⟨_,vs.toArray,_,hk,O,O,O,by rw[sT1,t];exact R,by simpa using Q⟩) (λb u z=>by have l:(Y:Option HO)=Z u:=z;cases l) (λb z=>absurd O z) λz=>absurd O z
 |none=>
  refine f (λb=>if b=a then Z (.frz {cls:=.type "list",data:=.seq vs.toArray} (.lst (ns.map V.int)))else Y) (λb=>?_) (.inl (.inr ⟨{cls:=.type "list",data:=.seq vs.toArray},ak O⟩)) (λb u z=>?_) (λb z=>?_) λ_=>hk
  ·by_cases hb:b=a
   ·exact .inr ⟨_,_,ak hb⟩
   ·exact .inl (aj hb)
  ·by_cases hb:b=a
   ·have l:=(ak hb).symm.trans z;cases l;subst hb;exact⟨ha,by rw[lM1];exact R,vs,_,Q,ha⟩
   ·have l:=(aj hb).symm.trans z;cases l
  ·by_cases hb:b=a
   ·exact hb
   ·exact absurd (aj hb) z
theorem Bq{l:PySem.W.OpenLaw}{n k:Nat}{q:cI}{g:List Str}{XP:(Str->Option cF)->cR->Prop}{C:cK->cR->Prop}{d:DefRec}{K:Params->Fg1}{CX:cK->x3}{sp:cK->Sp}{x:Str}(hn:l.most=some n)(y:n<=cO)(p:d.params.defaults=[])(hr:fb k callerA)(ao:∀(w:cK) (h:cR),C w h->(K w.params).In h)(F:∀(w:cK) (mg:Str->Option cF) (m:cH) (h:cR),(K w.params).In h->h.Ns cM mg->mg d.name=some (.ref m) ->
   ∃fd:cS,(∀(s:cG) (u:cF),BindsTo s fd ⟨[u],[]⟩ [(x,u)]) /\
    ∀base:cR,(K w.params).In base->base.Ns cM mg->k3 l.prog w (K w.params) mg base (CX w) k m fd [x] (sp w))(r:∀(w:cK) (H:Hp) (a:cH) (ns:List Int),ns.length<=n->Dt H->k4 (K w.params) H a (ns.map V.int)->sp w [.ref a] H (λv _=>v = .bl M) λ_ _ _=>False)(z:∀(w:cK) (H:Hp) (s:cG) (e:cF) (s':cG),CX w [] H s (λ_ _ _=>False) e s'->False):
  PySem.W.WalkO q g XP C l.row.toRowW d [] (λf vs=>PySem.call f vs):=by
 refine Att.attach_call hn p λw B j mg R m o T P am a vs ns G aq Q S N t i c b D=>?_;have A:=ao w _ aq;obtain⟨fd,L,I⟩:=F w mg m _ A G.T.g t;exact Aa A G.T.g G.T.b G.T.builtins G.T.nolimit D i c (aB b y) hr I L (λH E au=>r w H a ns b E au) λH e s'=>z w H j e s'
noncomputable def gW(s:cT):Arguments:=match s with
 | .FunctionDef _ a _ _ _ _ _ _ _ _=>a
 |_=>{posonlyargs:=[],args:=[],vararg:=Y,kwonlyargs:=[],kw_defaults:=[],kwarg:=Y,defaults:=[]}
noncomputable def eK(s:cT):List cT:=match s with
 | .FunctionDef _ _ b _ _ _ _ _ _ _=>b
 |_=>[]
noncomputable def dv(s:cT):cU:=match s with
 | .FunctionDef _ _ _ _ _ _ sc _ _ _=>sc
 |_=>{kind:=.function,names:=[],isGenerator:=J,isCoroutine:=J}
abbrev uh:x3:=λ_ _ _ _ _ _=>False
abbrev E0:XK:=λ_ _ _=>False
theorem DC{X:Cx}:rR uh X E0:=λ_ _ _ _ _ _ _ h=>h.elim
structure xZ (K:Fg1)(x qual:Str)(st:cT)(f:cH)(fd:cS):Prop where
 ex:∃(oc:cF) (od:Option cH) (kV doc pm:cF) (an:Option cH) (cdv ct:cF) (osl:Array (Option cF)),
  fd=wF1 x qual (gW st) (eK st) (dv st) .none kV doc pm an cdv ct/\K.lookup f=some ⟨oc,od,.func fd,osl⟩/\wC1 K cdv qual=true
 kp:wK1 K (.ref f)=true
section
variable{P:cI}{w:cK}{K:Fg1}{mg:Str->Option cF}{base:cR}
theorem xZ.ok{x b:Str}{st:cT}{f:cH}{fd:cS}{N ps:List Str}{k:Nat}{sp:Sp}(F:xZ K x b st f fd)(S:fS N ps (dv st))(len:∀ vs H Q E,sp vs H Q E->vs.length=ps.length)(d:∀(c:cF) (A:cJ) (a:List Env) (s:cG) (H:Hp) (vs:List V) (Q:VK) (E:XK),fb k (A.deeper (envOfC b (dv st) s.heap.objs.size f c))->sp vs H Q E ->
   ∃t,uq (mD uh P w K mg base N b (dv st) f c A a s H E).nox (eK st) t/\t {nx:=λ_ H'=>Q .non H',rt:=Q} (start N vs) H):k3 P w K mg base uh (k+1) f fd ps sp:=by
 obtain⟨r,n,kV,i,o,p,c,ct,l,rfl,j,e⟩:=F.ex;refine Ij j e S len λA a s H vs Q E m g=>?_;obtain⟨t,h,q⟩:=d c A a s H vs Q E m g;exact⟨t,h.nox,q⟩
theorem xZ.binds{x a:Str}{st:cT}{f:cH}{fd:cS}{ps:List Str}(F:xZ K x a st f fd)(h:∀(kV b d:cF) (e:Option cH) (c ct:cF) (us:List cF),us.length=ps.length->bindArgs (wF1 x a (gW st) (eK st) (dv st) .none kV b d e c ct) ⟨us,[]⟩=pure (ps.zip us)):jK K fd ps []:=by
 obtain⟨l,k,kV,b,d,e,c,ct,i,rfl,j,g⟩:=F.ex;exact .all (h kV b d e c ct)
theorem Aq{x a:Str}{st:cT}{f:cH}{j:cF}{i h:Option cH}{e:Array (Option cF)}{kV d g b ct:cF}(l:K.lookup f=Z ⟨j,i,.func (wF1 x a (gW st) (eK st) (dv st) .none kV d g h b ct),e⟩)(c:wC1 K b a=M)(k:wK1 K (.ref f)=M):xZ K x a st f (wF1 x a (gW st) (eK st) (dv st) .none kV d g h b ct):=⟨⟨j,i,kV,d,g,h,b,ct,e,O,l,c⟩,k⟩
end
variable{X:Cx}
def ue(H H':Hp):Prop:=∀b o,H b=Z o->H' b=Z o
theorem ue.trans{H H1 H2:Hp}(a:ue H H1)(b:ue H1 H2):ue H H2:=λc o h=>b c o (a c o h)
theorem ue.free{H H':Hp}(e:ue H H'){l:cH}(h:H' l=Option.none):H l=Option.none:=by
 cases q:H l with
 |none=>rfl
 |some o=>
  rw[e l o q]at h;cases h
theorem ue.seq{K:Fg1}{H H':Hp}{a:cH}{xs:List V}(e:ue H H')(h:k4 K H a xs):k4 K H' a xs:=by
 rcases h with(h|⟨o,h⟩)|h
 ·exact .inl (.inl (e _ _ h))
 ·exact .inl (.inr ⟨o,e _ _ h⟩)
 ·exact .inr h
section
variable{κ:Type} [DecidableEq κ]
noncomputable def ib(kvs:List (κ×V))(k:κ):Option V:=(kvs.find? λkv=>decide (kv.1=k)).map (·.2)
noncomputable def hW(kvs:List (κ×V))(k:κ)(v:V):List (κ×V):=
 if(kvs.any λkv=>decide (kv.1=k))=M then kvs.map (λkv=>if kv.1=k then(kv.1,v)else kv)else kvs++[(k,v)]
noncomputable def DO(kvs:List (κ×V))(k:κ):List (κ×V):=kvs.filter λkv=>decide (kv.1≠k)
theorem m6{p:κ×V}{r:List (κ×V)}{k:κ}(e:p.1=k):ib (p::r) k=Z p.2:=by simp[ib,aW,e]
theorem m7{p:κ×V}{r:List (κ×V)}{k:κ}(e:¬ p.1=k):ib (p::r) k=ib r k:=by simp[ib,aW,e]
theorem sb(k:κ):∀kvs:List (κ×V),(kvs.any λa=>decide (a.1=k))=(ib kvs k).isSome
 |[]=>rfl
 |p::r=>by
  rw[aX];by_cases e:p.1=k
  ·simp only[m6 e,ah e,Bool.true_or,Option.isSome_some]
  ·rw[m7 e,ai e,Bool.false_or];exact sb k r
theorem i0(kvs:List (κ×V))(k:κ)(v:V):(hW kvs k v).length<=kvs.length+1:=by
 unfold hW;split
 ·rw[lM1];lia
 ·rw[lA1,lC1,aY];lia
theorem lE.isSome_eq{o:Option V}{u:Option cF}(r:lE o u):o.isSome=u.isSome:=by
 cases o with
 |none=>cases u with
  |none=>rfl
  |some _=>exact(show False from r).elim
 |some _=>cases u with
  |none=>exact(show False from r).elim
  |some _=>rfl
theorem lE.getD{o:Option V}{u:Option cF}{d:V}{d':cF}(r:lE o u)(a:dn d d'):dn (o.getD d) (u.getD d'):=by
 cases o with
 |none=>cases u with
  |none=>exact a
  |some _=>exact(show False from r).elim
 |some _=>cases u with
  |none=>exact(show False from r).elim
  |some _=>exact r
theorem KV.val{kvs:List (κ×V)}{vs:List (κ×cF)}(r:KV kvs vs)(k:κ):lE (ib kvs k) (valueAt vs k):=by
 unfold KV at r
 induction r with
 |nil=>exact True.intro
 | @cons p q ps a h t ih=>
  obtain⟨h1,h2⟩:=h;by_cases e:p.1=k
  ·have c:q.1=k:=h1.symm.trans e;have b:valueAt (q::a) k=Z q.2:=by simp[valueAt,aW,c]
   rw[m6 e,b];exact h2
  ·have c:¬ q.1=k:=λz=>e (h1.trans z);have b:valueAt (q::a) k=valueAt a k:=by simp[valueAt,aW,c]
   rw[m7 e,b];exact ih
theorem KV.any{kvs:List (κ×V)}{vs:List (κ×cF)}(r:KV kvs vs)(k:κ):(kvs.any λa=>decide (a.1=k))=vs.any λa=>decide (a.1=k):=by
 unfold KV at r
 induction r with
 |nil=>rfl
 |cons h t ih=>rw[aX,aX,ih,h.1]
theorem KV.repl{kvs:List (κ×V)}{vs:List (κ×cF)}(r:KV kvs vs)(k:κ){y:V}{u:cF}(b:dn y u):
  KV (kvs.map λa=>if a.1=k then(a.1,y)else a) (vs.map λa=>if a.1=k then(a.1,u)else a):=by
 unfold KV at r ⊢
 induction r with
 |nil=>exact .nil
 | @cons p q ps c h t ih=>
  rw[mP1,mP1];refine .cons ?_ ih;obtain⟨h1,h2⟩:=h;by_cases e:p.1=k
  ·rw[ak e,ak (h1.symm.trans e)];exact⟨h1,b⟩
  ·rw[aj e,aj (λz=>e (h1.trans z))];exact⟨h1,h2⟩
theorem KV.put{kvs:List (κ×V)}{vs:List (κ×cF)}(r:KV kvs vs)(k:κ){y:V}{u:cF}(a:dn y u):KV (hW kvs k y) (stored vs k u):=by
 unfold hW stored;rw[r.any k];by_cases e:(vs.any λb=>decide (b.1=k))=M
 ·rw[ak e,ak e];exact r.repl k a
 ·rw[aj e,aj e];exact Paired.snoc r ⟨O,a⟩
theorem KV.drop{kvs:List (κ×V)}{vs:List (κ×cF)}(r:KV kvs vs)(k:κ):KV (DO kvs k) (without vs k):=by
 unfold KV at r ⊢;unfold DO without
 induction r with
 |nil=>exact .nil
 | @cons p q ps d h t ih=>
  obtain⟨h1,h2⟩:=h;rw[aZ,aZ];by_cases e:p.1=k
  ·have a:¬ decide (p.1≠k)=M:=by simp[e]
   have b:¬ decide (q.1≠k)=M:=by simp[h1.symm.trans e]
   rw[aj a,aj b];exact ih
  ·have c:¬ q.1=k:=λz=>e (h1.trans z);have a:decide (p.1≠k)=M:=by simp[e]
   have b:decide (q.1≠k)=M:=by simp[c]
   rw[ak a,ak b];exact .cons ⟨h1,h2⟩ ih
theorem KV.length{kvs:List (κ×V)}{vs:List (κ×cF)}(r:KV kvs vs):kvs.length=vs.length:=Paired.length r
end
theorem pr{P:cI}{w:cK}{k:Key}{u:cF}(r:dn (kV k) u):(ez P w).is k u=M:=by
 cases k with
 |inl i=>obtain⟨t,e⟩:=(show∃t,u=Value.int i t from r);subst e;exact sZ P w i t
 |inr x=>obtain⟨t,e⟩:=(show∃t,u=Value.str x t from r);subst e;exact sY P w x t
theorem pu{P:cI}{w:cK}:∀{ks:List Key} {us:List cF},dF (ks.map kV) us->ItemsAre (ez P w) ks us
 |[],_,r=>by rw[aV]at r;cases r;exact .nil
 |k::ks,_,r=>by
  rw[mP1]at r;cases r with
  |cons h t=>exact .cons (pr h) (pu t)
abbrev KT(H:Hp):List (List Key×V)->List (List Key×cH×cF)->Prop:=Paired λp q=>p.1=q.1/\H q.2.1=Z (.tup (p.1.map kV))/\dn p.2 q.2.2
theorem KT.val{H:Hp}{kvs:List (List Key×V)}{xs:List (List Key×cH×cF)}(r:KT H kvs xs)(k:List Key):lE (ib kvs k) ((atKey xs k).map (·.2)):=by
 induction r with
 |nil=>exact True.intro
 | @cons p q ps a h t ih=>
  obtain⟨h1,_,h2⟩:=h;by_cases e:p.1=k
  ·have c:q.1=k:=h1.symm.trans e;have b:atKey (q::a) k=Z q.2:=by simp[atKey,aW,c]
   rw[m6 e,b];exact h2
  ·have c:¬ q.1=k:=λz=>e (h1.trans z);have b:atKey (q::a) k=atKey a k:=by simp[atKey,aW,c]
   rw[m7 e,b];exact ih
theorem KT.repl{H:Hp}{kvs:List (List Key×V)}{xs:List (List Key×cH×cF)}(r:KT H kvs xs)(k:List Key){y:V}{u:cF}(c:dn y u):
  KT H (kvs.map λa=>if a.1=k then(a.1,y)else a) (xs.map (putAt k u)):=by
 induction r with
 |nil=>exact .nil
 | @cons p q ps d h t ih=>
  rw[mP1,mP1];refine .cons ?_ ih;obtain⟨h1,h2,b⟩:=h;unfold putAt;by_cases e:p.1=k
  ·rw[ak e,ak (h1.symm.trans e)];exact⟨h1,h2,c⟩
  ·rw[aj e,aj (λz=>e (h1.trans z))];exact⟨h1,h2,b⟩
theorem KT.put{H:Hp}{kvs:List (List Key×V)}{xs:List (List Key×cH×cF)}(r:KT H kvs xs)(k:List Key){b:cH}{y:V}{u:cF}(hb:H b=some (.tup (k.map kV)))(a:dn y u):
  KT H (hW kvs k y) (storedH xs k b u):=by
 have e:(kvs.any λc=>decide (c.1=k))=(atKey xs k).isSome:=by
  rw[sb,(r.val k).isSome_eq,a0]
 unfold hW storedH;rw[e];by_cases q:(atKey xs k).isSome=M
 ·rw[ak q,ak q];exact r.repl k a
 ·rw[aj q,aj q];exact Paired.snoc r ⟨O,hb,a⟩
theorem KT.keeps{H H':Hp}{kvs:List (List Key×V)}{xs:List (List Key×cH×cF)}(r:KT H kvs xs)(ht:∀b ys,H b=Z (.tup ys)->H' b=Z (.tup ys)):KT H' kvs xs:=
 Paired.mapP r λ_ _ z=>⟨z.1,ht _ _ z.2.1,z.2.2⟩
section
variable{P:cI}{w:cK}{H:Hp}{h:cR}{a:cH}
theorem DB{u:HO}(ok:j4 P w H h)(e:Rd H a u):dZ P w H h a u:=e.ok ok
theorem pF{kvs:List (Key×V)}(ok:j4 P w H h)(e:Rd H a (.dK kvs)):kvs.length<=cO/\(a == sysModules)=J /\ ∃vs,KV kvs vs/\h.DictOf (ez P w) a vs:=
 show dZ P w H h a (.dK kvs)from DB ok e
theorem AH{kvs:List (Key×V)}(ok:j4 P w H h)(e:H a=Z (.dK kvs)):kvs.length<=cO/\(a == sysModules)=J /\ ∃vs,KV kvs vs/\h.DictOf (ez P w) a vs:=pF ok (.inl e)
theorem nQ{ks:List Key}(ok:j4 P w H h)(e:H a=Z (.tup (ks.map kV))):(tupleKind (ez P w)).is h ks a:=by
 obtain⟨_,b,r,o,h1,h2,n,c⟩:=(show dZ P w H h a (.tup (ks.map kV))from ok a _ e);exact⟨o,b.toArray,n,h1,h2,c,by simpa using pu r⟩
theorem tJ{kvs:List (List Key×V)}(ok:j4 P w H h)(e:Rd H a (.dT kvs)):kvs.length<=cO/\(a == sysModules)=false /\
  ∃xs,KT H kvs xs/\h.DictOfH (tupleKind (ez P w)) a xs:=by
 obtain⟨z,y,xs,r,o,es,ep,h1,h2,d,g,f⟩:=(show dZ P w H h a (.dT kvs)from DB ok e);refine⟨z,y,xs,r,o,es,ep,h1,h2,d,g,λx b=>?_,f⟩;have all:∀{l:List (List Key×V)} {m:List (List Key×cH×cF)},KT H l m -> ∀x∈m,(tupleKind (ez P w)).is h x.1 x.2.1:=by
  intro l m q
  induction q with
  |nil=>intro x b;exact nomatch b
  | @cons p q ps i c t ih=>
   intro x b;rcases aD.mp b with e|b
   ·subst e;exact nQ ok (by rw[<- c.1];exact c.2.1)
   ·exact ih x b
 exact all r x b
theorem Iq{kvs:List (List Key×V)}(ok:j4 P w H h)(e:H a=some (.dT kvs)):kvs.length<=cO/\(a == sysModules)=false /\
  ∃xs,KT H kvs xs/\h.DictOfH (tupleKind (ez P w)) a xs:=tJ ok (.inl e)
end
def oP(H:Hp)(a:cH)(y:V)(r:Option V):Prop:=
 (∃kvs k,Rd H a (.dK kvs)/\y=kV k/\r=ib kvs k) \/ ∃kvs k b,Rd H a (.dT kvs)/\y = .ref b/\H b=Z (.tup (k.map kV))/\r=ib kvs k
def xV(H:Hp)(a:cH)(y v:V)(H':Hp):Prop:=
 (∃kvs k,H a=Z (.dK kvs)/\y=kV k/\kvs.length<cO/\H'=upd H a (.dK (hW kvs k v))) \/
 ∃kvs k b,H a=Z (.dT kvs)/\y = .ref b/\H b=Z (.tup (k.map kV))/\kvs.length<cO/\H'=upd H a (.dT (hW kvs k v))
theorem oP.k{H:Hp}{a:cH}{kvs:List (Key×V)}{k:Key}(e:H a=Z (.dK kvs)):oP H a (kV k) (ib kvs k):=.inl ⟨kvs,k,.inl e,O,O⟩
theorem oP.t{H:Hp}{a b:cH}{kvs:List (List Key×V)}{k:List Key}(e:H a=Z (.dT kvs))(c:H b=Z (.tup (k.map kV))):oP H a (.ref b) (ib kvs k):=.inr ⟨kvs,k,b,.inl e,O,c,O⟩
theorem xV.k{H:Hp}{a:cH}{kvs:List (Key×V)}{k:Key}{v:V}(e:H a=Z (.dK kvs))(b:kvs.length<cO):xV H a (kV k) v (upd H a (.dK (hW kvs k v))):=.inl ⟨kvs,k,e,O,b,O⟩
theorem xV.t{H:Hp}{a b:cH}{kvs:List (List Key×V)}{k:List Key}{v:V}(e:H a=some (.dT kvs))(c:H b=some (.tup (k.map kV)))(d:kvs.length<cO):
  xV H a (.ref b) v (upd H a (.dT (hW kvs k v))):=.inr ⟨kvs,k,b,e,O,c,d,O⟩
section
variable{ag:List (cH×Obj)}{σ:St}{H:Hp}{s:cG}{a:cH}{y v:V}{u r:cF}{o:Option V}{A:cJ}{E:cF->cG->Prop}
theorem Inv.big(I:Inv X ag σ H s):sysModules<s.heap.objs.size:=by
 have h:cM<s.heap.objs.size:=(I.mod.glob.keeps I.bk).lt;exact bc (by decide) h
theorem xA{Q:cF->cG->Prop}(x:A.units+1<cLine)(I:Inv X ag σ H s)(g:oP H a y (some v))(q:dn y u)(h:∀ f s',Inv X ag σ H s'->dn v f->Q f s'):
  cP (model X.prog X.w) A (getItem (.ref a) u) Q E s:=by
 rcases g with⟨kvs,k,e,j,l⟩|⟨kvs,k,b,e,j,w,l⟩
 ·subst j;obtain⟨z,t,vs,d,i⟩:=pF I.hok e;obtain⟨f,m,c⟩:=lE.some_of (v:=v) (o:=valueAt vs k) (by rw[l];exact d.val k);exact wpAny_getItem_of (pr q) i.mapOf m (h f _ (I.tok _) c)
 ·subst j;cases(show u=Value.ref b from q);obtain⟨z,t,xs,d,i⟩:=tJ I.hok e;obtain⟨f,m,c⟩:=lE.some_of (v:=v) (o:=(atKey xs k).map (·.2)) (by rw[l];exact d.val k);obtain⟨p,r,n⟩:=oM1.mp m;refine wpAny_getItem_heap (tupleKind_room_in1 x) (nQ I.hok w) i r ?_;rw[n];exact h f _ (I.tok _) c
theorem JZ{Q:cF->cG->Prop}(n:A.units+1<cLine)(I:Inv X ag σ H s)(g:oP H a y o)(j:dn y u)(h:∀ s',Inv X ag σ H s'->Q (.bool o.isSome) s'):
  cP (model X.prog X.w) A (compareOp .In u (.ref a)) Q E s:=by
 rcases g with⟨kvs,k,e,i,l⟩|⟨kvs,k,b,e,i,m,l⟩
 ·subst i;obtain⟨z,d,vs,c,f⟩:=pF I.hok e;refine wpAny_in_of (pr j) d f.mapOf ?_;rw[<- (c.val k).isSome_eq,<- l];exact h _ (I.tok _)
 ·subst i;cases(show u=Value.ref b from j);obtain⟨z,d,xs,c,f⟩:=tJ I.hok e;refine wpAny_in_heap (tupleKind_room_in1 n) (nQ I.hok m) d f ?_;have q:=(c.val k).isSome_eq;rw[a0]at q;rw[<- q,<- l];exact h _ (I.tok _)
theorem C6{Q:cF->cG->Prop}(n:A.units+1<cLine)(I:Inv X ag σ H s)(g:oP H a y o)(j:dn y u)(h:∀ s',Inv X ag σ H s'->Q (.bool (!o.isSome)) s'):
  cP (model X.prog X.w) A (compareOp .NotIn u (.ref a)) Q E s:=by
 rcases g with⟨kvs,k,e,i,l⟩|⟨kvs,k,b,e,i,m,l⟩
 ·subst i;obtain⟨z,d,vs,c,f⟩:=pF I.hok e;refine wpAny_notIn_of (pr j) d f.mapOf ?_;rw[<- (c.val k).isSome_eq,<- l];exact h _ (I.tok _)
 ·subst i;cases(show u=Value.ref b from j);obtain⟨z,d,xs,c,f⟩:=tJ I.hok e;refine wpAny_notIn_heap (tupleKind_room_in1 n) (nQ I.hok m) d f ?_;have q:=(c.val k).isSome_eq;rw[a0]at q;rw[<- q,<- l];exact h _ (I.tok _)
theorem jm{h':cR}{t':Nat}{c:HO}(I:Inv X ag σ H s)(mu:Mut (H a))(hs:Heap.SameBut a s.heap h')(he:∃ q,h'.get? a=some q)(new:dZ X.prog X.w (upd H a c) h' a c):
  Inv X ag σ (upd H a c) {s with heap:=h',toks:=t'}:=
 I.write (x:=a) (e:=a) mu (.inl O) (λb q d z=>(hs.2 b d).trans z) he new
theorem AI{P:cI}{w:cK}{H':Hp}{h':cR}{kvs:List (Key×V)}{vs:List (Key×cF)}(z:kvs.length<=cO)(hd:(a == sysModules)=false)(b:KV kvs vs)(c:h'.DictOf (ez P w) a vs):
  dZ P w H' h' a (.dK kvs):=⟨z,hd,vs,b,c⟩
theorem xz{H':Hp}{Q:Unit->cG->Prop}(L:A.units+1<cLine)(I:Inv X ag σ H s)(g:xV H a y v H')(x:dn y u)(B:dn v r)(h:∀ s',Inv X ag σ H' s'->Q () s'):
  cP (model X.prog X.w) A (setItem (.ref a) u r) Q E s:=by
 rcases g with⟨kvs,k,e,w,l,m⟩|⟨kvs,k,b,e,w,C,l,m⟩
 ·subst w m;obtain⟨z,p,vs,d,n⟩:=AH I.hok e;have o:vs.length<=cO:=by rw[<- d.length];exact z
  have t:(hW kvs k v).length<=cO:=by have:=i0 kvs k v;lia
  refine wpAny_setItem_pairs (hsz:=o) (pr x) n λh' f j=>h _ ?_;have K:∃q,h'.get? a=Z q:=let ⟨q,_,_,i,_⟩:=f;⟨q,i⟩
  exact jm I (by rw[e];exact True.intro) j K (AI t p (d.put k B) f)
 ·subst w m;cases(show u=Value.ref b from x);obtain⟨z,p,xs,d,n⟩:=Iq I.hok e;have o:xs.length<=cO:=by rw[<- Paired.length d];exact z
  have t:(hW kvs k v).length<=cO:=by have:=i0 kvs k v;lia
  refine wpAny_setItem_heap (hsz:=o) (tupleKind_room_in1 L) (nQ I.hok C) n λh' f j=>h _ ?_;obtain⟨q,es,ep,i,h2,F,am,_,G⟩:=f;refine jm I (by rw[e];exact True.intro) j ⟨q,i⟩ ⟨t,p,_,(d.put k C B).keeps λc ys D=>?_,q,es,ep,i,h2,F,am,G⟩;rw[c5 (HI D e (λz=>nomatch z))];exact D
end
section
variable{ag:List (cH×Obj)}{σ:St}{H:Hp}{s:cG}{a:cH}{kvs:List (Key×V)}{k:Key}{u:cF}{A:cJ}{E:cF->cG->Prop}
theorem Iv{Q:cF->cG->Prop}(I:Inv X ag σ H s)(e:Rd H a (.dK kvs))(h:∀t s',Inv X ag σ H s'->Q (.int kvs.length t) s'):cP (model X.prog X.w) A (call (.builtin "len") [.ref a]) Q E s:=by
 obtain⟨z,c,vs,b,d⟩:=pF I.hok e;refine call_len_dict c d (by rw[<- b.length];rw[sizeLine_eq]at z;lia) ?_;rw[<- b.length];exact h _ _ (I.tok _)
end
theorem tN{X:Cx}{ag:List (cH×Obj)}{σ:St}{H:Hp}{s:cG}{a:cH}{y:V}{o:Option V}(I:Inv X ag σ H s)(g:oP H a y o):s.TypeIs (.ref a) "dict":=by
 rcases g with⟨kvs,k,e,_,_⟩|⟨kvs,k,b,e,_,_,_⟩
 ·obtain⟨_,_,vs,_,c⟩:=pF I.hok e;exact c.typeIs
 ·obtain⟨_,_,xs,_,c⟩:=tJ I.hok e;exact c.typeIs
section
variable{o i e value:Expr}{pos pos' tpos:Pos}{td ty tv:TE}
end
theorem tL{P:cI}{w:cK}{H:Hp}(h:cR)(hb:sysModules<h.objs.size):dZ P w H (h.push {cls:=.type "dict",data:=.dict #[]}) h.objs.size (.dK []):=
 ⟨bf _,beq_eq_false_iff_ne.mpr (Ne.symm (nN1 hb)),[],.nil,Heap.DictOf.new h⟩
def Ei:TE:=λ_ H Q=>∀p,H p=Y->Q (.ref p) (upd H p (.dK []))
section
variable{pos:Pos}
theorem zl:PE X (.Dict [] [] pos) Ei:=λag s σ H Q I h=>
 wpAny_Dict_empty ⟨.ref s.heap.objs.size,_,I.laid (a:=s.heap.objs.size) (o:=.dK []) (t':=s.toks) (λ_ _ q=>hP1 _ q) (nR1 _) (tL s.heap I.big),O,h _ (I.hok.fresh (nR1 _))⟩
end
def p9:List (TE×TE)->St->Hp->(List (V×V)->Hp->Prop)->Prop
 |[],_,H,Q=>Q [] H
 |(tk,tv)::r,σ,H,Q=>tk σ H λx H1=>tv σ H1 λy H2=>p9 r σ H2 λps H3=>Q ((x,y)::ps) H3
abbrev VV:List (V×V)->List (cF×cF)->Prop:=Paired λp q=>dn p.1 q.1/\dn p.2 q.2
def IG(X:Cx)(pos:Pos)(keys:List (Option Expr))(values:List Expr)(trs:List (TE×TE)):Prop:=
 ∀(ag:List (cH×Obj)) (s:cG) (σ:St) (H:Hp) (Q:List (V×V)->Hp->Prop),Inv X ag σ H s->p9 trs σ H Q ->
  cP (model X.prog X.w) X.A (evalPairs (pairTrees keys values X.env pos)) (λvs s'=>∃ps H',Inv X ag σ H' s'/\VV ps vs/\Q ps H') X.xe s
theorem BU{X:Cx}{pos:Pos}:IG X pos [] [] []:=λag s σ H Q I h=>pairTrees_nil_walk ⟨[],H,I,.nil,h⟩
theorem za{X:Cx}{pos:Pos}{k v:Expr}{ks:List (Option Expr)}{vs:List Expr}{tk tv:TE}{a:List (TE×TE)}(hk:PE X k tk)(hv:PE X v tv)(hr:IG X pos ks vs a):
  IG X pos (Z k::ks) (v::vs) ((tk,tv)::a):=λag s σ H Q I h=>
 pairTrees_cons_walk (eu (hk ag s σ H _ I h) λu o ⟨x,H1,f,l,m⟩=>eu (hv ag o σ H1 _ f m) λp e ⟨y,H2,g,j,n⟩=>
  eu (hr ag e σ H2 _ g n) λws q ⟨ps,d,i,b,c⟩=>⟨(x,y)::ps,d,i,.cons ⟨l,j⟩ b,c⟩)
def il(kvs more:List (Key×V)):List (Key×V):=more.foldl (λacc kv=>hW acc kv.1 kv.2) kvs
theorem KV.merge:∀{more:List (Key×V)} {rs:List (Key×cF)} {kvs:List (Key×V)} {vs:List (Key×cF)},KV more rs->KV kvs vs->KV (il kvs more) (merged vs rs):=by
 intro more rs kvs vs r;unfold KV at r
 induction r generalizing kvs vs with
 |nil=>intro q;exact q
 | @cons p q ps b h t ih=>
  intro a;have e:KV (hW kvs p.1 p.2) (stored vs q.1 q.2):=by
   have:=a.put p.1 h.2;rw[<- h.1];exact this
  exact ih e
theorem jE:∀(more kvs:List (Key×V)),(il kvs more).length<=kvs.length+more.length
 |[],kvs=>by show kvs.length<=kvs.length+0;lia
 |p::r,kvs=>by
  have h1:=jE r (hW kvs p.1 p.2);have h2:=i0 kvs p.1 p.2;show(il (hW kvs p.1 p.2) r).length<=_;rw[lC1];lia
theorem om{P:cI}{w:cK}:∀{kvs:List (Key×V)} {ws:List (cF×cF)},VV (kvs.map λd=>(kV d.1,d.2)) ws -> ∃rs,Carries (ez P w) ws rs/\KV kvs rs
 |[],_,r=>by rw[aV]at r;cases r;exact⟨[],True.intro,.nil⟩
 |p::kvs,_,r=>by
  rw[mP1]at r;cases r with
  | @cons a b as bs h t=>
   obtain⟨rs,c,q⟩:=om (P:=P) (w:=w) t;obtain⟨b1,b2⟩:=b;exact⟨(p.1,b2)::rs,⟨pr h.1,O,c⟩,.cons ⟨O,h.2⟩ q⟩
def Hc(trs:List (TE×TE)):TE:=fun σ H Q=>∀p,H p=Y->p9 trs σ (upd H p (.dK [])) λps H2=>H2 p=Z (.dK []) /\ ∃kvs:List (Key×V),ps=kvs.map (λkv=>(kV kv.1,kv.2))/\kvs.length<=15/\Q (.ref p) (upd H2 p (.dK (il [] kvs)))
theorem B3{X:Cx}{pos:Pos}{keys:List (Option Expr)}{values:List Expr}{b:List (TE×TE)}(h:IG X pos keys values b)(f:keys.all (·.isSome)=M)(y:keys.length=values.length)(u:keys≠[])(g:keys.length<=15):PE X (.Dict keys values pos) (Hc b):=by
 intro ag s σ H Q I q;have r:=I.hok.fresh (nR1 s.heap.objs.size);have k:=I.laid (a:=s.heap.objs.size) (o:=.dK []) (h':=s.heap.push {cls:=.type "dict",data:=.dict #[]}) (t':=s.toks) (λ_ _ q=>hP1 _ q) (nR1 _) (tL s.heap I.big);refine wpAny_Dict_walk (knd:=ez X.prog X.w) f y u g (eu (h ag _ σ _ _ k (q _ r)) λws C ⟨ps,H2,j,i,e,kvs,ep,B,n⟩=>?_);subst ep;obtain⟨rs,c,rk⟩:=om (P:=X.prog) (w:=X.w) i;obtain⟨z,x,m,A,t⟩:=AH j.hok e;cases A;refine⟨rs,c,t,λh' d l=>⟨.ref s.heap.objs.size,_,?_,O,n⟩⟩;have v:(il [] kvs).length<=cO:=by
  have h1:=jE kvs [];rw[aY]at h1;rw[sizeLine_eq];lia
 have p:∃q,h'.get? s.heap.objs.size=Z q:=let ⟨q,_,_,hq,_⟩:=d;⟨q,hq⟩
 exact jm j (by rw[e];exact True.intro) l p (AI v x (rk.merge .nil) d)
section
variable{ag:List (cH×Obj)}{σ:St}{H:Hp}{s:cG}{a:cH}{y d:V}{u r:cF}{o:Option V}{A:cJ}{E:cF->cG->Prop}
end
section
variable{o e f:Expr}{apos cpos:Pos}{td ty tx:TE}
end
section
variable{ag:List (cH×Obj)}{σ:St}{H:Hp}{s:cG}{a:cH}{kvs:List (Key×V)}{A:cJ}{E:cF->cG->Prop}
end
section
variable{ag:List (cH×Obj)}{σ:St}{H:Hp}{s:cG}{a:cH}{y:V}{u:cF}{A:cJ}{E:cF->cG->Prop}
end
end L2
namespace Mi
open PySem PySem.Spec PyProof.Rows L2
inductive TK where
 |non|int (i:Int)|tup (xs:List TK)
instance:DecidableEq TK:=λ_ _=>Classical.propDecidable _
mutual
noncomputable def TK.hash:TK->Int
 | .non=>0xFCA86420
 | .int i=>hashInt i
 | .tup xs=>reduceHash (Builtin.Tuple.tupleHashOf (TK.hashes xs))
noncomputable def TK.hashes:List TK->List Int
 |[]=>[]
 |x::xs=>TK.hash x::TK.hashes xs
end
mutual
noncomputable def TK.draws:TK->Nat
 | .non=>1
 | .int _=>1
 | .tup xs=>TK.drawsAll xs+1
noncomputable def TK.drawsAll:List TK->Nat
 |[]=>0
 |x::xs=>TK.draws x+TK.drawsAll xs
end
mutual
noncomputable def TK.dep:TK->Nat
 | .non=>0
 | .int _=>0
 | .tup xs=>TK.depAll xs+1
noncomputable def TK.depAll:List TK->Nat
 |[]=>0
 |x::xs=>max (TK.dep x) (TK.depAll xs)
end
theorem TK.dep_mem:∀{xs:List TK} {x:TK},x∈xs->x.dep<=TK.depAll xs
 |y::ys,x,h=>by
  rw[TK.depAll];rcases aD.mp h with e|e
  ·rw[e];exact Nat.le_max_left _ _
  ·exact aB (TK.dep_mem e) (Nat.le_max_right _ _)
theorem TK.hashes_app:∀a b:List TK,TK.hashes (a++b)=TK.hashes a++TK.hashes b
 |[],_=>rfl
 |x::xs,b=>by rw[bg,TK.hashes,TK.hashes,TK.hashes_app xs b];rfl
theorem TK.draws_app:∀a b:List TK,TK.drawsAll (a++b)=TK.drawsAll a+TK.drawsAll b
 |[],_=>by simp[TK.drawsAll]
 |x::xs,b=>by rw[bg,TK.drawsAll,TK.drawsAll,TK.draws_app xs b,bh]
def vy(xs:Array Nat):Prop:=xs.toList.Pairwise (· < ·)
noncomputable def DA(m:Nat):Nat->Nat->Nat->List Nat
 |0,_,_=>[]
 |n+1,i,b=>List.range' i (SetTable.runEnd m i-i+1)++DA m n (SetTable.leap m i b).1 (SetTable.leap m i b).2
def KX(m:Nat):Prop:=m=7\/m=31\/m=127
def Jw(m:Nat)(h:Int):List Nat:=DA m (SetTable.turns m) (SetTable.bits h%(m+1)) (SetTable.bits h)
def Jy(m:Nat)(occ:List Nat)(h:Int)(j:Nat):Prop:=∃pre post,Jw m h=pre++j::post /\ ∀y∈pre,y∈occ
structure Jx (es:Array (Int×cF))(t:SetTable):Prop where
 mks:KX t.mask
 up:vy t.place
 du:t.dummies = #[]
 sz:t.place.size=es.size
 le:∀j∈t.place.toList,j<=t.mask
 fl:es.size<=t.mask
 rc:∀z∈t.place.toList.zip es.toList,Jy t.mask t.place.toList z.2.1 z.1
noncomputable def stO(es:Array (Int×cF))(ep:Nat)(t:SetTable):Obj:={cls:=.type "set",dict:=Y,data:=.set es ep t,slots:= #[]}
def IF(a:cH)(xs:List (TK×cH×cF))(h:cR):Prop:=(xs.map (·.1)).Nodup /\ ∃es ep t,h.get? a=Z (stO es ep t)/\Jx es t/\t.tooFull=J/\(∀e∈es.toList,∃z∈xs,e=(z.1.hash,.ref z.2.1))/\(∀z∈xs,(z.1.hash,Value.ref z.2.1)∈es.toList)/\es.size=xs.length
inductive D where
 |non|bl (b:Bool)|int (i:Int)|str (x:Str)|tup (xs:List D)|rol (xs:List D)|ref (n:Nat)|fn (x:Str)
inductive Ob where
 |lst (xs:List D)|dct (kvs:List (Key×D))|dcT (kvs:List (TK×D))|iset (xs:List Int)|dcF (kvs:List (TK×D))|tst (ks:List TK)
abbrev cZ:=List Ob
abbrev Ev:=List (Option D)
abbrev FE:=Ev->cZ->Option (D×cZ)
abbrev FT:=Ev->cZ->Option (Bool×cZ)
abbrev FA:=Ev->cZ->Option (List D×cZ)
abbrev FN:=List D->cZ->Option (D×cZ)
inductive Fl where
 |nx|rt (d:D)|bk|ct
abbrev FS:=Ev->cZ->Option (Fl×Ev×cZ)
def RoL(K:Fg1)(H:Hp)(a:cH)(xs:List V):Prop:=(∃o,H a=Z (.frz o (.lst xs))) \/
 ∃(o:Obj) (its:Array cF) (n:Nat),K.lookup a=Z o/\o.cls = .type "list"/\o.dict=Y/\o.data = .seq its n/\its.size<=cO/\dF xs its.toList
theorem RoL.sq{K:Fg1}{H:Hp}{a:cH}{xs:List V}(h:RoL K H a xs):k4 K H a xs:=h.elim (λ⟨o,q⟩=>.inl (.inr ⟨o,q⟩)) .inr
mutual
inductive d9 (K:Fg1)(H:Hp)(mu:List cH):D->V->Prop
 |non:d9 K H mu .non .non
 |bl (b:Bool):d9 K H mu (.bl b) (.bl b)
 |int (i:Int):d9 K H mu (.int i) (.int i)
 |str (x:Str):d9 K H mu (.str x) (.str x)
 |tup {ds:List D} {vs:List V} {a:cH} (h:jv K H a vs) (r:db K H mu ds vs):d9 K H mu (.tup ds) (.ref a)
 |rol {ds:List D} {vs:List V} {a:cH} (h:RoL K H a vs) (r:db K H mu ds vs):d9 K H mu (.rol ds) (.ref a)
 |ref {n:Nat} {a:cH} (h:mu[n]?=some a):d9 K H mu (.ref n) (.ref a)
 |fn {x:Str} {a:cH} (h:wN1 K cM x=some (some (.ref a))):d9 K H mu (.fn x) (.ref a)
inductive db (K:Fg1)(H:Hp)(mu:List cH):List D->List V->Prop
 |nil:db K H mu [] []
 |cons {d:D} {v:V} {ds:List D} {vs:List V} (r:d9 K H mu d v) (t:db K H mu ds vs):db K H mu (d::ds) (v::vs)
end
structure Ext (mu mu':List cH)(H H':Hp):Prop where
 pre:mu <+: mu'
 old:∀a o,H a=some o->a∉mu->H' a=some o
 tup:∀a xs,Rd H a (.tup xs)->Rd H' a (.tup xs)
 frz:∀a o u,H a=some (.frz o u)->H' a=some (.frz o u)
 new:∀a∈mu',a∈mu\/H a=none
theorem Ext.refl(mu:List cH)(H:Hp):Ext mu mu H H:=⟨bi,λ_ _ h _=>h,λ_ _ h=>h,λ_ _ _ h=>h,λ_ h=>.inl h⟩
theorem Ext.trans{mu m1 m2:List cH}{H H1 H2:Hp}(a:Ext mu m1 H H1)(b:Ext m1 m2 H1 H2):Ext mu m2 H H2 where
 pre:=a.pre.trans b.pre
 old:=λc o h n=>b.old c o (a.old c o h n) λz=>by
  rcases a.new c z with q|q
  ·exact n q
  ·rw[h]at q;cases q
 tup:=λc xs h=>b.tup c xs (a.tup c xs h)
 frz:=λc o u h=>b.frz c o u (a.frz c o u h)
 new:=λc h=>by
  rcases b.new c h with q|q
  ·exact a.new c q
  ·by_cases z:c∈mu
   ·exact .inl z
   ·right;cases e:H c with
    |none=>rfl
    |some o=>rw[a.old c o e z]at q;cases q
theorem Ext.at{mu mu':List cH}{H H':Hp}(e:Ext mu mu' H H'){n:Nat}{a:cH}(h:mu[n]?=Z a):mu'[n]?=Z a:=by
 obtain⟨t,rfl⟩:=e.pre;have b:n<mu.length:=(gE1.mp h).1;rw[gL1 b];exact h
theorem Ext.back{mu mu':List cH}{H H':Hp}(e:Ext mu mu' H H'):Ext mu mu H H':=⟨bi,e.old,e.tup,e.frz,λ_ h=>.inl h⟩
structure pS (mu mu':List cH)(H H':Hp):Prop where
 pre:mu <+: mu'
 tup:∀a xs,Rd H a (.tup xs)->Rd H' a (.tup xs)
 frz:∀a o u,H a=some (.frz o u)->H' a=some (.frz o u)
theorem Ext.w{mu mu':List cH}{H H':Hp}(e:Ext mu mu' H H'):pS mu mu' H H':=⟨e.pre,e.tup,e.frz⟩
theorem pS.trans{mu m1 m2:List cH}{H H1 H2:Hp}(a:pS mu m1 H H1)(b:pS m1 m2 H1 H2):pS mu m2 H H2:=⟨a.pre.trans b.pre,λc xs h=>b.tup c xs (a.tup c xs h),λc o u h=>b.frz c o u (a.frz c o u h)⟩
theorem pS.at{mu mu':List cH}{H H':Hp}(e:pS mu mu' H H'){n:Nat}{a:cH}(h:mu[n]?=Z a):mu'[n]?=Z a:=by
 obtain⟨t,rfl⟩:=e.pre;have b:n<mu.length:=(gE1.mp h).1;rw[gL1 b];exact h
structure x0 (mu mu':List cH)(H H':Hp):Prop where
 pre:mu <+: mu'
 tup:∀a xs,Rd H a (.tup xs)->Rd H' a (.tup xs)
 frl:∀a o xs,H a=some (.frz o (.lst xs))->H' a=some (.frz o (.lst xs))
theorem pS.v{mu mu':List cH}{H H':Hp}(e:pS mu mu' H H'):x0 mu mu' H H':=⟨e.pre,e.tup,λa o xs h=>e.frz a o _ h⟩
theorem Ext.v{mu mu':List cH}{H H':Hp}(e:Ext mu mu' H H'):x0 mu mu' H H':=e.w.v
theorem x0.at{mu mu':List cH}{H H':Hp}(e:x0 mu mu' H H'){n:Nat}{a:cH}(h:mu[n]?=Z a):mu'[n]?=Z a:=by
 obtain⟨t,rfl⟩:=e.pre;have b:n<mu.length:=(gE1.mp h).1;rw[gL1 b];exact h
theorem jv.exv{K:Fg1}{mu mu':List cH}{H H':Hp}{a:cH}{vs:List V}(e:x0 mu mu' H H')(h:jv K H a vs):jv K H' a vs:=by
 rcases h with h|h
 ·exact .inl (e.tup a vs h)
 ·exact .inr h
theorem RoL.exv{K:Fg1}{mu mu':List cH}{H H':Hp}{a:cH}{vs:List V}(e:x0 mu mu' H H')(h:RoL K H a vs):RoL K H' a vs:=by
 rcases h with⟨o,h⟩|h
 ·exact .inl ⟨o,e.frl a o _ h⟩
 ·exact .inr h
theorem d9.exv{K:Fg1}{mu mu':List cH}{H H':Hp}(e:x0 mu mu' H H'):∀ {d:D} {v:V},d9 K H mu d v->d9 K H' mu' d v:=fun h=>h.rec (motive_1:=fun d v _=>d9 K H' mu' d v) (motive_2:=fun ds vs _=>db K H' mu' ds vs)
  .non .bl .int .str (λh _ ih=>.tup (jv.exv e h) ih) (λh _ ih=>.rol (RoL.exv e h) ih) (λh=>.ref (e.at h)) (λh=>.fn h) .nil (λ_ _ a b=>.cons a b)
theorem db.ind{K:Fg1}{mu:List cH}{H:Hp}{P:(ds:List D)->(vs:List V)->db K H mu ds vs->Prop}(hn:P [] [] .nil)(hc:∀{d v ds vs} (r:d9 K H mu d v) (t:db K H mu ds vs),P ds vs t->P (d::ds) (v::vs) (.cons r t)){ds:List D}{vs:List V}(h:db K H mu ds vs):P ds vs h:=
 h.rec (motive_1:=λ_ _ _=>True) (motive_2:=P) trivial (λ_=>trivial) (λ_=>trivial) (λ_=>trivial) (λ_ _ _=>trivial) (λ_ _ _=>trivial) (λ_=>trivial) (λ_=>trivial) hn (λr t _ ih=>hc r t ih)
theorem db.exv{K:Fg1}{mu mu':List cH}{H H':Hp}(e:x0 mu mu' H H'):∀{ds:List D} {vs:List V},db K H mu ds vs->db K H' mu' ds vs:=λh=>h.ind (P:=λds vs _=>db K H' mu' ds vs) .nil λr _ ih=>.cons (d9.exv e r) ih
section
variable{K:Fg1}{mu mu':List cH}{H H':Hp}{a:cH}{vs:List V}
theorem d9.exw(e:pS mu mu' H H'){d:D}{v:V}(h:d9 K H mu d v):d9 K H' mu' d v:=h.exv e.v
theorem db.exw(e:pS mu mu' H H'){ds:List D}(h:db K H mu ds vs):db K H' mu' ds vs:=h.exv e.v
theorem d9.ext(e:Ext mu mu' H H'){d:D}{v:V}(h:d9 K H mu d v):d9 K H' mu' d v:=h.exv e.v
theorem db.ext(e:Ext mu mu' H H'){ds:List D}(h:db K H mu ds vs):db K H' mu' ds vs:=h.exv e.v
end
section
variable{K:Fg1}{H:Hp}{mu:List cH}
theorem db.length:∀{ds:List D} {vs:List V},db K H mu ds vs->ds.length=vs.length:=λh=>h.ind (P:=λds vs _=>ds.length=vs.length) O λ_ _ ih=>congrArg (· + 1) ih
theorem db.get:∀{ds:List D} {vs:List V} {i:Nat} {d:D},db K H mu ds vs->ds[i]?=Z d -> ∃v,vs[i]?=Z v/\d9 K H mu d v:=by
 intro ds vs i d h e
 induction h using db.ind generalizing i with
 |hn=>cases e
 |hc r t ih=>cases i with
  |zero=>cases e;exact⟨_,O,r⟩
  |succ i=>exact ih (i:=i) e
theorem db.getV:∀{ds:List D} {vs:List V} {i:Nat} {v:V},db K H mu ds vs->vs[i]?=Z v -> ∃d,ds[i]?=Z d/\d9 K H mu d v:=by
 intro ds vs i d h e
 induction h using db.ind generalizing i with
 |hn=>cases e
 |hc r t ih=>cases i with
  |zero=>cases e;exact⟨_,O,r⟩
  |succ i=>exact ih (i:=i) e
theorem db.append:∀{ds es:List D} {vs ws:List V},db K H mu ds vs->db K H mu es ws->db K H mu (ds++es) (vs++ws):=λh s=>h.ind (P:=λds vs _=>db K H mu (ds++_) (vs++_)) s λr _ ih=>.cons r ih
theorem db.take:∀{ds:List D} {vs:List V} (n:Nat),db K H mu ds vs->db K H mu (ds.take n) (vs.take n):=by
 intro ds vs n h
 induction h using db.ind generalizing n with
 |hn=>rw[av,av];exact .nil
 |hc r t ih=>cases n with
  |zero=>exact .nil
  |succ n=>exact .cons r (ih n)
theorem db.drop:∀{ds:List D} {vs:List V} (n:Nat),db K H mu ds vs->db K H mu (ds.drop n) (vs.drop n):=by
 intro ds vs n h
 induction h using db.ind generalizing n with
 |hn=>rw[aw,aw];exact .nil
 |hc r t ih=>cases n with
  |zero=>exact .cons r t
  |succ n=>exact ih n
theorem db.set{d:D}{v:V}(r:d9 K H mu d v):∀{ds:List D} {vs:List V} (i:Nat),db K H mu ds vs->db K H mu (ds.set i d) (vs.set i v):=by
 intro ds vs i h
 induction h using db.ind generalizing i with
 |hn=>exact .nil
 |hc q t ih=>cases i with
  |zero=>exact .cons r t
  |succ i=>exact .cons q (ih i)
theorem db.eraseIdx:∀{ds:List D} {vs:List V} (i:Nat),db K H mu ds vs->db K H mu (ds.eraseIdx i) (vs.eraseIdx i):=by
 intro ds vs i h
 induction h using db.ind generalizing i with
 |hn=>exact .nil
 |hc q t ih=>cases i with
  |zero=>exact t
  |succ i=>exact .cons q (ih i)
theorem db.reverse:∀{ds:List D} {vs:List V},db K H mu ds vs->db K H mu ds.reverse vs.reverse:=by
 intro ds vs h
 induction h using db.ind with
 |hn=>exact .nil
 |hc r t ih=>rw[aT,aT];exact db.append ih (.cons r .nil)
end
def KR{κ:Type}(K:Fg1)(H:Hp)(mu:List cH):List (κ×D)->List (κ×V)->Prop:=Paired λp q=>p.1=q.1/\d9 K H mu p.2 q.2
mutual
noncomputable def tkD:TK->D
 | .non=>.non
 | .int i=>.int i
 | .tup xs=>.tup (j9 xs)
noncomputable def j9:List TK->List D
 |[]=>[]
 |x::xs=>tkD x::j9 xs
end
def d5(a:cH)(xs:List (TK×cH×cF))(h:cR):Prop:=(a == sysModules)=J/\(xs.map (·.1)).Nodup /\ ∃o es ep,h.get? a=Z o/\o.ExactDict/\o.data = .dict es ep/\es.toList=xs.map λx=>(⟨x.1.hash,.ref x.2.1,x.2.2⟩:DictEntry)
def wC(a:cH)(xs:List (TK×cH×cF))(o:Obj):Prop:=(a == sysModules)=J/\(xs.map (·.1)).Nodup/\o.ExactDict /\ ∃es ep,o.data = .dict es ep/\es.toList=xs.map λx=>(⟨x.1.hash,.ref x.2.1,x.2.2⟩:DictEntry)
def KT(K:Fg1)(H:Hp)(mu:List cH):List (TK×D)->List (TK×cH×cF)->Prop:=Paired λp q=>p.1=q.1/\p.1.dep<=8/\d9 K H mu (tkD p.1) (.ref q.2.1) /\ ∃v,dn v q.2.2/\d9 K H mu p.2 v
def ObR(K:Fg1)(H:Hp)(mu:List cH)(a:cH):Ob->Prop
 | .lst ds=>∃vs,H a=Z (.lst vs)/\db K H mu ds vs
 | .dct kvs=>∃ws,H a=Z (.dK ws)/\KR K H mu kvs ws
 | .dcT kvs=>∃xs,H a=Z (.ext (d5 a xs))/\KT K H mu kvs xs/\xs.length<=cO
 | .iset xs=>H a=Z (.set (λk=>xs.contains k) xs.length)/\xs.Nodup
 | .dcF kvs=>∃xs,(∃o u,H a=Z (.frz o u)/\wC a xs o)/\KT K H mu kvs xs/\xs.length<=cO
 | .tst ks=>∃xs,H a=Z (.ext (IF a xs))/\KT K H mu (ks.map λk=>(k,D.non)) xs
structure Sim (K:Fg1)(H:Hp)(mu:List cH)(S:cZ):Prop where
 len:mu.length=S.length
 nd:mu.Nodup
 ob:∀(n:Nat) (o:Ob) (a:cH),S[n]?=some o->mu[n]?=some a->ObR K H mu a o
structure eI (K:Fg1)(H:Hp)(mu:List cH)(r:Ev)(σ:L2.St):Prop where
 len:r.length=σ.length
 val:∀(i:Nat) (d:D),r[i]?=some (some d) -> ∃v,σ[i]?=some (some v)/\d9 K H mu d v
theorem eI.ext{K:Fg1}{mu mu':List cH}{H H':Hp}{r:Ev}{σ:L2.St}(e:Ext mu mu' H H')(h:eI K H mu r σ):eI K H' mu' r σ:=⟨h.len,λi d q=>by
 obtain⟨v,b,a⟩:=h.val i d q;exact⟨v,b,a.ext e⟩⟩
theorem KR.ext{κ:Type}{K:Fg1}{mu mu':List cH}{H H':Hp}{ks:List (κ×D)}{ws:List (κ×V)}(e:Ext mu mu' H H')(h:KR K H mu ks ws):KR K H' mu' ks ws:=
 Paired.mapP h λ_ _ z=>⟨z.1,z.2.ext e⟩
theorem KT.ext{K:Fg1}{mu mu':List cH}{H H':Hp}{ks:List (TK×D)}{ws:List (TK×cH×cF)}(e:Ext mu mu' H H')(h:KT K H mu ks ws):KT K H' mu' ks ws:=
 Paired.mapP h λ_ _ ⟨z,d,k,v,a,r⟩=>⟨z,d,k.ext e,v,a,r.ext e⟩
theorem Sim.nil{K:Fg1}{H:Hp}:Sim K H [] []:=⟨O,bj,λn o a h=>by simp at h⟩
theorem Sim.here{K:Fg1}{H:Hp}{mu:List cH}{S:cZ}(s:Sim K H mu S){a:cH}(h:a∈mu):∃o,H a=Z o:=by
 obtain⟨n,b⟩:=bm h;have c:n<S.length:=by rw[<- s.len];exact(gE1.mp b).1
 have q:=s.ob n _ a (gG1 c) b;cases e:S[n]with
 |lst ds=>rw[e]at q;obtain⟨vs,z,_⟩:=q;exact⟨_,z⟩
 |dct ks=>rw[e]at q;obtain⟨vs,z,_⟩:=q;exact⟨_,z⟩
 |dcT ks=>rw[e]at q;obtain⟨vs,z,_⟩:=q;exact⟨_,z⟩
 |iset xs=>rw[e]at q;exact⟨_,q.1⟩
 |dcF ks=>rw[e]at q;obtain⟨vs,⟨_,_,z,_⟩,_⟩:=q;exact⟨_,z⟩
 |tst ks=>rw[e]at q;obtain⟨vs,z,_⟩:=q;exact⟨_,z⟩
def rW(K:Fg1)(mu:List cH)(H:Hp)(d:D)(S':cZ)(Q:VK):Prop:=∀v H' mu',Ext mu mu' H H'->d9 K H' mu' d v->Sim K H' mu' S'->Q v H'
inductive tM (K:Fg1)(m:FE)(σ:L2.St)(H:Hp)(Q:VK):Prop
 |mk (r:Ev) (mu:List cH) (S:cZ) (d:D) (S':cZ) (he:eI K H mu r σ) (hs:Sim K H mu S) (hm:m r S=some (d,S')) (hc:rW K mu H d S' Q)
inductive ui (K:Fg1)(m:FT)(σ:L2.St)(H:Hp)(Q:Bool->Hp->Prop):Prop
 |mk (r:Ev) (mu:List cH) (S:cZ) (b:Bool) (S':cZ) (he:eI K H mu r σ) (hs:Sim K H mu S) (hm:m r S=some (b,S')) (hc:∀H' mu',Ext mu mu' H H'->Sim K H' mu' S'->Q b H')
inductive Kn (K:Fg1)(m:FA)(σ:L2.St)(H:Hp)(Q:List V->Hp->Prop):Prop
 |mk (r:Ev) (mu:List cH) (S:cZ) (ds:List D) (S':cZ) (he:eI K H mu r σ) (hs:Sim K H mu S) (hm:m r S=some (ds,S')) (hc:∀vs H' mu',Ext mu mu' H H'->db K H' mu' ds vs->Sim K H' mu' S'->Q vs H')
def Jq(K:Fg1)(mu:List cH)(H:Hp)(r':Ev)(S':cZ)(E:gJ)(f:Fl):Prop:=match f with
 | .nx=>∀ σ' H' mu',Ext mu mu' H H'->eI K H' mu' r' σ'->Sim K H' mu' S'->E.nx σ' H'
 | .bk=>∀ σ' H' mu',Ext mu mu' H H'->eI K H' mu' r' σ'->Sim K H' mu' S'->E.bk σ' H'
 | .ct=>∀ σ' H' mu',Ext mu mu' H H'->eI K H' mu' r' σ'->Sim K H' mu' S'->E.ct σ' H'
 | .rt d=>rW K mu H d S' E.rt
inductive vM (K:Fg1)(m:FS)(E:gJ)(σ:L2.St)(H:Hp):Prop
 |mk (r:Ev) (mu:List cH) (S:cZ) (f:Fl) (r':Ev) (S':cZ) (he:eI K H mu r σ) (hs:Sim K H mu S) (hm:m r S=some (f,r',S')) (hc:Jq K mu H r' S' E f)
inductive rN (K:Fg1)(f:FN)(vs:List V)(H:Hp)(Q:VK):Prop
 |mk (mu:List cH) (S:cZ) (ds:List D) (d:D) (S':cZ) (hr:db K H mu ds vs) (hs:Sim K H mu S) (hm:f ds S=some (d,S')) (hc:rW K mu H d S' Q)
abbrev ME(X:Cx)(e:Expr)(m:FE):Prop:=PE X e (tM X.K m)
abbrev MT(X:Cx)(e:Expr)(m:FT):Prop:=PT X e (ui X.K m)
abbrev MW(X:Cx)(e:Expr)(m:FT):Prop:=PW X e (ui X.K m)
abbrev MA(X:Cx)(es:List Expr)(m:FA):Prop:=PA X es (Kn X.K m)
abbrev MS(X:Cx)(st:cT)(m:FS):Prop:=PS X st (vM X.K m)
abbrev xS(X:Cx)(st:List cT)(m:FS):Prop:=uq X st (vM X.K m)
variable{X:Cx}
section
variable{e:Expr}{es:List Expr}{st:cT}{sts:List cT}
theorem d3{t t':TE}(h:PE X e t)(i:∀ σ H Q,t' σ H Q->t σ H Q):PE X e t':=λag s σ H Q I q=>h ag s σ H Q I (i σ H Q q)
theorem uK{t t':TT}(h:PT X e t)(i:∀ σ H Q,t' σ H Q->t σ H Q):PT X e t':=λag s σ H Q I q=>h ag s σ H Q I (i σ H Q q)
theorem yX{t t':TT}(h:PW X e t)(i:∀ σ H Q,t' σ H Q->t σ H Q):PW X e t':=λa ag s σ H Q I q=>h a ag s σ H Q I (i σ H Q q)
theorem zq{t t':TA}(h:PA X es t)(i:∀ σ H Q,t' σ H Q->t σ H Q):PA X es t':=λpos ag s σ H Q I q=>h pos ag s σ H Q I (i σ H Q q)
theorem ga{t t':TS}(h:PS X st t)(i:∀E σ H,t' E σ H->t E σ H):PS X st t':=λag s σ H E I q=>h ag s σ H E I (i E σ H q)
theorem ql{t t':TS}(h:uq X sts t)(i:∀E σ H,t' E σ H->t E σ H):uq X sts t':=λag s σ H E I q=>h ag s σ H E I (i E σ H q)
end
noncomputable def mV (i:Nat):FE:=λr S=>match r[i]? with
 |some (some d)=>some (d,S)
 |_=>none
noncomputable def mC (d:D):FE:=λ_ S=>some (d,S)
section
variable{pos:Pos}
theorem FB (i:Nat){x:Str}(hN:X.N[i]?=Z x)(hv:Vis X.env.scope x)(hd:autoParam ((x == ("__debug__":Str))=J) bu0)(hcd:autoParam ((x == ("__classdict__":Str))=J) bu0):ME X (.Name x pos) (mV i):=
 d3 (EQ hN hv hd hcd) <| by
  rintro σ H Q ⟨r,mu,S,d,h,b,f,a,hc⟩;unfold mV at a;split at a
  ·rename_i d' e;cases a;obtain⟨v,c,g⟩:=b.val i _ e;exact⟨v,c,hc v H mu (.refl _ _) g f⟩
  ·cases a
theorem zQ{e:Expr}{v:V}(d:D)(h:PE X e (tC v))(hr:∀H mu,d9 X.K H mu d v):ME X e (mC d):=
 d3 h <| by
  rintro σ H Q ⟨r,mu,S,d',f,c,a,b,hc⟩;cases b;exact hc v H mu (.refl _ _) (hr H mu) a
theorem FM{i:Int}{j}:ME X (.Constant (.int i) j pos) (mC (.int i)):=zQ _ EY λ_ _=>.int i
theorem HQ{b:Bool}{j}:ME X (.Constant (.bool b) j pos) (mC (.bl b)):=zQ _ Hz λ_ _=>.bl b
theorem FK{j}:ME X (.Constant .none j pos) (mC .non):=zQ _ EV λ_ _=>.non
theorem FD{x:Str}{j}:ME X (.Constant (.str x) j pos) (mC (.str x)):=zQ _ ES λ_ _=>.str x
end
noncomputable def cW:FA:=λ_ S=>Z ([],S)
noncomputable def cV (m:FE)(n:FA):FA:=λr S=>(m r S).bind λp=>(n r p.2).bind λq=>some (p.1::q.1,q.2)
section
variable{pos:Pos}{e:Expr}{es:List Expr}{m:FE}{n:FA}
theorem FR:MA X [] cW:=zq lg <| by
 rintro σ H Q ⟨r,mu,S,ds,d,c,a,b,hc⟩;cases b;exact hc [] H mu (.refl _ _) .nil a
theorem Cz(h:ME X e m)(ht:MA X es n)(hs:autoParam (cN (e::es) X.env=(J,eval e X.env)::cN es X.env) cu0):MA X (e::es) (cV m n):=
 zq (ig h ht hs) <| by
  rintro σ H Q ⟨r,mu,S,ds,q,f,hs,a,hc⟩;unfold cV at a;obtain⟨⟨d,g⟩,k,a⟩:=oB1.mp a;obtain⟨⟨b,s⟩,l,a⟩:=oB1.mp a;cases a;refine⟨r,mu,S,d,g,f,hs,k,λv H1 mu1 i o p=>?_⟩;refine⟨r,mu1,g,b,_,f.ext i,p,l,λvs H2 c x2 r2 j=>?_⟩;exact hc _ H2 c (i.trans x2) (.cons (o.ext x2) r2) j
end
noncomputable def m2 (f:FN)(a b:FE):FE:=λr S=>(a r S).bind λp=>(b r p.2).bind λq=>f [p.1,q.1] q.2
noncomputable def m1 (f:FN)(a:FE):FE:=λr S=>(a r S).bind λp=>f [p.1] p.2
noncomputable def mN (f:FN)(a:FA):FE:=λr S=>(a r S).bind λp=>f p.1 p.2
abbrev r2(K:Fg1)(f:FN):R2:=λx y H Q=>rN K f [x,y] H Q
section
variable{K:Fg1}{f:FN}{a b:FE}{σ:L2.St}{H:Hp}{Q:VK}
theorem wa(h:tM K (m2 f a b) σ H Q):G6 (r2 K f) (tM K a) (tM K b) σ H Q:=by
 obtain⟨r,mu,S,d,y,k,p,c,hc⟩:=h;obtain⟨⟨i,m⟩,z,c⟩:=oB1.mp c;obtain⟨⟨n,l⟩,t,c⟩:=oB1.mp c;refine⟨r,mu,S,i,m,k,p,z,λv H1 mu1 j q s=>?_⟩;refine⟨r,mu1,m,n,l,k.ext j,s,t,λu H2 e x2 r2 B=>?_⟩;exact⟨e,l,[i,n],d,y,.cons (q.ext x2) (.cons r2 .nil),B,c,λv x g o A w=>hc v x g ((j.trans x2).trans o) A w⟩
theorem HU(h:tM K (m1 f a) σ H Q):Km (λx H Q=>rN K f [x] H Q) (tM K a) σ H Q:=by
 obtain⟨r,mu,S,d,j,i,p,b,hc⟩:=h;obtain⟨⟨e,g⟩,m,b⟩:=oB1.mp b;refine⟨r,mu,S,e,g,i,p,m,λv H1 mu1 s q t=>?_⟩;exact⟨mu1,g,[e],d,j,.cons q .nil,t,b,λv k c l n o=>hc v k c (s.trans l) n o⟩
theorem v9{a:FA}(h:tM K (mN f a) σ H Q):Kn K a σ H λvs H1=>rN K f vs H1 Q:=by
 obtain⟨r,mu,S,d,j,i,p,b,hc⟩:=h;obtain⟨⟨e,g⟩,m,b⟩:=oB1.mp b;refine⟨r,mu,S,e,g,i,p,m,λv H1 mu1 s q t=>?_⟩;exact⟨mu1,g,e,d,j,q,t,b,λv k c l n o=>hc v k c (s.trans l) n o⟩
theorem HM{op:Operator}{x y:Expr}{pos:Pos}(ho:fy X (binaryOp op) (r2 X.K f))(hx:ME X x a)(hy:ME X y b):ME X (.BinOp x op y pos) (m2 f a b):=d3 (Hw ho hx hy) λ_ _ _=>wa
theorem HL{op:UnaryOp}{x:Expr}{pos:Pos}(ho:GN X (unaryOp op) (λx H Q=>rN X.K f [x] H Q))(hx:ME X x a):ME X (.UnaryOp op x pos) (m1 f a):=d3 (Hv ho hx) λ_ _ _=>HU
theorem FP{op:CmpOp}{x y:Expr}{pos:Pos}(ho:fy X (compareOp op) (r2 X.K f))(hx:ME X x a)(hy:ME X y b)(hm:behindInMarks op y=J):ME X (.Compare x [op] [y] pos) (m2 f a b):=d3 (B4 ho hx hy hm) λ_ _ _=>wa
theorem HN{x y:Expr}{pos:Pos}(ho:DZ X (r2 X.K f))(hx:ME X x a)(hy:ME X y b)(hs:mW y):ME X (.Subscript x y pos) (m2 f a b):=d3 (Hx ho hx hy hs) λ_ _ _=>wa
theorem zP {x:Str}{p pos:Pos}{e:Expr}{es:List Expr}{id:String}{a:FA}(hc:eh X (.builtin id) (rN X.K f))(hg:Gl X x)(hm:X.mg x=none)(hv:bootBuiltins x=some (.builtin id))(ha:MA X (e::es) a)(hn:autoParam (x≠"__name__") bu0)(hdb:autoParam ((x == ("__debug__":Str))=false) bu0)
  (he:autoParam (cN (e::es) X.env=(J,eval e X.env)::cN es X.env) cu0) (hpl:autoParam ((backTo pos (cN es X.env)).any (·.1)=J) cu0):ME X (.Call (.Name x p) (e::es) [] pos) (mN f a):=
 d3 (nB hc hg hm hv ha hn hdb he hpl) λ_ _ _=>v9
theorem xa {x:Str}{p pos:Pos}{e:Expr}{es:List Expr}{T:String}{a:FA}(hc:eh X (.type T) (rN X.K f))(hg:Gl X x)(hm:X.mg x=none)(hv:bootBuiltins x=some (.type T))(ha:MA X (e::es) a)(hn:autoParam (x≠"__name__") bu0)(hdb:autoParam ((x == ("__debug__":Str))=false) bu0)
  (he:autoParam (cN (e::es) X.env=(J,eval e X.env)::cN es X.env) cu0) (hpl:autoParam ((backTo pos (cN es X.env)).any (·.1)=J) cu0):ME X (.Call (.Name x p) (e::es) [] pos) (mN f a):=
 d3 (jh hc hg hm hv ha hn hdb he hpl) λ_ _ _=>v9
end
noncomputable def mB (m:FE):FT:=λr S=>(m r S).bind λp=>match p.1 with
 | .bl b=>some (b,p.2)
 |_=>none
theorem HR{K:Fg1}{m:FE}{σ:L2.St}{H:Hp}{Q:Bool->Hp->Prop}(h:ui K (mB m) σ H Q):tB (tM K m) σ H Q:=by
 obtain⟨r,mu,S,b,l,d,f,a,hc⟩:=h;obtain⟨⟨c,n⟩,e,a⟩:=oB1.mp a;cases c with
 |bl k=>
  cases a;refine⟨r,mu,S,_,_,d,f,e,λv H1 mu1 i g j=>?_⟩;cases g;exact⟨_,O,hc H1 mu1 i j⟩
 |_=>cases a
noncomputable def nN(a b:FT):FT:=λr S=>(a r S).bind λp=>if p.1=M then b r p.2 else Z (J,p.2)
noncomputable def ms(a b:FT):FT:=λr S=>(a r S).bind λp=>if p.1=M then Z (M,p.2)else b r p.2
noncomputable def fE(a:FT):FT:=λr S=>(a r S).bind λp=>Z (!p.1,p.2)
noncomputable def fY(a b:FE):FE:=λr S=>(a r S).bind λp=>match p.1 with
 | .bl c=>if c=M then b r p.2 else Z (.bl J,p.2)
 |_=>Y
noncomputable def Lc(a b:FE):FE:=λr S=>(a r S).bind λp=>match p.1 with
 | .bl c=>if c=M then Z (.bl M,p.2)else b r p.2
 |_=>Y
noncomputable def lZ(a:FE):FE:=λr S=>(a r S).bind λp=>match p.1 with
 | .bl c=>Z (.bl (!c),p.2)
 |_=>Y
noncomputable def zT(c:FT)(a b:FE):FE:=λr S=>(c r S).bind λp=>if p.1=M then a r p.2 else b r p.2
section
variable{x y c:Expr}{rest:List Expr}{pos:Pos}{a b:FT}{f g:FE}
theorem Fk{op:CmpOp}{f:FN}{a b:FE}(ho:fy X (compareOp op) (r2 X.K f))(hx:ME X x a)(hy:ME X y b)(hm:behindInMarks op y=J):MT X (.Compare x [op] [y] pos) (mB (m2 f a b)):=
 uK (BO ho hx hy hm) fun σ H Q h=>by
  obtain⟨r,mu,S,d,e,c,g,hm,hc⟩:=HR h;exact wa ⟨r,mu,S,d,e,c,g,hm,λv H' mu' j i k=>hc v H' mu' j i k⟩
theorem Cj(ha:MT X x a):MW X (.BoolOp .And [x] pos) a:=BJ ha
theorem Fh(ha:MT X x a):MW X (.BoolOp .Or [x] pos) a:=Ex ha
theorem Fi(ha:MT X x a)(hb:MW X (.BoolOp .And (y::rest) pos) b):MW X (.BoolOp .And (x::y::rest) pos) (nN a b):=
 yX (Ey ha hb) <| by
  rintro σ H Q ⟨r,mu,S,k,i,f,m,c,hc⟩;obtain⟨⟨b1,g⟩,l,c⟩:=oB1.mp c;refine⟨r,mu,S,b1,g,f,m,l,λH1 mu1 e h=>?_⟩;cases b1 with
  |true=>exact⟨r,mu1,g,k,i,f.ext e,h,c,λH2 d x2 j=>hc H2 d (e.trans x2) j⟩
  |false=>cases c;exact hc H1 mu1 e h
theorem HJ(ha:MT X x a)(hb:MW X (.BoolOp .Or (y::rest) pos) b):MW X (.BoolOp .Or (x::y::rest) pos) (ms a b):=
 yX (Hr ha hb) <| by
  rintro σ H Q ⟨r,mu,S,k,i,f,m,c,hc⟩;obtain⟨⟨b1,g⟩,l,c⟩:=oB1.mp c;refine⟨r,mu,S,b1,g,f,m,l,λH1 mu1 e h=>?_⟩;cases b1 with
  |false=>exact⟨r,mu1,g,k,i,f.ext e,h,c,λH2 d x2 j=>hc H2 d (e.trans x2) j⟩
  |true=>cases c;exact hc H1 mu1 e h
theorem JL(h:MW X x a):MT X x a:=PW.pt h
theorem Fj(ha:MT X x a):MT X (.UnaryOp .Not x pos) (fE a):=
 uK (EC ha) <| by
  rintro σ H Q ⟨r,mu,S,k,i,c,f,b,hc⟩;obtain⟨⟨b1,e⟩,d,b⟩:=oB1.mp b;cases b;exact⟨r,mu,S,b1,e,c,f,d,λH1 mu1 g h=>hc H1 mu1 g h⟩
theorem FH{op}(h:ME X x f):ME X (.BoolOp op [x] pos) f:=ET h
theorem FQ(ha:ME X x f)(hb:ME X (.BoolOp .And (y::rest) pos) g):ME X (.BoolOp .And (x::y::rest) pos) (fY f g):=
 d3 (EZ ha hb) <| by
  rintro σ H Q ⟨r,mu,S,k,l,e,o,a,hc⟩;obtain⟨⟨d,h⟩,n,a⟩:=oB1.mp a;refine⟨r,mu,S,d,h,e,o,n,λv H1 mu1 c p i=>?_⟩;cases d with
  |bl b1=>
   cases p;refine⟨b1,O,?_⟩;cases b1 with
   |true=>exact⟨r,mu1,h,k,l,e.ext c,i,a,λj H2 b x2 r2 m=>hc j H2 b (c.trans x2) r2 m⟩
   |false=>cases a;exact hc _ H1 mu1 c (.bl J) i
  |_=>cases a
theorem FJ(ha:ME X x f):ME X (.UnaryOp .Not x pos) (lZ f):=
 d3 (EU ha) <| by
  rintro σ H Q ⟨r,mu,S,k,l,c,g,a,hc⟩;obtain⟨⟨b,e⟩,d,a⟩:=oB1.mp a;refine⟨r,mu,S,b,e,c,g,d,λv H1 mu1 i h j=>?_⟩;cases b with
  |bl b1=>
   cases h;cases a;exact⟨b1,O,hc _ H1 mu1 i (.bl _) j⟩
  |_=>cases a
theorem HP(hc:MT X c a)(hx:ME X x f)(hy:ME X y g):ME X (.IfExp c x y pos) (zT a f g):=
 d3 (zk hc hx hy) <| by
  rintro σ H Q ⟨r,mu,S,k,m,h,p,d,hc⟩;obtain⟨⟨b1,l⟩,o,d⟩:=oB1.mp d;refine⟨r,mu,S,b1,l,h,p,o,λH1 mu1 e n=>?_⟩;cases b1 with
  |true=>exact⟨r,mu1,l,k,m,h.ext e,n,d,λi H2 b x2 r2 j=>hc i H2 b (e.trans x2) r2 j⟩
  |false=>exact⟨r,mu1,l,k,m,h.ext e,n,d,λi H2 b x2 r2 j=>hc i H2 b (e.trans x2) r2 j⟩
end
noncomputable def FX(f g:FN)(a b c:FE):FE:=λr S=>(a r S).bind λp=>(b r p.2).bind λq=>(f [p.1,q.1] q.2).bind λt=>match t.1 with
 | .bl k=>if k=M then(c r t.2).bind λz=>g [q.1,z.1] z.2 else Z (.bl J,t.2)
 |_=>Y
section
variable{x y z:Expr}{pos:Pos}{f g:FN}{a b c:FE}{op op':CmpOp}
theorem FW{K:Fg1}{σ:L2.St}{H:Hp}{Q:VK}(h:tM K (FX f g a b c) σ H Q):yC (r2 K f) (r2 K g) (tM K a) (tM K b) (tM K c) σ H Q:=by
 obtain⟨r,mu,S,d,P,m,E,e,hc⟩:=h;obtain⟨⟨s,u⟩,R,e⟩:=oB1.mp e;obtain⟨⟨o,t⟩,I,e⟩:=oB1.mp e;obtain⟨⟨A,w⟩,U,e⟩:=oB1.mp e;refine⟨r,mu,S,s,u,m,E,R,λaq H1 mu1 l F G=>?_⟩;refine⟨r,mu1,u,o,t,m.ext l,G,I,λv2 H2 q x2 r2 W=>?_⟩;refine⟨q,t,[s,o],A,w,.cons (F.ext x2) (.cons r2 .nil),W,U,λwq L i j T v=>?_⟩;cases A with
 |bl k=>
  cases T;refine⟨k,O,?_⟩;cases k with
  |false=>cases e;exact hc _ L i ((l.trans x2).trans j) (.bl J) v
  |true=>
   obtain⟨⟨y,x⟩,D,e⟩:=oB1.mp e;refine⟨r,i,w,y,x,m.ext ((l.trans x2).trans j),v,D,λX H4 p z N am=>?_⟩;exact⟨p,x,[o,y],d,P,.cons ((r2.ext j).ext z) (.cons N .nil),am,e,λC au n ao V B=>hc C au n ((((l.trans x2).trans j).trans z).trans ao) V B⟩
 |_=>cases e
theorem zO(ho:fy X (compareOp op) (r2 X.K f))(ho':fy X (compareOp op') (r2 X.K g))(hx:ME X x a)(hy:ME X y b)(hz:ME X z c)(hm:autoParam (lastMarks [op,op'] [y,z]=false) zn._auto_1):
  ME X (.Compare x [op,op'] [y,z] pos) (FX f g a b c):=d3 (zn ho ho' hx hy hz hm) λ_ _ _=>FW
end
mutual
noncomputable def D.und(n:Nat):D->Bool
 | .tup xs=>D.unds n xs
 | .rol xs=>D.unds n xs
 | .ref k=>decide (k<n)
 | .non=>M
 | .bl _=>M
 | .int _=>M
 | .str _=>M
 | .fn _=>M
noncomputable def D.unds(n:Nat):List D->Bool
 |[]=>M
 |d::ds=>D.und n d&&D.unds n ds
end
mutual
noncomputable def D.same:D->D->Bool
 | .non,.non=>M
 | .bl a,.bl b=>a == b
 | .int a,.int b=>decide (a=b)
 | .str a,.str b=>decide (a=b)
 | .tup xs,.tup ys=>D.sames xs ys
 | .rol xs,.rol ys=>D.sames xs ys
 | .ref a,.ref b=>decide (a=b)
 | .fn a,.fn b=>decide (a=b)
 |_,_=>J
noncomputable def D.sames:List D->List D->Bool
 |[],[]=>M
 |x::xs,y::ys=>D.same x y&&D.sames xs ys
 |_,_=>J
end
mutual
theorem D.same_eq:∀{a b:D},D.same a b=M->a=b
 | .non,.non,_=>rfl
 | .non,.bl _,h=>by simp[D.same]at h
 | .non,.int _,h=>by simp[D.same]at h
 | .non,.str _,h=>by simp[D.same]at h
 | .non,.tup _,h=>by simp[D.same]at h
 | .non,.rol _,h=>by simp[D.same]at h
 | .non,.ref _,h=>by simp[D.same]at h
 | .non,.fn _,h=>by simp[D.same]at h
 | .bl _,.non,h=>by simp[D.same]at h
 | .bl x,.bl y,h=>by simp[D.same]at h;rw[h]
 | .bl _,.int _,h=>by simp[D.same]at h
 | .bl _,.str _,h=>by simp[D.same]at h
 | .bl _,.tup _,h=>by simp[D.same]at h
 | .bl _,.rol _,h=>by simp[D.same]at h
 | .bl _,.ref _,h=>by simp[D.same]at h
 | .bl _,.fn _,h=>by simp[D.same]at h
 | .int _,.non,h=>by simp[D.same]at h
 | .int _,.bl _,h=>by simp[D.same]at h
 | .int x,.int y,h=>by simp[D.same]at h;rw[h]
 | .int _,.str _,h=>by simp[D.same]at h
 | .int _,.tup _,h=>by simp[D.same]at h
 | .int _,.rol _,h=>by simp[D.same]at h
 | .int _,.ref _,h=>by simp[D.same]at h
 | .int _,.fn _,h=>by simp[D.same]at h
 | .str _,.non,h=>by simp[D.same]at h
 | .str _,.bl _,h=>by simp[D.same]at h
 | .str _,.int _,h=>by simp[D.same]at h
 | .str x,.str y,h=>by simp[D.same]at h;rw[h]
 | .str _,.tup _,h=>by simp[D.same]at h
 | .str _,.rol _,h=>by simp[D.same]at h
 | .str _,.ref _,h=>by simp[D.same]at h
 | .str _,.fn _,h=>by simp[D.same]at h
 | .tup _,.non,h=>by simp[D.same]at h
 | .tup _,.bl _,h=>by simp[D.same]at h
 | .tup _,.int _,h=>by simp[D.same]at h
 | .tup _,.str _,h=>by simp[D.same]at h
 | .tup x,.tup y,h=>by rw[D.same]at h;rw[D.sames_eq h]
 | .tup _,.rol _,h=>by simp[D.same]at h
 | .tup _,.ref _,h=>by simp[D.same]at h
 | .tup _,.fn _,h=>by simp[D.same]at h
 | .rol _,.non,h=>by simp[D.same]at h
 | .rol _,.bl _,h=>by simp[D.same]at h
 | .rol _,.int _,h=>by simp[D.same]at h
 | .rol _,.str _,h=>by simp[D.same]at h
 | .rol _,.tup _,h=>by simp[D.same]at h
 | .rol x,.rol y,h=>by rw[D.same]at h;rw[D.sames_eq h]
 | .rol _,.ref _,h=>by simp[D.same]at h
 | .rol _,.fn _,h=>by simp[D.same]at h
 | .ref _,.non,h=>by simp[D.same]at h
 | .ref _,.bl _,h=>by simp[D.same]at h
 | .ref _,.int _,h=>by simp[D.same]at h
 | .ref _,.str _,h=>by simp[D.same]at h
 | .ref _,.tup _,h=>by simp[D.same]at h
 | .ref _,.rol _,h=>by simp[D.same]at h
 | .ref x,.ref y,h=>by simp[D.same]at h;rw[h]
 | .ref _,.fn _,h=>by simp[D.same]at h
 | .fn _,.non,h=>by simp[D.same]at h
 | .fn _,.bl _,h=>by simp[D.same]at h
 | .fn _,.int _,h=>by simp[D.same]at h
 | .fn _,.str _,h=>by simp[D.same]at h
 | .fn _,.tup _,h=>by simp[D.same]at h
 | .fn _,.rol _,h=>by simp[D.same]at h
 | .fn _,.ref _,h=>by simp[D.same]at h
 | .fn x,.fn y,h=>by simp[D.same]at h;rw[h]
theorem D.sames_eq:∀{a b:List D},D.sames a b=M->a=b
 |[],[],_=>rfl
 |x::xs,y::ys,h=>by
  rw[D.sames,bA1]at h;rw[D.same_eq h.1,D.sames_eq h.2]
 |[],_::_,h=>by simp[D.sames]at h
 |_::_,[],h=>by simp[D.sames]at h
end
mutual
theorem D.same_refl:∀a:D,D.same a a=M
 | .non=>rfl
 | .bl a=>by simp[D.same]
 | .int a=>by simp[D.same]
 | .str a=>by simp[D.same]
 | .tup xs=>by rw[D.same];exact D.sames_refl xs
 | .rol xs=>by rw[D.same];exact D.sames_refl xs
 | .ref a=>by simp[D.same]
 | .fn a=>by simp[D.same]
theorem D.sames_refl:∀a:List D,D.sames a a=M
 |[]=>rfl
 |x::xs=>by rw[D.sames,D.same_refl x,D.sames_refl xs];rfl
end
section
variable{K:Fg1}{H:Hp}{mu mu':List cH}
theorem d9.cut{n:Nat}(h:∀ k,k<n->mu[k]? = mu'[k]?):∀ {d:D} {v:V},d9 K H mu d v->d.und n=true->d9 K H mu' d v:=fun c=>c.rec (motive_1:=fun d v _=>d.und n=true->d9 K H mu' d v) (motive_2:=fun ds vs _=>D.unds n ds=true->db K H mu' ds vs)
  (λ_=>.non) (λb _=>.bl b) (λi _=>.int i) (λx _=>.str x) (λq _ ih e=>.tup q (ih (by rw[D.und]at e;exact e))) (λq _ ih e=>.rol q (ih (by rw[D.und]at e;exact e)))
  (λq e=>.ref (by rw[D.und]at e;rw[<- h _ (of_decide_eq_true e)];exact q)) (λq _=>.fn q) (λ_=>.nil) (λ_ _ a b e=>by rw[D.unds,bA1]at e;exact .cons (a e.1) (b e.2))
theorem db.cut{n:Nat}(h:∀k,k<n->mu[k]?=mu'[k]?):∀{ds:List D} {vs:List V},db K H mu ds vs->D.unds n ds=M->db K H mu' ds vs:=λa=>a.ind (P:=λds vs _=>D.unds n ds=M->db K H mu' ds vs) (λ_=>.nil) λr _ b e=>by rw[D.unds,bA1]at e;exact .cons (d9.cut h r e.1) (b e.2)
end
noncomputable def Ob.und(n:Nat):Ob->Bool
 | .lst xs=>D.unds n xs
 | .dct kvs=>D.unds n (kvs.map (·.2))
 | .dcT kvs=>D.unds n (kvs.map (·.2))
 | .iset _=>M
 | .dcF kvs=>D.unds n (kvs.map (·.2))
 | .tst _=>M
theorem KR.cut{κ:Type}{K:Fg1}{H:Hp}{mu mu':List cH}{n:Nat}(h:∀k,k<n->mu[k]?=mu'[k]?):∀{ks:List (κ×D)} {ws:List (κ×V)},KR K H mu ks ws->D.unds n (ks.map (·.2))=M->KR K H mu' ks ws:=by
 intro ks ws a e
 induction a with
 |nil=>exact .nil
 |cons r t ih=>
  rw[mP1,D.unds,bA1]at e;exact .cons ⟨r.1,r.2.cut h e.1⟩ (ih e.2)
mutual
theorem yx(n:Nat):∀k:TK,(tkD k).und n=M
 | .non=>rfl
 | .int _=>rfl
 | .tup xs=>by rw[tkD,D.und];exact vI n xs
theorem vI(n:Nat):∀ks:List TK,D.unds n (j9 ks)=M
 |[]=>rfl
 |x::xs=>by rw[j9,D.unds,yx n x,vI n xs];rfl
end
theorem KT.cut{K:Fg1}{H:Hp}{mu mu':List cH}{n:Nat}(h:∀k,k<n->mu[k]?=mu'[k]?):∀{ks:List (TK×D)} {ws:List (TK×cH×cF)},KT K H mu ks ws->D.unds n (ks.map (·.2))=M->KT K H mu' ks ws:=by
 intro ks ws a e
 induction a with
 |nil=>exact .nil
 |cons r t ih=>
  rw[mP1,D.unds,bA1]at e;obtain⟨z,d,k,v,b,r⟩:=r;exact .cons ⟨z,d,k.cut h (yx n _),v,b,r.cut h e.1⟩ (ih e.2)
theorem v4(n:Nat):∀ks:List TK,D.unds n ((ks.map λk=>(k,D.non)).map (·.2))=M
 |[]=>rfl
 |_::ks=>by rw[mP1,mP1,D.unds,v4 n ks];rfl
theorem ObR.cut{K:Fg1}{H:Hp}{mu mu':List cH}{n:Nat}{a:cH}(h:∀k,k<n->mu[k]?=mu'[k]?):∀{o:Ob},ObR K H mu a o->o.und n=M->ObR K H mu' a o
 | .lst _,⟨vs,e,r⟩,b=>⟨vs,e,r.cut h b⟩
 | .dct _,⟨ws,e,r⟩,b=>⟨ws,e,KR.cut h r b⟩
 | .dcT _,⟨ws,e,r,l⟩,b=>⟨ws,e,KT.cut h r b,l⟩
 | .iset _,q,_=>q
 | .dcF _,⟨ws,e,r,l⟩,b=>⟨ws,e,KT.cut h r b,l⟩
 | .tst ks,⟨ws,e,r⟩,_=>⟨ws,e,KT.cut h r (v4 n ks)⟩
def gc(n:Nat)(p:D×cZ):D×cZ:=if p.1.und n&&(p.2.take n).all (Ob.und n)then(p.1,p.2.take n)else p
mutual
noncomputable def D.sh(n:Nat):D->D
 | .tup xs=>.tup (D.shs n xs)
 | .rol xs=>.rol (D.shs n xs)
 | .ref k=>.ref (n+k)
 | .fn x=>.fn x
 | .non=>.non
 | .bl b=>.bl b
 | .int i=>.int i
 | .str x=>.str x
noncomputable def D.shs(n:Nat):List D->List D
 |[]=>[]
 |d::ds=>D.sh n d::D.shs n ds
end
def Ob.sh(n:Nat):Ob->Ob
 | .lst xs=>.lst (D.shs n xs)
 | .dct kvs=>.dct (kvs.map λp=>(p.1,p.2.sh n))
 | .dcT kvs=>.dcT (kvs.map λp=>(p.1,p.2.sh n))
 | .iset xs=>.iset xs
 | .dcF kvs=>.dcF (kvs.map λp=>(p.1,p.2.sh n))
 | .tst ks=>.tst ks
theorem d9.sh{K:Fg1}{H:Hp}{mu mu':List cH}:∀ {d:D} {v:V},d9 K H mu' d v->d9 K H (mu++mu') (d.sh mu.length) v:=fun c=>c.rec (motive_1:=fun d v _=>d9 K H (mu++mu') (d.sh mu.length) v) (motive_2:=fun ds vs _=>db K H (mu++mu') (D.shs mu.length ds) vs)
  .non .bl .int .str (λh _ ih=>.tup h ih) (λh _ ih=>.rol h ih) (λh=>.ref (by rw[gR1 (bn _ _),bo];exact h)) (λh=>.fn h) .nil (λ_ _ a b=>.cons a b)
theorem db.sh{K:Fg1}{H:Hp}{mu mu':List cH}:∀{ds:List D} {vs:List V},db K H mu' ds vs->db K H (mu++mu') (D.shs mu.length ds) vs:=λh=>h.ind (P:=λds vs _=>db K H (mu++mu') (D.shs mu.length ds) vs) .nil λr _ ih=>.cons (d9.sh r) ih
theorem KR.sh{κ:Type}{K:Fg1}{H:Hp}{mu mu':List cH}:∀{ks:List (κ×D)} {ws:List (κ×V)},KR K H mu' ks ws->KR K H (mu++mu') (ks.map λp=>(p.1,p.2.sh mu.length)) ws:=by
 intro ks ws h
 induction h with
 |nil=>exact .nil
 |cons r t ih=>exact .cons ⟨r.1,r.2.sh⟩ ih
mutual
theorem Dy(n:Nat):∀k:TK,(tkD k).sh n=tkD k
 | .non=>rfl
 | .int _=>rfl
 | .tup xs=>by rw[tkD,D.sh,yv n xs]
theorem yv(n:Nat):∀ks:List TK,D.shs n (j9 ks)=j9 ks
 |[]=>rfl
 |x::xs=>by rw[j9,D.shs,Dy n x,yv n xs]
end
theorem KT.sh{K:Fg1}{H:Hp}{mu mu':List cH}:∀{ks:List (TK×D)} {ws:List (TK×cH×cF)},KT K H mu' ks ws->KT K H (mu++mu') (ks.map λp=>(p.1,p.2.sh mu.length)) ws:=by
 intro ks ws h
 induction h with
 |nil=>exact .nil
 |cons r t ih=>
  obtain⟨z,d,k,v,a,r⟩:=r;exact .cons ⟨z,d,by have:=k.sh (mu:=mu);rw[Dy]at this;exact this,v,a,r.sh⟩ ih
theorem ObR.sh{K:Fg1}{H:Hp}{mu mu':List cH}{a:cH}:∀{o:Ob},ObR K H mu' a o->ObR K H (mu++mu') a (o.sh mu.length)
 | .lst _,⟨vs,e,r⟩=>⟨vs,e,r.sh⟩
 | .dct _,⟨ws,e,r⟩=>⟨ws,e,KR.sh r⟩
 | .dcT _,⟨ws,e,r,l⟩=>⟨ws,e,KT.sh r,l⟩
 | .iset _,q=>q
 | .dcF _,⟨ws,e,r,l⟩=>⟨ws,e,KT.sh r,l⟩
 | .tst ks,⟨ws,e,r⟩=>⟨ws,e,by have:=KT.sh (mu:=mu) r;rw[bq]at this;exact this⟩
theorem d9.mor{K:Fg1}{H:Hp}{mu:List cH}(mu':List cH):∀{d:D} {v:V},d9 K H mu d v->d9 K H (mu++mu') d v:=λh=>h.exv ⟨br _ _,λ_ _ h=>h,λ_ _ _ h=>h⟩
theorem db.mor{K:Fg1}{H:Hp}{mu:List cH}(mu':List cH):∀{ds:List D} {vs:List V},db K H mu ds vs->db K H (mu++mu') ds vs:=λh=>h.exv ⟨br _ _,λ_ _ h=>h,λ_ _ _ h=>h⟩
theorem KR.mor{κ:Type}{K:Fg1}{H:Hp}{mu:List cH}(mu':List cH){ks:List (κ×D)}{ws:List (κ×V)}(h:KR K H mu ks ws):KR K H (mu++mu') ks ws:=Paired.mapP h λ_ _ z=>⟨z.1,z.2.mor mu'⟩
theorem ObR.mor{K:Fg1}{H:Hp}{mu:List cH}{a:cH}(mu':List cH):∀{o:Ob},ObR K H mu a o->ObR K H (mu++mu') a o
 | .lst _,⟨vs,e,r⟩=>⟨vs,e,r.mor mu'⟩
 | .dct _,⟨ws,e,r⟩=>⟨ws,e,KR.mor mu' r⟩
 | .dcT _,⟨ws,e,r,l⟩=>⟨ws,e,Paired.mapP r λ_ _ ⟨z,d,k,v,b,r⟩=>⟨z,d,k.mor mu',v,b,r.mor mu'⟩,l⟩
 | .iset _,q=>q
 | .dcF _,⟨ws,e,r,l⟩=>⟨ws,e,Paired.mapP r λ_ _ ⟨z,d,k,v,b,r⟩=>⟨z,d,k.mor mu',v,b,r.mor mu'⟩,l⟩
 | .tst _,⟨ws,e,r⟩=>⟨ws,e,Paired.mapP r λ_ _ ⟨z,d,k,v,b,r⟩=>⟨z,d,k.mor mu',v,b,r.mor mu'⟩⟩
def pJ(f:FN):FN:=λds S=>if D.unds 0 ds=M then(f ds []).map λp=>if p.1.und 0=M then(p.1,S)else(p.1.sh S.length,S++p.2.map (Ob.sh S.length))else(f ds S).map (gc S.length)
theorem ObR.keep{K:Fg1}{H H':Hp}{mu:List cH}{a:cH}(e:Ext mu mu H H')(h:∀o,H a=Z o->H' a=Z o):∀{o:Ob},ObR K H mu a o->ObR K H' mu a o
 | .lst _,⟨vs,q,r⟩=>⟨vs,h _ q,r.ext e⟩
 | .dct _,⟨ws,q,r⟩=>⟨ws,h _ q,KR.ext e r⟩
 | .dcT _,⟨ws,q,r,l⟩=>⟨ws,h _ q,KT.ext e r,l⟩
 | .iset _,q=>⟨h _ q.1,q.2⟩
 | .dcF _,⟨ws,⟨o,u,c,b⟩,r,l⟩=>⟨ws,⟨o,u,h _ c,b⟩,KT.ext e r,l⟩
 | .tst _,⟨ws,q,r⟩=>⟨ws,h _ q,KT.ext e r⟩
theorem tU{K:Fg1}{f:FN}{vs:List V}{H:Hp}{Q:VK}(h:rN K (pJ f) vs H Q):rN K f vs H Q:=by
 obtain⟨mu,S,ds,d,L,E,c,g,hc⟩:=h;unfold pJ at g;split at g
 ·rename_i j;obtain⟨⟨u,p⟩,B,g⟩:=oM1.mp g;refine⟨[],[],ds,u,p,E.cut (n:=0) (λk i=>absurd i (bt _)) j,.nil,B,λv H' mu' x r s=>?_⟩;have y:Ext mu mu H H':=⟨bi,λa o e _=>x.old a o e (by simp),x.tup,x.frz,λ_ z=>.inl z⟩;dsimp only at g;split at g
  ·rename_i I;cases g;refine hc v H' mu y (r.cut (n:=0) (λk i=>absurd i (bt _)) I) ⟨c.len,c.nd,λn o a h1 h2=>?_⟩;exact(c.ob n o a h1 h2).keep y λo e=>x.old a o e (by simp)
  ·cases g;have D:∀ a∈mu',H a=none:=fun a A=>(x.new a A).resolve_left (by simp);have x2:Ext mu (mu++mu') H H':=⟨br _ _,fun a o e _=>x.old a o e (by simp),x.tup,x.frz,fun a z=>by
    rcases aE.mp z with z|z
    ·exact .inl z
    ·exact .inr (D a z)⟩
   refine hc v H' (mu++mu') x2 (by rw[<- c.len];exact r.sh) ⟨by rw[lA1,lA1,lM1,c.len,s.len],?_,λn o a h1 h2=>?_⟩
   ·refine bu.mpr ⟨c.nd,s.nd,λa A b j z=>?_⟩;subst z;obtain⟨o,e⟩:=c.here A;rw[D a j]at e;cases e
   ·by_cases l:n<S.length
    ·rw[gL1 l]at h1;rw[gL1 (by rw[c.len];exact l)]at h2;exact((c.ob n o a h1 h2).keep y λo e=>x.old a o e (by simp)).mor mu'
    ·have m:=Nat.le_of_not_lt l;rw[gR1 m]at h1;rw[gR1 (by rw[c.len];exact m)]at h2;rw[gP1]at h1;obtain⟨F,G,am⟩:=oM1.mp h1;subst am;have q:=s.ob (n-S.length) F a G (by rw[c.len]at h2;exact h2);rw[<- c.len];exact q.sh
 ·obtain⟨⟨u,p⟩,B,g⟩:=oM1.mp g;refine⟨mu,S,ds,u,p,E,c,B,λv H' mu' x r s=>?_⟩;unfold gc at g;split at g
  ·rename_i j;cases g;rw [bA1] at j;have i:∀ k,k<S.length->mu'[k]? = mu[k]?:=fun k i=>by
    obtain⟨t,rfl⟩:=x.pre;rw[gL1 (by rw[c.len];exact i)]
   refine hc v H' mu x.back (r.cut i j.1) ⟨?_,c.nd,λn o a h1 h2=>?_⟩
   ·have:=s.len;have C:=x.pre.length_le;rw[aO,<- s.len];rw[c.len]at C ⊢;exact(Nat.min_eq_left C).symm
   ·have l:n<S.length:=by rw[<- c.len];exact(gE1.mp h2).1
    have w:p[n]?=Z o:=by rw[aQ l]at h1;exact h1
    refine(s.ob n o a w ((i n l).trans h2)).cut i ?_;exact bv.mp j.2 o (gM1 h1)
  ·cases g;exact hc v H' mu' x r s
noncomputable def yF(K:Fg1)(n:Nat)(f:FN):Sp:=λvs H Q _=>vs.length=n/\rN K f vs H Q
section
variable{k n:Nat}{f:cH}{fd:cS}{ps:List Str}{x:Str}{p pos:Pos}{e:Expr}{es:List Expr}{m:FN}{a:FA}
noncomputable def cY (n:Nat)(f:FN):FN:=λds S=>if ds.length=n then pJ f ds S else none
theorem Cy (F:k3 X.prog X.w X.K X.mg X.base uh k f fd ps (yF X.K n m))(hr:fb k X.A)(hg:Gl X x)(hm:X.mg x=some (.ref f))(hk:wK1 X.K (.ref f)=true)(hb:jK X.K fd ps [])
  (ha:MA X (e::es) a) (hdb:autoParam ((x == ("__debug__":Str))=J) bu0) (he:autoParam (cN (e::es) X.env=(J,eval e X.env)::cN es X.env) cu0) (hpl:autoParam ((backTo pos (cN es X.env)).any (·.1)=J) cu0):
  ME X (.Call (.Name x p) (e::es) [] pos) (mN (cY n m) a):=
 d3 (B5 (E:=E0) F hr hg hm hk hb .nil DC ha hdb he hpl) fun σ H Q h=>by
  obtain⟨r,mu,S,ds,g,he,s,hm,hc⟩:=v9 h;refine⟨r,mu,S,ds,g,he,s,hm,λvs H' mu' u t v=>?_⟩;have q:=hc vs H' mu' u t v;show yF X.K n m (vs++[]) H' Q E0;rw[aK];obtain⟨d,i,c,l,o,h1,h2,b,w⟩:=q;unfold cY at b;split at b
  ·rename_i j;exact⟨by rw[<- h1.length];exact j,tU ⟨d,i,c,l,o,h1,h2,b,w⟩⟩
  ·cases b
end
noncomputable def iC:FS:=λr S=>Z (.nx,r,S)
noncomputable def JM:FS:=λr S=>Z (.ct,r,S)
noncomputable def c7 (a b:FS):FS:=λr S=>(a r S).bind λp=>match p.1 with
 | .nx=>b p.2.1 p.2.2
 |f=>some (f,p.2.1,p.2.2)
noncomputable def dD (m:FE):FS:=λr S=>(m r S).bind λp=>some (.rt p.1,r,p.2)
noncomputable def Ks:FS:=λr S=>Z (.rt .non,r,S)
noncomputable def fw (m:FE):FS:=λr S=>(m r S).bind λp=>some (.nx,r,p.2)
noncomputable def ew (c:FT)(a b:FS):FS:=λr S=>(c r S).bind λp=>if p.1=true then a r p.2 else b r p.2
section
variable{pos:Pos}{e c:Expr}{st:cT}{rest as bs:List cT}{a b:FS}{m:FE}{t:FT}
theorem Cm:xS X [] iC:=ql BQ <| by
 rintro E σ H ⟨r,mu,S,f,e,d,a,b,c,hc⟩;cases c;exact hc σ H mu (.refl _ _) a b
theorem zI(h1:MS X st a)(h2:xS X rest b):xS X (st::rest) (c7 a b):=ql (y1 h1 h2) <| by
 rintro E σ H ⟨r,mu,S,f,t,o,n,s,g,hc⟩;obtain⟨⟨l,m,k⟩,p,g⟩:=oB1.mp g;refine⟨r,mu,S,l,m,k,n,s,p,?_⟩;cases l with
 |nx=>
  intro q H1 mu1 h j i;refine⟨m,mu1,k,f,t,o,j,i,g,?_⟩;cases f with
  |nx=>exact λe H2 c x2=>hc e H2 c (h.trans x2)
  |bk=>exact λe H2 c x2=>hc e H2 c (h.trans x2)
  |ct=>exact λe H2 c x2=>hc e H2 c (h.trans x2)
  |rt d=>exact λv H2 c x2=>hc v H2 c (h.trans x2)
 |bk=>cases g;exact hc
 |ct=>cases g;exact hc
 |rt d=>cases g;exact hc
theorem Ck(h1:MS X st a):xS X [st] a:=BP h1
theorem sX:MS X (.Continue pos) JM:=ga sF λE σ H ⟨r,mu,S,f,e,d,a,b,c,hc⟩=>by cases c;exact hc σ H mu (.refl _ _) a b
theorem Cn(h:ME X e m)(hs:autoParam (swapsWith e Y pos.line X.env=pure J) cu0):MS X (.Expr e pos) (fw m):=ga (BR h hs) <| by
 rintro E σ H ⟨r,mu,S,f,k,i,b,hs,a,hc⟩;obtain⟨⟨d,j⟩,c,a⟩:=oB1.mp a;cases a;exact⟨r,mu,S,d,_,b,hs,c,λv H' mu' x l g=>hc σ H' mu' x (b.ext x) g⟩
theorem Fn(h:ME X e m):MS X (.Return (Z e) pos) (dD m):=ga (EE h) <| by
 rintro E σ H ⟨r,mu,S,f,k,i,b,g,a,hc⟩;obtain⟨⟨d,j⟩,c,a⟩:=oB1.mp a;cases a;exact⟨r,mu,S,d,_,b,g,c,hc⟩
theorem HK(hc:MT X c t)(ha:xS X as a)(hb:xS X bs b):MS X (.If c as bs pos) (ew t a b):=ga (Hs hc ha hb) <| by
 rintro E σ H ⟨r,mu,S,f,o,n,l,q,h,hc⟩;obtain⟨⟨k,j⟩,p,h⟩:=oB1.mp h;refine⟨r,mu,S,k,j,l,q,p,λH1 mu1 i s=>?_⟩;have m:∀c:FS,c r j=Z (f,o,n)->vM X.K c E σ H1:=λc h=>by
  refine⟨r,mu1,j,f,o,n,l.ext i,s,h,?_⟩;cases f with
  |nx=>exact λg H2 e x2=>hc g H2 e (i.trans x2)
  |bk=>exact λg H2 e x2=>hc g H2 e (i.trans x2)
  |ct=>exact λg H2 e x2=>hc g H2 e (i.trans x2)
  |rt d=>exact λv H2 e x2=>hc v H2 e (i.trans x2)
 cases k with
 |true=>exact m a h
 |false=>exact m b h
end
abbrev FG:=D->Ev->cZ->Option (Ev×cZ)
abbrev A6:=List D->Ev->cZ->Option (Ev×cZ)
inductive xW (K:Fg1)(g:FG)(v:V)(σ:L2.St)(H:Hp)(Q:L2.St->Hp->Prop):Prop
 |mk (r:Ev) (mu:List cH) (S:cZ) (d:D) (r':Ev) (S':cZ) (he:eI K H mu r σ) (hs:Sim K H mu S) (hr:d9 K H mu d v) (hm:g d r S=some (r',S')) (hc:∀ σ' H' mu',Ext mu mu' H H'->eI K H' mu' r' σ'->Sim K H' mu' S'->Q σ' H')
inductive Jr (K:Fg1)(g:A6)(vs:List V)(σ:L2.St)(H:Hp)(Q:L2.St->Hp->Prop):Prop
 |mk (r:Ev) (mu:List cH) (S:cZ) (ds:List D) (r':Ev) (S':cZ) (he:eI K H mu r σ) (hs:Sim K H mu S) (hr:db K H mu ds vs) (hm:g ds r S=some (r',S')) (hc:∀ σ' H' mu',Ext mu mu' H H'->eI K H' mu' r' σ'->Sim K H' mu' S'->Q σ' H')
abbrev MG(X:Cx)(e:Expr)(g:FG):Prop:=PG X e (xW X.K g)
abbrev II(X:Cx)(es:List Expr)(g:A6):Prop:=GF X es (Jr X.K g)
noncomputable def gN (i:Nat):FG:=λd r S=>some (r.set i (some d),S)
noncomputable def iq:A6:=λds r S=>match ds with
 |[]=>Z (r,S)
 |_=>Y
noncomputable def eH (g:FG)(gs:A6):A6:=λds r S=>match ds with
 |d::ds=>(g d r S).bind λp=>gs ds p.1 p.2
 |[]=>none
noncomputable def gT (n:Nat)(gs:A6):FG:=λd r S=>match d with
 | .tup ds=>if ds.length=n then gs ds r S else none
 |_=>none
theorem eI.set{K:Fg1}{H:Hp}{mu:List cH}{r:Ev}{σ:L2.St}{i:Nat}{d:D}{v:V}(h:eI K H mu r σ)(q:d9 K H mu d v):eI K H mu (r.set i (Z d)) (σ.set i (Z v)):=by
 refine⟨by rw[aS,aS];exact h.len,λj d' e=>?_⟩;by_cases a:i=j
 ·subst a;have b:i<r.length:=by
   have:=(gE1.mp e).1
   rwa [aS]at this
  rw[aG b]at e;cases e;exact⟨v,aG (by rw[<- h.len];exact b),q⟩
 ·rw[gS1 a]at e;obtain⟨f,c,g⟩:=h.val j d' e;exact⟨f,by rw[gS1 a];exact c,g⟩
section
variable{pos:Pos}
theorem uM{e:Expr}{t t':TG}(h:PG X e t)(i:∀v σ H Q,t' v σ H Q->t v σ H Q):PG X e t':=λag s σ H v u Q I r q=>h ag s σ H v u Q I r (i v σ H Q q)
theorem vX{e:List Expr}{t t':DX}(h:GF X e t)(i:∀v σ H Q,t' v σ H Q->t v σ H Q):GF X e t':=λag s σ H v u Q I r q=>h ag s σ H v u Q I r (i v σ H Q q)
theorem Cv(i:Nat){x:Str}(hN:X.N.Nodup)(hi:X.N[i]?=Z x)(hx:uf X.env.scope x)(hf:autoParam (X.fn x=M\/X.env.scope.names.lookup x=Z .local) au0):MG X (.Name x pos) (gN i):=
 uM (vY hN hi hx hf) <| by
  rintro v σ H Q ⟨r,mu,S,d,g,f,a,c,b,e,hc⟩;cases e;exact hc _ H mu (.refl _ _) (a.set b) c
theorem Cu:II X [] iq:=vX BZ <| by
 rintro vs σ H Q ⟨r,mu,S,ds,f,e,b,d,c,a,hc⟩;unfold iq at a;split at a
 ·cases a;cases c;exact⟨O,hc σ H mu (.refl _ _) b d⟩
 ·cases a
theorem zK{e:Expr}{es:List Expr}{g:FG}{f:A6}(h1:MG X e g)(h2:II X es f)(hs:autoParam ((assignEach (e::es) X.env).map (·.2)=assign e X.env::(assignEach es X.env).map (·.2)) cu0):II X (e::es) (eH g f):=
 vX (zg h1 h2 hs) <| by
  rintro vs σ H Q ⟨r,mu,S,ds,p,l,k,hs,n,a,hc⟩;unfold eH at a;split at a
  ·obtain⟨⟨i,h⟩,m,a⟩:=oB1.mp a;cases n with
   |cons q t=>
    exact⟨_,_,O,r,mu,S,_,i,h,k,hs,q,m,λo H1 mu1 j d s=>⟨i,mu1,h,_,p,l,d,s,t.ext j,a,λb H2 c x2=>hc b H2 c (j.trans x2)⟩⟩
  ·cases a
theorem Fx{es:List Expr}{k:Nat}{b:A6}{n:Nat}(hc:X.calm=M)(h:II X es b)(hn:autoParam ((assignEach es X.env).length=n) cu0)(hst:autoParam ((assignEach es X.env).findIdx? (·.1)=Y) cu0):MG X (.Tuple es k pos) (gT n b):=
 uM (EN hc h hn hst) <| by
  rintro v σ H Q ⟨r,mu,S,d,j,e,c,i,g,a,hc⟩;cases d with
  |tup ds=>
   rw[gT]at a;split at a
   ·rename_i f;cases g with
    |tup q t=>exact⟨_,_,O,q,by rw[<- t.length];exact f,r,mu,S,ds,j,e,c,i,t,a,hc⟩
   ·cases a
  |_=>cases a
inductive rU (K:Fg1)(f:FN)(o i v:V)(H:Hp)(Q:Hp->Prop):Prop
 |mk (mu:List cH) (S:cZ) (ds:List D) (d:D) (S':cZ) (hr:db K H mu ds [o,i,v]) (hs:Sim K H mu S) (hm:f ds S=some (d,S')) (hc:∀H' mu',Ext mu mu' H H'->Sim K H' mu' S'->Q H')
noncomputable def gS(f:FN)(a b:FE):FG:=λd r S=>(a r S).bind λp=>(b r p.2).bind λq=>(f [p.1,q.1,d] q.2).bind λt=>Z (r,t.2)
theorem Fy{o i:Expr}{a b:FE}{f:FN}(ho:ME X o a)(hi:ME X i b)(hs:vz X (rU X.K f))(ha:autoParam (∀v,assign (.Subscript o i pos) X.env v=(do
   let ov<-holding [v] (eval o X.env)
   let iv<-holding [v,ov] (eval i X.env)
   standAt pos
   holding [v,ov,iv] (setItem ov iv v)
   release [v,ov,iv] [])) du0):MG X (.Subscript o i pos) (gS f a b):=
 uM (EO ho hi hs ha) <| by
  rintro v σ H Q ⟨r,mu,S,d,E,G,g,hs,x,c,hc⟩;obtain⟨⟨k,n⟩,y,c⟩:=oB1.mp c;obtain⟨⟨p,m⟩,t,c⟩:=oB1.mp c;obtain⟨⟨A,D⟩,z,c⟩:=oB1.mp c;cases c;refine⟨r,mu,S,k,n,g,hs,y,λC H1 mu1 e q s=>?_⟩;refine⟨r,mu1,n,p,m,g.ext e,s,t,λF H2 h x2 r2 B=>?_⟩;exact⟨h,m,[k,p,d],A,_,.cons (q.ext x2) (.cons r2 (.cons ((x.ext e).ext x2) .nil)),B,z,λw j l u=>hc σ w j ((e.trans x2).trans l) (((g.ext e).ext x2).ext l) u⟩
noncomputable def de (m:FE)(g:FG):FS:=λr S=>(m r S).bind λp=>(g p.1 r p.2).bind λq=>some (.nx,q.1,q.2)
theorem rg{K:Fg1}{m:FE}{g:FG}{E:gJ}{σ:L2.St}{H:Hp}(h:vM K (de m g) E σ H):yD (tM K m) (xW K g) E σ H:=by
 obtain⟨r,mu,S,f,u,q,e,n,a,hc⟩:=h;obtain⟨⟨d,i⟩,k,a⟩:=oB1.mp a;obtain⟨⟨r2,s⟩,l,a⟩:=oB1.mp a;cases a;refine⟨r,mu,S,d,i,e,n,k,λt H1 mu1 j o p=>?_⟩;exact⟨r,mu1,i,d,_,_,e.ext j,p,o,l,λb H2 c x2=>hc b H2 c (j.trans x2)⟩
theorem Fq{tg e:Expr}{m:FE}{g:FG}(he:ME X e m)(hg:MG X tg g)(hs:autoParam (swapsWithSole [tg] e pos.line X.env=pure J) cu0)(hw:autoParam (swappedStores [tg] e X.env=pure Y) cu0)(h1:autoParam ((assignEach [tg] X.env).map (·.2)=[assign tg X.env]) cu0):MS X (.Assign [tg] e pos) (de m g):=ga (EI he hg hs hw h1) λ_ _ _=>rg
theorem Fm(i:Nat){x:Str}{e:Expr}{m:FE}{pos':Pos}(hN:X.N.Nodup)(hi:X.N[i]? = some x)(hx:uf X.env.scope x)(he:ME X e m)(hs:autoParam (swapsWith e (some (.Name x pos')) pos.line X.env=pure false) cu0)(hf:autoParam (X.fn x=true\/X.env.scope.names.lookup x=some .local) au0):
  MS X (.Assign [.Name x pos'] e pos) (de m (gN i)):=ga (ED hN hi hx he hs hf) λE σ H h=>by
 obtain⟨r,mu,S,d,g,h1,h2,f,q⟩:=rg h;refine⟨r,mu,S,d,g,h1,h2,f,λv H' mu' n l p=>?_⟩;obtain⟨r2,a,s,t,u,w,j,o,c,b,k⟩:=q v H' mu' n l p;cases b;exact k _ H' a (.refl _ _) (j.set c) o
noncomputable def CC(i:Nat)(f:FN)(m:FE):FS:=λr S=>match r[i]? with
 |some (Z d)=>(m r S).bind λp=>(f [d,p.1] p.2).bind λq=>Z (.nx,r.set i (Z q.1),q.2)
 |_=>Y
theorem Fp(i:Nat){x:Str}{e:Expr}{m:FE}{op:Operator}{f:FN}{pos':Pos}(hN:X.N.Nodup)(hi:X.N[i]? = some x)(hx:uf X.env.scope x)(he:ME X e m)(ho:Jg X op (r2 X.K f))(hf:autoParam (X.fn x=true\/X.env.scope.names.lookup x=some .local) au0):
  MS X (.AugAssign (.Name x pos') op e pos) (CC i f m):=ga (EH hN hi hx he ho hf) <| by
 rintro E σ H ⟨r,mu,S,A,D,F,he,k,a,hc⟩;unfold CC at a;split at a
 ·rename_i d e;obtain⟨⟨g,j⟩,w,a⟩:=oB1.mp a;obtain⟨⟨p,C⟩,o,a⟩:=oB1.mp a;cases a;obtain⟨v,t,u⟩:=he.val i d e;refine⟨v,t,r,mu,S,g,j,he,k,w,λz H1 mu1 b l n=>?_⟩;exact⟨mu1,j,[d,g],p,_,.cons (u.ext b) (.cons l .nil),n,o,λB s c h y q=>hc _ s c (b.trans h) (((he.ext b).ext h).set y) q⟩
 ·cases a
end
noncomputable def vF (c:FT)(b:FS):Nat->FS
 |0=>λ_ _=>none
 | n+1=>fun r S=>(c r S).bind fun p=>if p.1=true then (b r p.2).bind fun q=>match q.1 with
   | .nx=>vF c b n q.2.1 q.2.2
   | .ct=>vF c b n q.2.1 q.2.2
   | .bk=>some (.nx,q.2.1,q.2.2)
   | .rt d=>some (.rt d,q.2.1,q.2.2)
  else some (.nx,r,p.2)
theorem D4{K:Fg1}{c:FT}{b:FS}{n:Nat}{E:gJ}{σ:L2.St}{H:Hp}(h:vM K (vF c b n) E σ H):yA (ui K c) (vM K b) E σ H:=by
 refine⟨λm a H'=>vM K (vF c b m) E a H',⟨n,h⟩,λm t H1 q=>?_⟩;obtain⟨r,mu,S,f,z,B,s,D,i,hc⟩:=q;cases m with
 |zero=>cases i
 |succ m=>
  obtain⟨⟨k,w⟩,F,i⟩:=oB1.mp i;refine⟨r,mu,S,k,w,s,D,F,λH2 e x2 C=>?_⟩;cases k with
  |false=>
   cases i;exact hc t H2 e x2 (s.ext x2) C
  |true=>
   obtain⟨⟨u,o,p⟩,G,i⟩:=oB1.mp i;have A:∀{a H' mu'},Ext e mu' H2 H'->eI K H' mu' o a->Sim K H' mu' p->vF c b m o p=Z (f,z,B)->vM K (vF c b m) E a H':=λ{a H' mu'} x g l i=>by
    refine⟨o,mu',p,f,z,B,g,l,i,?_⟩;cases f with
    |nx=>exact λj H2 e y=>hc j H2 e ((x2.trans x).trans y)
    |bk=>exact λj H2 e y=>hc j H2 e ((x2.trans x).trans y)
    |ct=>exact λj H2 e y=>hc j H2 e ((x2.trans x).trans y)
    |rt d=>exact λv H2 e y=>hc v H2 e ((x2.trans x).trans y)
   refine⟨λa H'=>vM K (vF c b m) E a H',λa H' q=>⟨m,bw _,q⟩,r,e,w,u,o,p,s.ext x2,C,G,?_⟩;cases u with
   |nx=>exact λa H' mu' x g l=>A x g l i
   |ct=>exact λa H' mu' x g l=>A x g l i
   |bk=>cases i;exact λa H' mu' x g l=>hc a H' mu' (x2.trans x) g l
   |rt d=>cases i;exact λv H' mu' x o l=>hc v H' mu' (x2.trans x) o l
theorem zJ{X:Cx}{pos:Pos}(n:Nat){c:Expr}{a:List cT}{t:FT}{b:FS}(hp:PassesOwn (model X.prog X.w) X.A X.env X.xe)(hc:MT X c t)(hb:xS X a b):MS X (.While c a [] pos) (vF t b n):=
 ga (y2 hp hc hb) λ_ _ _=>D4
structure A5 where
 items:List D
 chk:List (Nat×List D)
noncomputable def pc (S:cZ):List (Nat×List D)->Bool
 |[]=>true
 | (n,xs)::c=>(match S[n]? with
   |some (.lst ys)=>D.sames ys xs
   |_=>false)&&pc S c
def ItR(K:Fg1)(j:It)(am:A5)(mu:List cH)(H:Hp):Prop:=∀i H1 mu1 S1,pS mu mu1 H H1->Sim K H1 mu1 S1->pc S1 am.chk=M ->
 (∀d,am.items[i]?=Z d->j.go i H1 /\ ∀x H2,j.yld i H1 x H2->Ext mu1 mu1 H1 H2/\Sim K H2 mu1 S1/\d9 K H2 mu1 d x)/\(am.items.length<=i->j.stop i H1)
abbrev FI:=Ev->cZ->Option (A5×cZ)
inductive Eh (K:Fg1)(m:FI)(σ:L2.St)(H:Hp)(R:It->Hp->Prop):Prop
 |mk (r:Ev) (mu:List cH) (S:cZ) (am:A5) (S':cZ) (he:eI K H mu r σ) (hs:Sim K H mu S) (hm:m r S=some (am,S')) (hc:∀j H' mu',Ext mu mu' H H'->ItR K j am mu' H'->Sim K H' mu' S'->R j H')
abbrev MI(X:Cx)(tg iter:Expr)(m:FI):Prop:=PI X tg iter (Eh X.K m)
theorem nA{X:Cx}{tg e:Expr}{t t':TI}(h:PI X tg e t)(i:∀ σ H R,t' σ H R->t σ H R):PI X tg e t':=λag s σ H R I q=>h ag s σ H R I (i σ H R q)
theorem Hu{X:Cx}{tg e:Expr}{t t':TI}(h:PI X tg e t)(h':PI X tg e t'):PI X tg e (fun σ H R=>t σ H R\/t' σ H R):=λag s σ H R I q=>q.elim (h ag s σ H R I) (h' ag s σ H R I)
noncomputable def jD (c:List (Nat×List D))(g:FG)(b:FS):List D->FS
 |[]=>λr S=>if pc S c=true then some (.nx,r,S)else none
 | d::ds=>fun r S=>if pc S c=true then (g d r S).bind fun p=>(b p.1 p.2).bind fun q=>match q.1 with
   | .nx=>jD c g b ds q.2.1 q.2.2
   | .ct=>jD c g b ds q.2.1 q.2.2
   | .bk=>some (.nx,q.2.1,q.2.2)
   | .rt v=>some (.rt v,q.2.1,q.2.2)
  else none
noncomputable def eM (m:FI)(g:FG)(b:FS):FS:=λr S=>(m r S).bind λp=>jD p.1.chk g b p.1.items r p.2
theorem i7{α:Type}{l:List α}{i:Nat}{d:α}{ds:List α}(h:l.drop i=d::ds):l[i]?=Z d/\l.drop (i+1)=ds:=by
 have h1:l[i]?=Z d:=by
  have:=congrArg (·[0]?) h;simpa using this
 refine⟨h1,?_⟩;rw[<- List.drop_drop,h];rfl
inductive Ke (K:Fg1)(mu1:List cH)(H1:Hp)(c:List (Nat×List D))(g:FG)(b:FS)(f:Fl)(r':Ev)(S':cZ)(L:List D)(σ':L2.St)(H':Hp):Prop
 |mk (r2:Ev) (mu2:List cH) (S2:cZ):Ext mu1 mu2 H1 H'->eI K H' mu2 r2 σ'->Sim K H' mu2 S2->jD c g b L r2 S2=some (f,r',S')->Ke K mu1 H1 c g b f r' S' L σ' H'
theorem CB{K:Fg1}{m:FI}{g:FG}{b:FS}{E:gJ}{σ:L2.St}{H:Hp}(h:vM K (eM m g b) E σ H):Ha (Eh K m) (xW K g) (vM K b) E σ H:=by
 obtain⟨r,mu,S,f,au,T,L,aq,B,hc⟩:=h;obtain⟨⟨am,ao⟩,e1,B⟩:=oB1.mp B;refine⟨r,mu,S,am,ao,L,aq,e1,λj H1 mu1 w Q wq=>?_⟩;refine⟨λi k u H'=>k=(am.items.drop i).length/\Ke K mu1 H1 am.chk g b f au T (am.items.drop i) u H',⟨_,O,r,mu1,ao,.refl _ _,L.ext w,wq,B⟩,?_⟩;rintro i k G H2 ⟨rfl,r2,l,S2,x2,s,I,a⟩;cases hl:am.items.drop i with
 |nil=>
  left;rw[hl]at a;rw[jD]at a;dsimp only at a;split at a
  ·rename_i ok;cases a;refine⟨(Q i H2 l _ x2.w I ok).2 (bx.mp hl),?_⟩;exact hc G H2 l (w.trans x2) s I
  ·cases a
 |cons d ds=>
  right;rw[hl]at a;obtain⟨hi,R⟩:=i7 hl;rw[jD]at a;dsimp only at a;split at a
  ·rename_i ok;obtain⟨⟨U,N⟩,e3,a⟩:=oB1.mp a;obtain⟨⟨P,C,A⟩,X,a⟩:=oB1.mp a;obtain⟨go,yl⟩:=(Q i H2 l _ x2.w I ok).1 d hi;refine⟨go,Ke K mu1 H1 am.chk g b f au T ds,?_,λx H3 y=>?_⟩
   ·intro u H' V;exact⟨ds.length,bw _,(congrArg List.length R).symm,R.symm ▸ V⟩
   ·obtain⟨q,s3,q3⟩:=yl x H3 y;refine⟨r2,l,S2,d,U,N,s.ext q,s3,q3,e3,fun σ4 H4 F z D s4=>?_⟩;refine⟨U,F,N,P,C,A,D,s4,X,?_⟩;cases P with
    |nx=>exact λo t c p e n=>⟨C,c,A,(x2.trans q).trans (z.trans p),e,n,a⟩
    |ct=>exact λo t c p e n=>⟨C,c,A,(x2.trans q).trans (z.trans p),e,n,a⟩
    |bk=>cases a;exact λo t c p e n=>hc o t c ((w.trans x2).trans (q.trans (z.trans p))) e n
    |rt v=>cases a;exact λW t c p r5 n=>hc W t c ((w.trans x2).trans (q.trans (z.trans p))) r5 n
  ·cases a
theorem Fo{X:Cx}{pos:Pos}{tg iter:Expr}{a:List cT}{m:FI}{g:FG}{b:FS}(hp:PassesOwn (model X.prog X.w) X.A X.env X.xe)(hc:X.calm=M)(hi:MI X tg iter m)(hg:MG X tg g)(hb:xS X a b)(hs:autoParam (∀x,foldedSetIterable iter X.env x=pure x) du0):MS X (.For tg iter a [] pos) (eM m g b):=ga (EG hp hc hi hg hb hs) λ_ _ _=>CB
noncomputable def d7(n:Nat)(ds:List D):Ev:=ds.map Z++aM (n-ds.length) Y
noncomputable def fG (n:Nat)(b:FS):FN:=λds S=>(b (d7 n ds) S).bind λp=>match p.1 with
 | .rt d=>some (d,p.2.2)
 | .nx=>some (.non,p.2.2)
 |_=>none
theorem wU{K:Fg1}{H:Hp}{mu:List cH}{ds:List D}{vs:List V}(N:List Str)(h:db K H mu ds vs):eI K H mu (d7 N.length ds) (L2.start N vs):=by
 refine⟨?_,λi d e=>?_⟩
 ·unfold d7 L2.start;rw[lA1,lA1,lM1,lM1,lR1,lR1,h.length]
 ·unfold d7 at e;unfold L2.start;by_cases hi:i<ds.length
  ·rw[gL1 (by rw[lM1];exact hi),gP1]at e;obtain⟨d',c,b⟩:=oM1.mp e;cases b;obtain⟨v,a,r⟩:=h.get c;refine⟨v,?_,r⟩;rw[gL1 (by rw[lM1,<- h.length];exact hi),gP1,a];rfl
  ·rw[gR1 (by rw[lM1];lia)]at e;have:=gM1 e;rw[List.mem_replicate]at this;cases this.2
theorem Ik{P:cI}{w:cK}{K:Fg1}{mg:Str->Option cF}{base:cR}{x c:Str}{st:cT}{f:cH}{fd:cS}{N ps:List Str}{k:Nat}{b:FS}(F:xZ K x c st f fd)(S:fS N ps (dv st))(g:∀(e:cF) (A:cJ) (a:List Env) (s:cG) (H:Hp) (E:XK),fb k (A.deeper (envOfC c (dv st) s.heap.objs.size f e)) ->
   xS (mD uh P w K mg base N c (dv st) f e A a s H E).nox (eK st) b):k3 P w K mg base uh (k+1) f fd ps (yF K ps.length (fG N.length b)):=by
 refine xZ.ok F S (λvs H Q E h=>h.1) λe A a s H vs Q E q j=>⟨_,g e A a s H E q,?_⟩;obtain⟨_,mu,St,ds,d,u,h1,h2,i,m⟩:=j;unfold fG at i;obtain⟨⟨l,r,o⟩,n,i⟩:=oB1.mp i;refine⟨_,mu,St,l,r,o,wU N h1,h2,n,?_⟩;cases l with
 |nx=>cases i;exact λp H' mu' x t s=>m .non H' mu' x .non s
 |rt d=>cases i;exact m
 |bk=>cases i
 |ct=>cases i
noncomputable def gI(cells:List (Str×cH)):List (Str×NameKind)->List (Str×cH)->Option (List (Str×cH))
 |[],acc=>Z acc
 |(n,k)::r,acc=>if k == .free then(cells.lookup n).bind λc=>gI cells r ((n,c)::acc)else gI cells r acc
theorem vh{env:Env}(f:Str×NameKind->List (Str×cH)->Sem (ForInStep (List (Str×cH))))(hf:∀n k cs,f (n,k) cs=if k == .free then(do let c<-cellOf env n;pure (.yield ((n,c)::cs)))else pure (.yield cs)):
  ∀(a:List (Str×NameKind)) (acc b:List (Str×cH)),gI env.cells a acc=Z b->forIn a acc f=(pure b:Sem (List (Str×cH)))
 |[],acc,b,h=>by cases h;rfl
 |(n,k)::r,acc,b,h=>by
  rw[List.forIn_cons,hf];unfold gI at h;split at h
  ·rename_i d;rw[ak d];obtain⟨c,e,h⟩:=oB1.mp h;have:cellOf env n=pure c:=by unfold cellOf;rw[e]
   rw[this,pure_bind,pure_bind];exact vh f hf r _ b h
  ·rename_i d;rw[aj d,pure_bind];exact vh f hf r _ b h
theorem vi{scope:cU}{env:Env}{cl:List (Str×cH)}(h:gI env.cells scope.names []=Z cl):closureFor scope env=pure cl:=by
 simp only[closureFor];rw[vh (env:=env) _ (λn k cs=>by cases hk:k == NameKind.free<;>simp[hk]) scope.names [] cl h];rfl
theorem vg{a:List (Str×cH)}:∀{b:List (Str×NameKind)} {acc d:List (Str×cH)},gI a b acc=Z d->(∀x c,acc.lookup x=Z c->a.lookup x=Z c) -> ∀x c,d.lookup x=Z c->a.lookup x=Z c
 |[],acc,d,h,ha=>by cases h;exact ha
 |(n,k)::r,acc,d,h,ha=>by
  unfold gI at h;split at h
  ·obtain⟨c,e,h⟩:=oB1.mp h;refine vg h λx f q=>?_;rw[bA]at q;split at q
   ·rename_i g;cases q;rw[beq_iff_eq.mp g];exact e
   ·exact ha x f q
  ·exact vg h ha
theorem mR{b:List (Str×cH)}{x:Str}:∀{a:List (Str×NameKind)} {acc d:List (Str×cH)},gI b a acc=Z d->(a.lookup x=Z .free\/(acc.lookup x).isSome=M)->(d.lookup x).isSome=M
 |[],acc,d,h,ha=>by
  cases h;rcases ha with q|q
  ·cases q
  ·exact q
 |(n,k)::r,acc,d,h,ha=>by
  unfold gI at h;split at h
  ·obtain⟨c,e,h⟩:=oB1.mp h;refine mR h ?_;rcases ha with q|q
   ·rw[bA]at q;split at q
    ·rename_i g;right;rw[bA,g];rfl
    ·exact .inl q
   ·right;rw[bA];split
    ·rfl
    ·exact q
  ·rename_i f;refine mR h ?_;rcases ha with q|q
   ·rw[bA]at q;split at q
    ·cases q;exact absurd O f
    ·exact .inl q
   ·exact .inr q
theorem fQ{x:Str}{c:cH}:∀{a:List (Str×NameKind)} {n:Nat} {acc:List (Str×cH)},(cellsFrom n a acc).lookup x=Z c->(n<=c/\(x,c)∈cellsFrom n a [])\/acc.lookup x=Z c
 |[],_,_,h=>.inr h
 |(y,k)::r,n,acc,h=>by
  unfold cellsFrom at h ⊢;split at h
  ·rename_i b;rw [if_pos b];have app:∀ (a:List (Str×NameKind)) (m:Nat) (acc:List (Str×cH)),cellsFrom m a acc=cellsFrom m a []++acc:=by
    intro a
    induction a with
    |nil=>intro m acc;rfl
    |cons p r ih=>
     obtain⟨z,q⟩:=p;intro m acc;unfold cellsFrom;split
     ·rw[ih _ ((z,m)::acc),ih _ [(z,m)],bB];rfl
     ·exact ih m acc
   rcases fQ h with⟨h1,h2⟩|h1
   ·refine .inl ⟨by lia,?_⟩;rw[app];exact aF _ h2
   ·rw[bA]at h1;split at h1
    ·rename_i d;cases h1;refine .inl ⟨nR1 _,?_⟩;rw[app,beq_iff_eq.mp d];exact mA1 _ mS1
    ·exact .inr h1
  ·rename_i b;rw[aj b];exact fQ h
theorem oJ{x:Str}{c:cH}{n:Nat}{acc:List (Str×cH)}{a:List (Str×NameKind)}(hx:a.lookup x=Z .cell)(h:(cellsFrom n a acc).lookup x=Z c):n<=c:=by
 have app:∀(a:List (Str×NameKind)) (m:Nat) (acc:List (Str×cH)),cellsFrom m a acc=cellsFrom m a []++acc:=by
  intro a
  induction a with
  |nil=>intro m acc;rfl
  |cons p r ih=>
   obtain⟨z,q⟩:=p;intro m acc;unfold cellsFrom;split
   ·rw[ih _ ((z,m)::acc),ih _ [(z,m)],bB];rfl
   ·exact ih m acc
 rw[app,List.lookup_append]at h;have q:=PySem.W.cellsFrom_some a n [] (.inl hx);obtain⟨b,e⟩:=aN.mp q;rw[e]at h;cases h;rcases fQ e with⟨h1,_⟩|h1
 ·exact h1
 ·cases h1
theorem g0 {ao:Model}{A:cJ}{E:cF->cG->Prop}{s:cG}{scope:cU}{globals:cH}{c:List (Str×cH)}{qual:Str}{func:Option cH}{code:cF}{env:Env}{b:cH}{Q:Env->cG->Prop}
  (d:Q {scope,locals:=s.heap.objs.size,globals,cells:=cellsFrom (s.heap.objs.size+1) scope.names c,qual,func,code:=env.code,frame:=env.frame,builtins:=env.builtins}
   {s with heap:=pushCells (s.heap.push {cls:=.type "dict",data:=.dict #[]}) scope.names}):
  cP ao A (newFunctionEnv scope globals c [] qual func code (Z env) b) Q E s:=by
 simp only[newFunctionEnv,Option.isSome_some,if_true];refine wB1 (wpAny_alloc ?_);refine wB1 (wpAny_layCells _ (λname a cells=>by cases hkc:a == NameKind.cell<;>simp[hkc]) _ _ _ _ ?_);rw[show({s with heap:=s.heap.push {cls:=.type "dict",data:=.dict #[]}}:cG).heap.objs.size=s.heap.objs.size+1 from hZ1 ..];refine wB1 ?_;rw[List.forIn_nil];exact wP1 (wP1 d)
noncomputable def cxC(X:Cx)(scope:cU)(cl:List (Str×cH))(T:List Str)(keep:List Nat)(s:cG)(H:Hp)(fp:List cH):Cx where
 prog:=X.prog
 w:=X.w
 K:=X.K
 mg:=X.mg
 base:=X.base
 A:=X.A
 N:=T++keep.map λi=>X.N.getD i (Str.ofString "")
 s₀:=s
 H₀:=H
 env:=compEnvC scope (cellsFrom (s.heap.objs.size+1) scope.names cl) s.heap.objs.size X.env
 outer:=X.stack
 stack:=X.stack
 ex:=fp
 fn:=λx=>scope.names.lookup x == Z .cell
 calm:=X.calm
 pn:=[]
 xe:=λ_ _=>False
noncomputable def oH(k:Nat)(keep:List Nat)(σ:L2.St):L2.St:=aM k Y++keep.map λi=>(σ[i]?).join
theorem iZ{env:Env}{x:Str}:∀ {a:List (Str×NameKind)},
  (a.map λ(n,k)=>if(k == NameKind.free&&env.scope.kind == .function&&env.kindOf n == Z .cell)then(n,NameKind.cell)else(n,k)).lookup x =
   (a.lookup x).map λk=>if(k == NameKind.free&&env.scope.kind == .function&&env.kindOf x == Z .cell)then NameKind.cell else k
 |[]=>rfl
 |(n,k)::r=>by
  show List.lookup x ((if(k == NameKind.free&&env.scope.kind == .function&&env.kindOf n == Z .cell)=M then(n,NameKind.cell)else(n,k))::_)=_;cases hx:x == n with
  |true=>
   have e:=beq_iff_eq.mp hx;subst e;by_cases hc:(k == NameKind.free&&env.scope.kind == .function&&env.kindOf x == Z .cell)=M
   ·rw[ak hc,bA,hx,bA,hx];simp only[oP1,ak hc]
   ·rw[aj hc,bA,hx,bA,hx];simp only[oP1,aj hc]
  |false=>
   have ih:=@iZ env x r;by_cases hc:(k == NameKind.free&&env.scope.kind == .function&&env.kindOf n == Z .cell)=M
   ·rw[ak hc,bA,hx,bA,hx];exact ih
   ·rw[aj hc,bA,hx,bA,hx];exact ih
structure Bb (X:Cx)(scope:cU)(T:List Str)(keep:List Nat):Prop where
 kind:scope.kind = .function
 names:∀x∈scope.names,x.2 = .local->scope.names.lookup x.1=some .local
 free:∀i∈keep,∃x,X.N[i]?=some x/\scope.names.lookup x=some .free/\(X.env.kindOf x=some .cell\/X.env.kindOf x=some .free)/\(x,NameKind.cell)∉scope.names
theorem nU{X:Cx}{ag:List (cH×Obj)}{σ:L2.St}{H:Hp}{s:cG}{scope:cU}{w:List (Str×cH)}{T:List Str}{keep:List Nat}{D:List cH}(I:Inv X ag σ H s)(C:Bb X scope T keep)(A:gI X.env.cells scope.names []=some w)(hf:∀b∈D,h8 X ag H b)(K:∀b∈D,∃o,s.heap.get? b=some o):
  Inv (cxC X scope w T keep s H D) [] (oH T.length keep σ) H {s with heap:=pushCells (s.heap.push {cls:=.type "dict",data:=.dict #[]}) scope.names}:=by
 have kept:∀b o,s.heap.get? b=Z o->(pushCells (s.heap.push {cls:=.type "dict",data:=.dict #[]}) scope.names).get? b=Z o:=λb o e=>pushCells_keeps _ _ b o (hP1 _ e);have B:=cellsFrom_ok scope.names (s.heap.push {cls:=.type "dict",data:=.dict #[]}) (s.heap.objs.size+1) [] ⟨λ_ _ V=>(nomatch V),List.Pairwise.nil⟩ (by rw[hZ1];exact nR1 _);rw[hZ1]at B;have F:=vg A (λx c q=>by cases q)
 -- a cell of the block: its own or an elder one
 have d:∀x c,(cellsFrom (s.heap.objs.size+1) scope.names w).lookup x=Z c->(s.heap.objs.size+1<=c/\(x,c)∈cellsFrom (s.heap.objs.size+1) scope.names [])\/X.env.cells.lookup x=Z c:=λx c h=>by
  rcases fQ h with h1|h1
  ·exact .inl h1
  ·exact .inr (F x c h1)
 have g:∀x c,X.env.cells.lookup x=Z c->c<s.heap.objs.size:=λx c e=>by
  obtain⟨v,z⟩:=I.cell x c e;exact z.lt
 have t:∀b∈D,b<s.heap.objs.size:=λb l=>by
  obtain⟨o,e⟩:=K b l;exact hL1 e
 have fst:∀b∈D,b∉frs X.stack:=λb l z=>by
  rcases aD.mp (I.stkSub b z)with q|q
  ·exact(hf b l).2.1 q
  ·exact(hf b l).2.2.1 q
 have kindOf:∀x,(cxC X scope w T keep s H D).env.kindOf x=(scope.names.lookup x).map λk=>if(k == NameKind.free&&X.env.scope.kind == .function&&X.env.kindOf x == Z .cell)then NameKind.cell else k:=λx=>iZ
 refine⟨⟨I.ok.mod,C.kind,I.ok.glob,I.ok.blt,nR1 _,λx y c h1 h2=>?_,λx E=>?_,λx c h1 h2=>?_,I.ok.hd,I.ok.frames,.inl O,λb l=>⟨nN1 (t b l),λx c h z=>?_⟩,λb o e=>I.bs b o e,aB I.ok.bsz I.sz,λb o e l=>?_,fst,I.stack,I.stkFree⟩,
  rfl,I.bare,Un.kept kept,⟨λ_=>Y,(Heap.Ns.new s.heap (.type "dict")).keeps (pushCells_keeps _ _),λi x v h1 h2 h3=>?_⟩,λx c h=>?_,I.hok.fresh (nR1 _),λx c h=>?_,λp R=>absurd (show p∈([]:List (cH×Obj))from R) (by simp),I.hok.kept kept,?_⟩
 ·rcases d x c h1 with⟨a1,a2⟩|a1<;>rcases d y c h2 with⟨b1,b2⟩|b1
  ·exact name_of_addr B.apart a2 b2
  ·exact absurd (bC (bD a1) (g y c b1)) (az _)
  ·exact absurd (bC (bD b1) (g x c a1)) (az _)
  ·exact I.ok.inj x y c a1 b1
 ·have L:scope.names.lookup x=some .cell\/scope.names.lookup x=some .free:=by
   rw[kindOf x]at E;cases e:scope.names.lookup x with
   |none=>rw[e]at E;rcases E with z|z<;>cases z
   |some k=>
    rw[e]at E;simp only[oP1]at E;cases k<;>simp_all
  have:((cellsFrom (s.heap.objs.size+1) scope.names w).lookup x).isSome=M:=by
   rcases L with z|z
   ·exact PySem.W.cellsFrom_some _ _ _ (.inl z)
   ·exact PySem.W.cellsFrom_some _ _ _ (.inr (mR A (.inl z)))
  exact aN.mp this
 ·have f:scope.names.lookup x=Z .cell:=by simpa[cxC]using h1
  have:=oJ f h2;exact aB (aU _) this
 ·subst z;rcases d x c h with⟨a1,_⟩|a1
  ·exact absurd (bC (bD a1) (t c l)) (az _)
  ·exact(hf c l).2.2.2.2.1 x c a1 O
 ·rcases(hf b l).2.2.2.1 with z|z
  ·exact I.ok.noex b o e z
  ·exact absurd (nL1 (hL1 e) (aB I.ok.bsz z)) (az _)
 ·-- a name of the block that has a value:one of the outer text's
  have hi:T.length<=i:=by
   refine Nat.le_of_not_lt λhi=>?_;unfold oH at h2;rw[gL1 (by rw[lR1];exact hi),aP]at h2;split at h2<;>cases h2
  unfold oH at h2;rw[gR1 (by rw[lR1];exact hi),lR1,gP1]at h2;obtain⟨j,P,h2⟩:=oM1.mp h2;have f:X.N.getD j (Str.ofString "")=x:=by
   have f:(T++keep.map λi=>X.N.getD i (Str.ofString ""))[i]?=Z x:=h1;rw[gR1 hi,gP1,P]at f;exact Option.some.inj f
  obtain⟨y,Q,N,ky,aq⟩:=C.free j (gM1 P);have G:y=x:=by rw[<- f,bE,Q];rfl
  subst G;have ao:σ[j]?=Z (Z v):=by
   cases e:σ[j]? with
   |none=>rw[e]at h2;cases h2
   |some o=>rw[e]at h2;cases h2;rfl
  obtain⟨m,hn,wq⟩:=I.loc;obtain⟨u,ru,lu⟩:=wq j y v Q ao (by
   rcases ky with z|z
   ·exact .inr (.inl z)
   ·exact .inr (.inr z))
  refine⟨u,ru,?_⟩;rcases lu with⟨z,_⟩|⟨_,c,ec,W⟩
  ·rcases ky with q|q<;>(rw[z]at q;cases q)
  ·right;refine⟨?_,c,?_,W.keeps kept⟩
   ·rw[kindOf,N];simp only[oP1];split
    ·exact .inl O
    ·exact .inr O
   ·obtain⟨c',S⟩:=aN.mp (PySem.W.cellsFrom_some scope.names (s.heap.objs.size+1) w (.inr (mR A (.inl N))):((cellsFrom (s.heap.objs.size+1) scope.names w).lookup y).isSome=M);have au:(cellsFrom (s.heap.objs.size+1) scope.names w).lookup y=Z c':=S;rcases d y c' au with⟨a1,a2⟩|a1
    ·-- an own cell of that name:its kind would be cell
     exfalso;have:∀(names:List (Str×NameKind)) (n:Nat),(y,c')∈cellsFrom n names []->(y,NameKind.cell)∈names:=by
      have app:∀(names:List (Str×NameKind)) (m:Nat) (acc:List (Str×cH)),cellsFrom m names acc=cellsFrom m names []++acc:=by
       intro names
       induction names with
       |nil=>intro m acc;rfl
       |cons p r ih=>
        obtain⟨z,q⟩:=p;intro m acc;unfold cellsFrom;split
        ·rw[ih _ ((z,m)::acc),ih _ [(z,m)],bB];rfl
        ·exact ih m acc
      intro names
      induction names with
      |nil=>intro n h;cases h
      |cons p r ih=>
       obtain⟨z,q⟩:=p;intro n h;unfold cellsFrom at h;split at h
       ·rename_i U;rw[app]at h;rcases aE.mp h with h|h
        ·exact mC1 _ (ih _ h)
        ·have:(y,c')=(z,n):=by simpa using h
         cases this;have am:q=NameKind.cell:=by simpa using U
         subst am;exact mS1
       ·exact mC1 _ (ih _ h)
     exact aq (this _ _ a2)
    ·rw[ec]at a1;cases a1;exact au
 ·rcases d x c h with⟨a1,a2⟩|a1
  ·exact⟨_,(B.empty x c a2).1⟩
  ·obtain⟨v,z⟩:=I.cell x c a1;exact⟨v,z.keeps kept⟩
 ·rcases d x c h with⟨a1,a2⟩|a1
  ·exact I.hok.fresh (bD a1)
  ·exact I.freeC x c a1
 ·show(oH T.length keep σ).length=(T++keep.map λi=>X.N.getD i (Str.ofString "")).length;unfold oH;rw[lA1,lA1,lR1,lM1,lM1]
noncomputable def ix(p:Pos)(tg:Expr)(ifs:List Expr)(it:cF)(env:Env)(emit:Sem Unit)(c:Code):Sem PySem.Fin:=do
 standAt p
 match<-pyNext it with
 |none=>pure (.done .next)
 |some v=>
  letOwnedTupleGo tg it v
  assign tg env v
  let mut ok:=M
  for c in ifs do
   if ok then ok<-isTrue c env (eval c env)
  if ok then emit
  again c
noncomputable def l7(elt:Expr)(acc:cF)(env:Env):Sem Unit:=do let _<-call (.builtin "list.append") [acc,<- eval elt env]
noncomputable def oh(e:Expr)(iter:Expr)(acc:cF)(env:Env):Sem Unit:=do
 let x<-eval iter env
 standAt iter.pos
 let x<-foldedSetIterable iter env x
 let _<-runOwn (.compStart e 1 (<- holding [x] (pyIter x)) acc env) env
theorem uC(elt tg iter:Expr)(ifs:List Expr)(scope:cU)(pos:Pos)(it acc:cF)(env:Env):
  compTurn (.ListComp elt [⟨tg,iter,ifs,0⟩] scope pos) 0 it acc env=ix iter.pos tg ifs it env (l7 elt acc env) (.compLoop (.ListComp elt [⟨tg,iter,ifs,0⟩] scope pos) 0 it acc env):=by rfl
noncomputable def Dx(p:Pos)(tg:Expr)(ifs:List Expr)(it:cF)(env:Env)(e iter:Expr)(acc:cF)(c:Code):Sem PySem.Fin:=do
 standAt p
 match<-pyNext it with
 |none=>pure (.done .next)
 |some v=>
  letOwnedTupleGo tg it v
  assign tg env v
  let mut ok:=M
  for c in ifs do
   if ok then ok<-isTrue c env (eval c env)
  if ok then
   let x<-eval iter env
   standAt iter.pos
   let x<-foldedSetIterable iter env x
   let _<-runOwn (.compStart e 1 (<- holding [x] (pyIter x)) acc env) env
  again c
theorem Bt(p:Pos)(tg:Expr)(ifs:List Expr)(it:cF)(env:Env)(e iter:Expr)(acc:cF)(c:Code):Dx p tg ifs it env e iter acc c=ix p tg ifs it env (oh e iter acc env) c:=by
 unfold Dx ix oh;simp only[bind_assoc,pure_bind]
theorem yq(elt tg iter tg2 iter2:Expr)(ifs ifs2:List Expr)(scope:cU)(pos:Pos)(it acc:cF)(env:Env):
  compTurn (.ListComp elt [⟨tg,iter,ifs,0⟩,⟨tg2,iter2,ifs2,0⟩] scope pos) 0 it acc env =
   ix iter.pos tg ifs it env (oh (.ListComp elt [⟨tg,iter,ifs,0⟩,⟨tg2,iter2,ifs2,0⟩] scope pos) iter2 acc env) (.compLoop (.ListComp elt [⟨tg,iter,ifs,0⟩,⟨tg2,iter2,ifs2,0⟩] scope pos) 0 it acc env):=by
 rw[<- Bt];rfl
theorem D9(elt tg iter tg2 iter2:Expr)(ifs ifs2:List Expr)(scope:cU)(pos:Pos)(it acc:cF)(env:Env):
  compTurn (.ListComp elt [⟨tg,iter,ifs,0⟩,⟨tg2,iter2,ifs2,0⟩] scope pos) 1 it acc env =
   ix iter2.pos tg2 ifs2 it env (l7 elt acc env) (.compLoop (.ListComp elt [⟨tg,iter,ifs,0⟩,⟨tg2,iter2,ifs2,0⟩] scope pos) 1 it acc env):=by rfl
def lF(X:Cx)(ifs:List Expr)(t:TT):Prop:=
 ∀(ag:List (cH×Obj)) (s:cG) (σ:L2.St) (H:Hp) (Q:Bool->Hp->Prop),Inv X ag σ H s->t σ H Q ->
  cP (model X.prog X.w) X.A (forIn ifs M λc r=>if r=M then do let ok<-isTrue c X.env (eval c X.env);pure (ForInStep.yield ok)else pure (ForInStep.yield r)) (TP X ag σ Q) X.xe s
theorem zd{X:Cx}:lF X [] (fun σ H Q=>Q M H):=λag s σ H Q I h=>wpAny_tests_nil ⟨H,I,h⟩
theorem zb{X:Cx}{c:Expr}{t:TT}(h:PT X c t):lF X [c] t:=λag s σ H Q I q=>wpAny_tests_one (h ag s σ H Q I q)
def PU(X:Cx)(m:Sem Unit)(t:TS):Prop:=
 ∀(ag:List (cH×Obj)) (s:cG) (σ:L2.St) (H:Hp) (E:gJ),Inv X ag σ H s->t E σ H->cP (model X.prog X.w) X.A m (λ_ s'=>∃ σ' H',Inv X ag σ' H' s'/\E.nx σ' H') X.xe s
theorem ly{X:Cx}(hx:X.xe=fun _ _=>False)(hc:X.calm=true){elt:Expr}{c:List Comprehension}{scope:cU}{pos p:Pos}{d:Nat}{tg:Expr}{ifs:List Expr}{acc:cF}{emit:Sem Unit}{am:It}{t:List cH}{it:cH}{P:Nat->cR->Prop}{g:TG}{ti:TT}{tb:TS}(eq:compTurn (.ListComp elt c scope pos) d (.ref it) acc X.env=ix p tg ifs (.ref it) X.env emit (.compLoop (.ListComp elt c scope pos) d (.ref it) acc X.env))(T:rP X.prog X.w X.K tg am t it P)(hg:PG X tg g)(hi:lF X ifs ti)(he:PU X emit tb){ag:List (cH×Obj)}{s:cG}{σ:L2.St}{H:Hp}{D:gJ}(I:Inv X ag σ H s)(st:P 0 s.heap)(f2:∀b∈t,h8 X ag H b)(h:∃W:Nat->Nat->L2.St->Hp->Prop,(∃m,W 0 m σ H) /\ ∀i m σ H,W i m σ H ->
   (am.stop i H/\D.nx σ H)\/(am.go i H /\ ∃N:L2.St->Hp->Prop,(∀a H',N a H' -> ∃au,au<m/\W (i+1) au a H') /\ ∀x H',am.yld i H x H'->g x σ H' λz H2=>ti z H2 λb y=>if b=M then tb {D with nx:=N} z y else N z y)):
  cQ (model X.prog X.w) X.A (.compLoop (.ListComp elt c scope pos) d (.ref it) acc X.env) (λr s'=>match r with | .ok _=>∃a H',Inv X ag a H' s'/\D.nx a H' | .error _=>False) s:=by
 obtain⟨W,⟨m0,w0⟩,ao⟩:=h;have k:∀{H':Hp},(∀b∈t,H' b=Y) -> ∀b∈t,h8 X ag H' b:=λhn b l=>⟨hn b l,(f2 b l).2⟩;refine codeAny_loop O (λn s'=>∃i a H',Inv X ag a H' s'/\P i s'.heap/\(∀b∈t,H' b=Y)/\W i n a H') ?_ m0 ⟨0,σ,H,I,st,λb l=>(f2 b l).1,w0⟩;rintro n R ⟨i,j,y,I3,G,L,w3⟩;show cP _ _ ((compTurn (.ListComp elt c scope pos) d (.ref it) acc X.env).onRaise (λx=>do noteFrame x X.env;theTreesLotGoes x)) _ _ R;refine wpAny_noted ?_;rw[eq];have A:∀{α:Type} {m:Sem α} {Q:α->cG->Prop} {s:cG} {E:cF->cG->Prop},cP (model X.prog X.w) X.A m Q X.xe s->cP (model X.prog X.w) X.A m Q E s:=λh=>by
  rw[hx]at h;exact wpAny_mono h (λ_ _ q=>q) λ_ _ q=>q.elim
 unfold ix;refine wB1 (wpAny_standAt (wB1 ?_));rcases ao i n j y w3 with⟨F,qn⟩|⟨go,N,hN,step⟩
 ·refine A (eu (T.done X O O O hc i ag R j y X.xe I3 (k L) G F) λr s4 ⟨V,I4⟩=>?_);subst V;exact wP1 ⟨j,y,I4,qn⟩
 ·refine A (eu (T.item X rfl rfl rfl hc i ag R j y X.xe I3 (k L) G go) fun r s4 ⟨u,V,h4⟩=>?_);subst V;refine wB1 (A (eu h4 fun _ aq ⟨x,H5,I5,r5,y5,w,U⟩=>?_));have S:=I5.pinned (k U) (T.obj _ _ w);refine wB1 (A (eu (hg _ aq j H5 x u _ S r5 (step x H5 y5)) fun _ s6 ⟨K,H6,I6,q6⟩=>?_));refine wB1 (A (eu (hi _ s6 K H6 _ I6 q6) fun ok C ⟨v,B,wq⟩=>?_));have again':∀ {f:L2.St} {v:Hp} {C:cG},Inv X (ag++lf t aq.heap) f v C->N f v -> ∃ m,m<n /\ ∃ i a H',Inv X ag a H' C/\P i C.heap/\(∀ b∈t,H' b=none)/\W i m a H':=fun {f v C} B n7=>by
   obtain⟨au,hm,w7⟩:=hN f v n7;refine⟨au,hm,i+1,f,v,B.unpinned,T.keep _ _ _ w λb l o e=>(B.pin (b,o) (mA1 _ (mA1 _ (fL l e)))).1,λb l=>?_,w7⟩;obtain⟨o,e,d⟩:=T.obj _ _ w b l;exact(B.pin (b,o) (mA1 _ (mA1 _ (fL l e)))).2.1
  cases ok with
  |false=>exact wP1 ⟨O,again' B wq⟩
  |true=>exact wB1 (A (eu (he _ C K v _ B wq) λ_ s8 ⟨σ8,H8,I8,q8⟩=>wP1 ⟨O,again' I8 q8⟩))
def nh(p:cH)(te:TE):TS:=λD σ H=>te σ H λx H1=>∃xs,H1 p=Z (.lst xs)/\xs.length<cO/\D.nx σ (upd H1 p (.lst (xs++[x])))
theorem kn{X:Cx}{elt:Expr}{te:TE}(h:PE X elt te)(p:cH):PU X (l7 elt (.ref p) X.env) (nh p te):=by
 intro ag s σ H E I q;unfold l7;refine wB1 (eu (h ag s σ H _ I q) λu i ⟨x,H1,c,e,xs,b,a,f⟩=>?_);refine wB1 (eu (pi ag i σ H1 (.ref p) [x] (.ref p) [u] (λ_ H'=>E.nx σ H') c O (.cons e .nil) ⟨p,xs,x,O,O,b,a,f⟩) λ_ j ⟨_,H2,d,_,g⟩=>?_);exact wP1 ⟨σ,H2,d,g⟩
noncomputable def oQ(am:It)(g:TG)(ti:TT)(tb:TS):TS:=λD σ H=>∃W:Nat->Nat->L2.St->Hp->Prop,(∃m,W 0 m σ H) /\ ∀i m σ H,W i m σ H ->
 (am.stop i H/\D.nx σ H)\/(am.go i H /\ ∃N:L2.St->Hp->Prop,(∀ σ' H',N σ' H' -> ∃m',m'<m/\W (i+1) m' σ' H') /\ ∀x H',am.yld i H x H'->g x σ H' fun σ2 H2=>ti σ2 H2 λb H3=>if b=M then tb {D with nx:=N} σ2 H3 else N σ2 H3)
def vL(wi:TI)(g:TG)(ti:TT)(tb:TS):TS:=λD σ H=>wi σ H λam H1=>oQ am g ti tb D σ H1
theorem tP{prog:cI}{w:cK}{A:cJ}{R:Result->cG->Prop}{s:cG}{elt tg iter tg2 iter2:Expr}{ifs ifs2:List Expr}{scope:cU}{pos:Pos}{it acc:cF}{env:Env}(b:cQ (model prog w) A (.compLoop (.ListComp elt [⟨tg,iter,ifs,0⟩,⟨tg2,iter2,ifs2,0⟩] scope pos) 1 it acc env) R s)(h:cP (model prog w) A (pyIter it) (fun a s'=>cQ (model prog w) A (.compLoop (.ListComp elt [⟨tg,iter,ifs,0⟩,⟨tg2,iter2,ifs2,0⟩] scope pos) 1 a acc env) R s')
   (notedBy (model prog w) A env λx s'=>R (.error x) s') s):
  cQ (model prog w) A (.compStart (.ListComp elt [⟨tg,iter,ifs,0⟩,⟨tg2,iter2,ifs2,0⟩] scope pos) 1 it acc env) R s:=by
 refine codeAny_of_tree ?_;show cP _ _ ((compStart (.ListComp elt [⟨tg,iter,ifs,0⟩,⟨tg2,iter2,ifs2,0⟩] scope pos) 1 it acc env).onRaise (λx=>do noteFrame x env;standAt theWindowsPlace)) _ _ s;refine wpAny_notedAt ?_;unfold compStart;show cP _ _ (ask >>= _) _ _ s;refine wB1 (wpAny_askSetting (wpAny_ite ?_));split
 ·first
   |exact wB1 (wP1 (wP1 (And.intro rfl b)))
   |exact wP1 (And.intro rfl b)
 ·first
   |exact wB1 (wpAny_rule (wB1 (wpAny_standAt (wB1 (wpAny_mono h (λa s' h'=>wP1 (And.intro O h')) λ_ _ x=>x)))))
   |(refine wB1 (wpAny_rule ?_);show cP _ _ (standAt iter2.pos >>= _) _ _ s;exact wB1 (wpAny_standAt (wB1 (wpAny_mono h (λa s' h'=>wP1 (And.intro O h')) λ_ _ x=>x))))
theorem vV{X:Cx}(hx:X.xe=fun _ _=>False)(hc:X.calm=true){elt tg iter tg2 iter2:Expr}{ifs ifs2:List Expr}{scope:cU}{pos:Pos}{acc:cF}{d:TI}{g:TG}{ti:TT}{tb:TS}(hi:PI X tg2 iter2 d)(hg:PG X tg2 g)(hf:lF X ifs2 ti)(he:PU X (l7 elt acc X.env) tb)(hs:autoParam (∀x,foldedSetIterable iter2 X.env x=pure x) du0):
  PU X (oh (.ListComp elt [⟨tg,iter,ifs,0⟩,⟨tg2,iter2,ifs2,0⟩] scope pos) iter2 acc X.env) (vL d g ti tb):=by
 intro ag s σ H E I q;unfold oh;refine wB1 (eu (hi ag s σ H _ I q) λv w h1=>?_);refine wB1 (wpAny_standAt (wB1 (wpAny_of_eq (hs v) (wB1 (wpAny_holding (eu h1 λj o h2=>?_))))));obtain⟨it,t,u,am,H2,rfl,k,T,b,l,p⟩:=h2;have a:=ly hx hc (D9 elt tg iter tg2 iter2 ifs ifs2 scope pos (.ref it) acc X.env) T hg hf he k b l p;refine wB1 (wpAny_runOwn (h:=Y) ?_);refine codeAny_mono (tP a (T.self X.A 0 o _ _ b a)) λr s' i=>?_;cases r with
 |error e=>exact i.elim
 |ok f=>
  obtain⟨c,H',m,n⟩:=i;exact wP1 ⟨c,H',m,n⟩
theorem Un.sameBut{fs ex:List cH}{H H':Hp}{h h1 h2:cR}{c:cH}(u:Un fs ex H H' h h1)(hs:Heap.SameBut c h1 h2)(hc:h.get? c=Y):Un fs ex H H' h h2:=by
 have ne:∀{b o},h.get? b=Z o->b≠c:=λe z=>by rw[z,hc]at e;cases e
 refine⟨λb o e n d a=>(hs.2 b (ne e)).trans (u.keep b o e n d a),λb o e n d a=>?_,u.free,λb o e a=>?_,u.tups,u.frzs,u.tbls⟩
 ·obtain⟨f,q⟩:=u.slot b o e n d a;exact⟨f,(hs.2 b (ne e)).trans q⟩
 ·obtain⟨o',q⟩:=u.there b o e a;exact⟨o',(hs.2 b (ne e)).trans q⟩
def vN(k:Nat)(keep:List Nat)(wi:TI)(g:TG)(ti:TT)(tb:cH->TS):TE:=fun σ H Q=>wi σ H λam H1=>∀p,H1 p=Y ->
 oQ am g ti (tb p) {nx:=λ_ H'=>Q (.ref p) H',rt:=λ_ _=>False} (oH k keep σ) (upd H1 p (.lst []))
theorem qo{X:Cx}(hc:X.calm=true){elt tg iter:Expr}{ifs:List Expr}{rest:List Comprehension}{scope:cU}{pos:Pos}{T:List Str}{keep:List Nat}{l:List (Str×cH)}{E:TI}{g:TG}{ti:TT}{tb:cH->TS}{emit:cF->Env->Sem Unit}(eq:∀it k i,compTurn (.ListComp elt (⟨tg,iter,ifs,0⟩::rest) scope pos) 0 it k i=ix iter.pos tg ifs it i (emit k i) (.compLoop (.ListComp elt (⟨tg,iter,ifs,0⟩::rest) scope pos) 0 it k i))(C:Bb X scope T keep)(w:gI X.env.cells scope.names []=some l)(hi:PI X tg iter E)(hb:∀s H d p,PG (cxC X scope l T keep s H d) tg g/\lF (cxC X scope l T keep s H d) ifs ti/\PU (cxC X scope l T keep s H d) (emit (.ref p) (cxC X scope l T keep s H d).env) (tb p))(hs:autoParam (∀x,foldedSetIterable iter X.env x=pure x) du0):
  PE X (.ListComp elt (⟨tg,iter,ifs,0⟩::rest) scope pos) (vN T.length keep E g ti tb):=by
 intro ag s σ H Q I h;rw[eval_ListComp];refine wpAny_comprehension_free (use:=Y) O hs (vi w) C.kind C.names ?_;refine eu (hi ag s σ H _ I h) λv s1 h1=>eu h1 λP a h2=>?_;obtain⟨it,d,V,am,H2,rfl,G,TT,y,K,R⟩:=h2;refine wO1 ?_;have ao:Inv X ag σ (upd H2 a.heap.objs.size (.lst [])) {a with heap:=a.heap.push {cls:=.type "list",data:=.seq ([]:List cF).toArray}}:=G.lnew (t':=a.toks) .nil (bf _);have old:∀b∈d,∃o,a.heap.get? b=Z o:=λb hb=>by
  obtain⟨o,e,_⟩:=TT.obj 0 a.heap y b hb;exact⟨o,e⟩
 have D:∀b∈d,b≠a.heap.objs.size:=λb hb z=>by
  obtain⟨o,e⟩:=old b hb;have:=hL1 e;rw[z]at this;exact az _ this
 have B:∀b∈d,h8 X ag (upd H2 a.heap.objs.size (.lst [])) b:=λb hb=>⟨by rw[c5 (D b hb)];exact(K b hb).1,(K b hb).2⟩;have W:∀b∈d,∃o,({a with heap:=a.heap.push {cls:=.type "list",data:=.seq ([]:List cF).toArray}}:cG).heap.get? b=Z o:=λb hb=>by
  obtain⟨o,e⟩:=old b hb;exact⟨o,hP1 _ e⟩
 have A:=nU ao C w B W;obtain⟨au,aq,S⟩:=hb {a with heap:=a.heap.push {cls:=.type "list",data:=.seq ([]:List cF).toArray}} (upd H2 a.heap.objs.size (.lst [])) d a.heap.objs.size;refine g0 ?_;have wq:∀b∈d,h8 (cxC X scope l T keep {a with heap:=a.heap.push {cls:=.type "list",data:=.seq ([]:List cF).toArray}} (upd H2 a.heap.objs.size (.lst [])) d) [] (upd H2 a.heap.objs.size (.lst [])) b:=λb hb=>
  ⟨(B b hb).1,(A.ok.exf b hb).1,A.ok.exfs b hb,.inl hb,(A.ok.exf b hb).2,λp N=>absurd (show p∈([]:List (cH×Obj))from N) (by simp)⟩
 have t:V 0 (pushCells ((a.heap.push {cls:=.type "list",data:=.seq ([]:List cF).toArray}).push {cls:=.type "dict",data:=.dict #[]}) scope.names):=
  TT.keep 0 a.heap _ y λb hb o e=>pushCells_keeps scope.names _ b o (hP1 _ (hP1 _ e))
 have j:=ly (X:=cxC X scope l T keep {a with heap:=a.heap.push {cls:=.type "list",data:=.seq ([]:List cF).toArray}} (upd H2 a.heap.objs.size (.lst [])) d) O hc (eq (.ref it) (.ref a.heap.objs.size) _) TT au aq S A t wq
  (R a.heap.objs.size (G.hok.fresh (nR1 _)))
 refine codeAny_mono (codeAny_compStart_list j (TT.self X.A 0 _ _ _ t j)) λr s' L=>?_;cases r with
 |error e=>exact L.elim
 |ok f=>
  obtain⟨σ',H',n,q'⟩:=L;obtain⟨m,U,_⟩:=id n.loc;refine⟨m,U,λh' u=>⟨.ref a.heap.objs.size,H',?_,O,q'⟩⟩;refine ao.call' (s':={s' with heap:=h'}) (ch:=d) n.os (Un.sameBut n.base u (Heap.get?_none_of_le (nR1 _))) (λb ob e=>?_) n.bare λb hb=>(B b hb).2.2.2 |> λz=>⟨z.1,(B b hb).2.1,z.2.1,z.2.2⟩
  refine(n.hok b ob e).stay (λc w' hc q=>(u.2 c ?_).trans q) (λ_ q=>q) λ_ _ q=>q;rintro rfl;have F:=n.free;rcases hc with rfl|hc
  ·exact nomatch F.symm.trans e
  ·exact nomatch F.symm.trans hc
section
variable{K:Fg1}{H:Hp}{mu:List cH}{S:cZ}{p:cH}{u:HO}{o:Ob}{n:Nat}
theorem Rd.ne{a:cH}{x:HO}(h:H p=Y)(q:Rd H a x):a≠p:=by
 rintro rfl;rcases q with q|⟨_,q⟩<;>(rw[h]at q;cases q)
theorem Ext.fresh(hp:H p=Y):Ext mu mu H (upd H p u) where
 pre:=bi
 old:=λa o h _=>by rw[c5 (dJ h hp)];exact h
 tup:=λa xs h=>by
  have ne:=Rd.ne hp h;rcases h with h|⟨b,h⟩
  ·exact .inl (by rw[c5 ne];exact h)
  ·exact .inr ⟨b,by rw[c5 ne];exact h⟩
 frz:=λa o x h=>by rw[c5 (dJ h hp)];exact h
 new:=λ_ h=>.inl h
theorem Ext.new_(hp:H p=Y):Ext mu (mu++[p]) H (upd H p u) where
 pre:=br _ _
 old:=(Ext.fresh (mu:=mu) hp).old
 tup:=(Ext.fresh (mu:=mu) hp).tup
 frz:=(Ext.fresh (mu:=mu) hp).frz
 new:=λa h=>by
  rcases aE.mp h with h|h
  ·exact .inl h
  ·have:a=p:=by simpa using h
   subst this;exact .inr hp
theorem Sim.fresh(s:Sim K H mu S)(hp:H p=Y):Sim K (upd H p u) mu S:=
 ⟨s.len,s.nd,λk o a h1 h2=>(s.ob k o a h1 h2).keep (Ext.fresh hp) λb e=>by rw[c5 (dJ e hp)];exact e⟩
theorem Sim.notin(s:Sim K H mu S)(hp:H p=Y):p∉mu:=λh=>by
 obtain⟨o,e⟩:=s.here h;rw[hp]at e;cases e
theorem ObR.more{a:cH}{mu':List cH}{H':Hp}(e:Ext mu mu' H H')(h:∀o,H a=Z o->H' a=Z o):∀{o:Ob},ObR K H mu a o->ObR K H' mu' a o
 | .lst _,⟨vs,q,r⟩=>⟨vs,h _ q,r.ext e⟩
 | .dct _,⟨ws,q,r⟩=>⟨ws,h _ q,KR.ext e r⟩
 | .dcT _,⟨ws,q,r,l⟩=>⟨ws,h _ q,KT.ext e r,l⟩
 | .iset _,q=>⟨h _ q.1,q.2⟩
 | .dcF _,⟨ws,⟨o,u,c,b⟩,r,l⟩=>⟨ws,⟨o,u,h _ c,b⟩,KT.ext e r,l⟩
 | .tst _,⟨ws,q,r⟩=>⟨ws,h _ q,KT.ext e r⟩
theorem Sim.new(s:Sim K H mu S)(hp:H p=Y)(ho:ObR K (upd H p u) (mu++[p]) p o):Sim K (upd H p u) (mu++[p]) (S++[o]):=by
 refine⟨by rw[lA1,lA1,s.len];rfl,?_,λk o' a h1 h2=>?_⟩
 ·rw[bu];refine⟨s.nd,by simp,λa f b g e=>?_⟩;have:b=p:=by simpa using g
  subst this;subst e;exact s.notin hp f
 ·by_cases d:k<S.length
  ·rw[gL1 d]at h1;rw[gL1 (by rw[s.len];exact d)]at h2;exact(s.ob k o' a h1 h2).more (Ext.new_ hp) λh e=>by rw[c5 (dJ e hp)];exact e
  ·have c:k=S.length:=by
    have:=(gE1.mp h1).1;rw[lA1]at this;simp at this;lia
   subst c;rw[gR1 (nR1 _)]at h1;rw[<- s.len,gR1 (nR1 _)]at h2;simp at h1 h2;subst h1;subst h2;exact ho
theorem Ext.put{x:HO}(hp:H p=Z x)(hm:Mut (Z x))(b:p∈mu):Ext mu mu H (upd H p u) where
 pre:=bi
 old:=λa o h n=>by rw[c5 (λe=>n (by rw[e];exact b))];exact h
 tup:=λa xs h=>by
  have ne:a≠p:=by
   rintro rfl;rcases h with h|⟨_,h⟩<;>(rw[hp]at h;cases h;exact hm)
  rcases h with h|⟨c,h⟩
  ·exact .inl (by rw[c5 ne];exact h)
  ·exact .inr ⟨c,by rw[c5 ne];exact h⟩
 frz:=λa o y h=>by
  rw[c5 (λe=>?_)]
  ·exact h
  ·subst e;rw[hp]at h;cases h;exact hm
 new:=λ_ h=>.inl h
theorem Sim.put(s:Sim K H mu S){x:HO}(hn:mu[n]?=Z p)(hp:H p=Z x)(hm:Mut (Z x))(ho:ObR K (upd H p u) mu p o):Sim K (upd H p u) mu (S.set n o):=by
 refine⟨by rw[aS];exact s.len,s.nd,λk o' a h1 h2=>?_⟩;by_cases b:n=k
 ·subst b;have c:n<S.length:=by
   have:=(gE1.mp h1).1
   rwa [aS]at this
  rw[aG c]at h1;cases h1;rw[hn]at h2;cases h2;exact ho
 ·rw [gS1 b] at h1;have ne:a≠p:=fun e=>by
   subst e;obtain⟨g,d⟩:=gE1.mp hn;obtain⟨h,f⟩:=gE1.mp h2;exact b ((List.getElem_inj s.nd).mp (d.trans f.symm))
  exact(s.ob k o' a h1 h2).keep (Ext.put hp hm (gM1 hn)) λi e=>by rw[c5 ne];exact e
theorem Sim.lst(s:Sim K H mu S){ds:List D}{a:cH}(h:S[n]?=Z (.lst ds))(hn:mu[n]?=Z a):∃vs,H a=Z (.lst vs)/\db K H mu ds vs:=s.ob n _ a h hn
theorem Sim.dcT(s:Sim K H mu S){ks:List (TK×D)}{a:cH}(h:S[n]?=Z (.dcT ks))(hn:mu[n]?=Z a):∃ws,H a=Z (.ext (d5 a ws))/\KT K H mu ks ws/\ws.length<=cO:=s.ob n _ a h hn
theorem Sim.dct(s:Sim K H mu S){ks:List (Key×D)}{a:cH}(h:S[n]?=Z (.dct ks))(hn:mu[n]?=Z a):∃ws,H a=Z (.dK ws)/\KR K H mu ks ws:=s.ob n _ a h hn
theorem Sim.newL(s:Sim K H mu S){ds:List D}{vs:List V}(r:db K H mu ds vs)(hp:H p=Y):Sim K (upd H p (.lst vs)) (mu++[p]) (S++[.lst ds]):=s.new hp ⟨vs,di,r.ext (Ext.new_ hp)⟩
theorem Sim.putL(s:Sim K H mu S){ds:List D}{vs ws:List V}(r:db K H mu ds vs)(hn:mu[n]?=Z p)(hp:H p=Z (.lst ws)):Sim K (upd H p (.lst vs)) mu (S.set n (.lst ds)):=
 s.put hn hp trivial ⟨vs,di,r.ext (Ext.put hp trivial (gM1 hn))⟩
end
theorem gb{mu:List cH}{S:cZ}(h:mu.length=S.length)(p:cH):(mu++[p])[S.length]?=Z p:=by
 rw[<- h,gR1 (nR1 _)];simp
noncomputable def c3 (a:FA):FE:=λr S=>(a r S).bind λp=>if p.1.length<=cO then some (.tup p.1,p.2)else none
noncomputable def d8 (a:FA):FE:=λr S=>(a r S).bind λp=>if p.1.length<=cO then some (.ref p.2.length,p.2++[.lst p.1])else none
section
variable{es:List Expr}{pos:Pos}{a:FA}
theorem FC{x1}(h:MA X es a):ME X (.Tuple es x1 pos) (c3 a):=d3 (ER h) <| by
 rintro σ H Q ⟨r,mu,S,d,l,f,j,b,hc⟩;obtain⟨⟨ds,m⟩,i,b⟩:=oB1.mp b;dsimp only at b;split at b
 ·rename_i g;cases b;refine⟨r,mu,S,ds,_,f,j,i,λvs H1 mu1 x1 e k=>⟨by rw[<- e.length];exact g,λp c=>?_⟩⟩;exact hc _ _ mu1 (x1.trans (Ext.fresh c)) (.tup (jv.of di) (e.ext (Ext.fresh c))) (k.fresh c)
 ·cases b
theorem FL(h:MA X es a):ME X (.List es pos) (d8 a):=d3 (EX h) <| by
 rintro σ H Q ⟨r,mu,S,d,m,g,k,b,hc⟩;obtain⟨⟨ds,n⟩,j,b⟩:=oB1.mp b;dsimp only at b;split at b
 ·rename_i i;cases b;refine⟨r,mu,S,ds,_,g,k,j,λvs H1 mu1 l e f=>⟨by rw[<- e.length];exact i,λp c=>?_⟩⟩;exact hc _ _ (mu1++[p]) (l.trans (Ext.new_ c)) (.ref (gb f.len p)) (f.newL e c)
 ·cases b
end
noncomputable def kK(k:Nat)(keep:List Nat)(r:Ev):Ev:=aM k Y++keep.map λi=>(r[i]?).join
noncomputable def dI:FT:=λ_ S=>Z (M,S)
theorem Ai{K:Fg1}{H:Hp}{mu:List cH}{r:Ev}{σ:L2.St}(k:Nat)(keep:List Nat)(h:eI K H mu r σ):eI K H mu (kK k keep r) (oH k keep σ):=by
 refine⟨by unfold kK oH;rw[lA1,lA1,lM1,lM1,lR1,lR1],λi d e=>?_⟩;unfold kK at e;unfold oH;by_cases hi:i<k
 ·rw[gL1 (by rw[lR1];exact hi),aP]at e;split at e<;>cases e
 ·rw [gR1 (by rw [lR1];lia),lR1,gP1] at e;rw [gR1 (by rw [lR1];lia),lR1,gP1];obtain ⟨j,b,e⟩:=oM1.mp e;rw [b];have c:r[j]? = some (some d):=by
   cases q:r[j]? with
   |none=>rw[q]at e;cases e
   |some o=>rw[q]at e;cases e;rfl
  obtain⟨v,f,a⟩:=h.val j d c;exact⟨v,by rw[oP1,f];rfl,a⟩
theorem ze{ifs:List Expr}{t t':L2.TT}(h:lF X ifs t)(i:∀ σ H Q,t' σ H Q->t σ H Q):lF X ifs t':=λag s σ H Q I q=>h ag s σ H Q I (i σ H Q q)
theorem Cr:lF X [] (ui X.K dI):=ze zd fun σ H Q ⟨r,mu,S,b,e,d,a,c,hc⟩=>by cases c;exact hc H mu (.refl _ _) a
theorem Cq{c:Expr}{t:FT}(h:MT X c t):lF X [c] (ui X.K t):=zb h
open PySem.AutoSeq1 (wpAny_loadPart')
def SIt(b:Bool)(h:cR)(it a:cH)(i:Nat):Prop:=match b with
 |true=>h.IsListIter it a i
 |false=>h.IsTupleIter it a i
def SCo(b:Bool)(h:cR)(a:cH)(xs:Array cF):Prop:=match b with
 |true=>h.IsList a xs
 |false=>h.IsTuple a xs
theorem SIt.to{b:Bool}{h h':cR}{it a:cH}{i:Nat}(x:SIt b h it a i)(k:∀o,h.get? it=Z o->h'.get? it=Z o):SIt b h' it a i:=by
 cases b<;>(obtain⟨o,e,r⟩:=x;exact⟨o,k o e,r⟩)
theorem SIt.rec_{b:Bool}{h:cR}{it a:cH}{i:Nat}(x:SIt b h it a i):∃o,h.get? it=Z o /\ ∀v,o.data ≠ .cell v:=by
 cases b<;>(obtain⟨o,e,c,d⟩:=x;exact⟨o,e,λv z=>by rw[d]at z;cases z⟩)
theorem SCo.to{b:Bool}{h h':cR}{a:cH}{xs:Array cF}(x:SCo b h a xs)(k:∀o,h.get? a=Z o->h'.get? a=Z o):SCo b h' a xs:=by
 cases b<;>(obtain⟨o,e,r⟩:=x;exact⟨o,k o e,r⟩)
noncomputable def eX(b:Bool)(a:cH):Obj:=match b with
 |true=>{cls:=.type "list_iterator",data:=.fields #[.ref a,.int 0 0]}
 |false=>{cls:=.type "tuple_iterator",data:=.fields #[.ref a,.int 0 0]}
section
variable{prog:cI}{w:cK}{A:cJ}{E:cF->cG->Prop}{s:cG}
theorem qg{b:Bool}{h:cR}{it a:cH}(e:h.get? it=Z (eX b a)):SIt b h it a 0:=by
 cases b<;>exact⟨_,e,O,O⟩
theorem hM{b:Bool}{a:cH}{xs:Array cF}{Q:cF->cG->Prop}(x:SCo b s.heap a xs)(h:Q (.ref s.heap.objs.size) {s with heap:=s.heap.push (eX b a)}):cP (model prog w) A (pyIter (.ref a)) Q E s:=by
 cases b
 ·exact wpAny_pyIter_tuple x h
 ·exact wpAny_pyIter_list x h
theorem zC{it l:cH}{i:Nat}{xs:Array cF}{x:cF}{Q:cF->cG->Prop}(ti:s.heap.IsTupleIter it l i)(tl:s.heap.IsTuple l xs)(hx:xs[i]? = Z x)(e:∀h',h'.IsTupleIter it l (i+1)->Heap.SameBut it s.heap h'->Q x {s with heap:=h'}):cP (model prog w) A (Builtin.SmallTypes.nextOf (.ref it)) Q E s:=by
 obtain⟨o,b,hc,a⟩:=id ti;obtain⟨g,d,_,f,c⟩:=tl;unfold Builtin.SmallTypes.nextOf;refine wB1 (wpAny_callSpecial?_slot (name:=Str.ofString "__next__") ti.typeIs F.slot_tuple_iterator_next (wE1 F.slot_tuple_iterator_next ti.typeIs F.entry_tuple_iterator_next ?_ (F.args_tuple_iterator_next_1 _)));show cP _ _ (field (.ref it) 0 >>= _) _ _ s;refine wB1 (wpAny_field b a (x:=.ref l) O ?_);show cP _ _ (if(Value.ref l == Value.none)=M then _ else _) _ _ s;rw[aj (show¬ ((Value.ref l == Value.none)=M)from aI)];show cP _ _ (field (.ref it) 1 >>= _) _ _ s;refine wB1 (wpAny_field b a (x:=.int i 0) O ?_);show cP _ _ (seqItems? (.ref l) >>= _) _ _ s;refine wB1 (wpAny_seqItems d c ?_);simp only[Int.toNat_natCast,hx];refine wB1 (wpAny_setField b a (by simp) (wP1 ⟨x,O,wP1 (e _ ⟨_,hW1 _ b (Obj.isFreed_of_fields (Obj.data_mapFields a _)),(Obj.cls_mapFields ..).trans hc,by rw[Obj.data_mapFields a];simp[rawInt]⟩ (Heap.SameBut.update ..))⟩))
theorem ra {it l:cH}{i:Nat}{xs:Array cF}{Q:cF->cG->Prop}(g:A.handled=none)(ti:s.heap.IsTupleIter it l i)(tl:s.heap.IsTuple l xs)(hx:xs[i]? = none)
  (h:∀h' e,Heap.ExtBut it s.heap h'->(∃o,h'.get? e=Z o/\o.cls = .type "StopIteration")->E (.ref e) {s with heap:=h'}):cP (model prog w) A (Builtin.SmallTypes.nextOf (.ref it)) Q E s:=by
 obtain⟨o,f,hc,b⟩:=id ti;obtain⟨k,d,_,j,c⟩:=tl;unfold Builtin.SmallTypes.nextOf;refine wB1 (wpAny_callSpecial?_slot (name:=Str.ofString "__next__") ti.typeIs F.slot_tuple_iterator_next (wE1 F.slot_tuple_iterator_next ti.typeIs F.entry_tuple_iterator_next ?_ (F.args_tuple_iterator_next_1 _)));show cP _ _ (field (.ref it) 0 >>= _) _ _ s;refine wB1 (wpAny_field f b (x:=.ref l) O ?_);show cP _ _ (if(Value.ref l == Value.none)=M then _ else _) _ _ s;rw[aj (show¬ ((Value.ref l == Value.none)=M)from aI)];show cP _ _ (field (.ref it) 1 >>= _) _ _ s;refine wB1 (wpAny_field f b (x:=.int i 0) O ?_);show cP _ _ (seqItems? (.ref l) >>= _) _ _ s;refine wB1 (wpAny_seqItems d c ?_);simp only[Int.toNat_natCast,hx];refine wB1 (wpAny_rule (wB1 (wpAny_setField f b (by simp) ?_)));show cP _ _ (newExc (.type "StopIteration") [] >>= _) _ _ _;refine wB1 ?_;simp only[newExc,newTuple];refine wB1 (wO1 ?_ (by size_fits));refine wB1 (m:=firstArgMember _ _) (wpAny_of_eq (a:=Value.none) (by first|rfl|(simp only[firstArgMember];rfl)) ?_);refine wO1 ?_ (by size_fits);simp only[raiseNew];refine wB1 (wpAny_handled ?_)
 first|rw[show A.in1.handled=Y from g] | rw[g]
 refine wB1 (wP1 (wpAny_throw ?_));exact h _ _ (((Heap.SameBut.update ..).extBut.push _).push _) ⟨_,hS1 _ O,O⟩
theorem kE{b:Bool}{it l:cH}{i:Nat}{xs:Array cF}{x:cF}{Q:cF->cG->Prop}(ti:SIt b s.heap it l i)(tl:SCo b s.heap l xs)(hx:xs[i]? = Z x)(a:∀h',SIt b h' it l (i+1)->Heap.SameBut it s.heap h'->Q x {s with heap:=h'}):cP (model prog w) A (Builtin.SmallTypes.nextOf (.ref it)) Q E s:=by
 cases b
 ·exact zC ti tl hx a
 ·exact wpAny_nextOf_list_item ti tl hx a
theorem ik {b:Bool}{it l:cH}{i:Nat}{xs:Array cF}{Q:cF->cG->Prop}(a:A.handled=none)(ti:SIt b s.heap it l i)(tl:SCo b s.heap l xs)(hx:xs[i]? = none)
  (c:∀h' e,Heap.ExtBut it s.heap h'->(∃o,h'.get? e=Z o/\o.cls = .type "StopIteration")->E (.ref e) {s with heap:=h'}):cP (model prog w) A (Builtin.SmallTypes.nextOf (.ref it)) Q E s:=by
 cases b
 ·exact ra a ti tl hx c
 ·exact wpAny_nextOf_list_end a ti tl hx c
theorem AC{b:Bool}(l:cH)(xs:Array cF):
  Meets (Builtin.«enumerate.__new__» ⟨[.type "enumerate",.ref l],[]⟩) (λ_ R s=>SCo b s.heap l xs /\
   R (.ok (.ret (.ref (s.heap.push (eX b l)).objs.size))) {s with heap:=(s.heap.push (eX b l)).push {cls:=.type "enumerate",data:=.fields #[.none,.bool J,.ref s.heap.objs.size,rawInt 0,.none,.none]}}):=
 .of_wp λprog w A R s h=>by
  obtain⟨a,g,d,tk,k⟩:=s;obtain⟨f,h⟩:=h;have j:=sub_enumerate
  have i:SCo b (Shared.heap ⟨a,g,d,tk,k⟩) l xs:=f;obtain⟨m,el⟩:∃o,a.get? l=some o:=by cases b<;>(obtain⟨o,e,_⟩:=f;exact⟨o,e⟩)
  wp_walk using wpAny_loadPart' el
  refine wpAny_stack_any λst=>wP1 ?_;split
  ·rename_i c _ _ _ _ _;cases(c == Value.type "enumerate")<;>(wp_walk using wpAny_loadPart' el,hM i;exact⟨_,O,h⟩)
  ·wp_walk using wpAny_loadPart' el,hM i
   exact⟨_,O,h⟩
theorem xw{b:Bool}{l:cH}{xs:Array cF}{Q:cF->cG->Prop}(f:SCo b s.heap l xs)(h:∀h',IsEnum h' (s.heap.objs.size+1) s.heap.objs.size 0 .none->SIt b h' s.heap.objs.size l 0->h'.objs.size=s.heap.objs.size+2->(∀b o,s.heap.get? b=some o->h'.get? b=some o)->Q (.ref (s.heap.objs.size+1)) {s with heap:=h'}):
  cP (model prog w) A (call (.type "enumerate") [.ref l]) Q E s:=by
 refine callType_new F.called_enumerate (by decide) (F.typeCall_enumerate_1 _) (F.newCall_enumerate_1 _) (λd=>F.args_object_init_2 d _) F.entry_enumerate_new (AC (b:=b) l xs) ⟨f,?_⟩;have a:(s.heap.push (eX b l)).objs.size=s.heap.objs.size+1:=hZ1 ..
 show _/\_;rw[a];have e:IsEnum ((s.heap.push (eX b l)).push {cls:=.type "enumerate",data:=.fields #[.none,.bool J,.ref s.heap.objs.size,rawInt 0,.none,.none]}) (s.heap.objs.size+1) s.heap.objs.size 0 .none:=by
  have q:=hS1 (s.heap.push (eX b l)) (o:={cls:=.type "enumerate",data:=.fields #[.none,.bool J,.ref s.heap.objs.size,rawInt 0,.none,.none]}) O;rw[a]at q;exact q
 have hi:(s.heap.push (eX b l)).get? s.heap.objs.size=Z (eX b l):=hS1 _ (by cases b<;>rfl);refine⟨⟨_,e,O⟩,h _ e (qg (hP1 _ hi)) (by rw[hZ1,a]) λc o x=>hP1 _ (hP1 _ x)⟩
theorem xu {b:Bool}{e it l:cH}{i:Nat}{xs:Array cF}{x old:cF}{Q:Option cF->cG->Prop}(he:IsEnum s.heap e it i old)(ti:SIt b s.heap it l i)(tl:SCo b s.heap l xs)(hx:xs[i]? = some x)(j:e≠it)
  (T:∀h',IsEnumOut h' e it ((i:Int)+1) x s.heap.objs.size->SIt b h' it l (i+1)->h'.get? s.heap.objs.size=Z {cls:=.type "tuple",data:=.seq #[.int i s.toks,x]}->h'.objs.size=s.heap.objs.size+1 ->
   (∀b o,b≠e->b≠it->s.heap.get? b=Z o->h'.get? b=Z o)->Q (Z (.ref s.heap.objs.size)) {s with heap:=h',toks:=s.toks+1}):cP (model prog w) A (pyNext (.ref e)) Q E s:=by
 have S:s.TypeIs (.ref e) "enumerate":=⟨_,he,O⟩;unfold pyNext;refine wB1 (wpAny_attempt (wpAny_callSpecial?_slot (name:=Str.ofString "__next__") S F.slot_enumerate_next (wE1 F.slot_enumerate_next S F.entry_enumerate_next ?_ (F.args_enumerate_next_1 _))));obtain⟨h,g,d,tk,t⟩:=s;show cP _ _ (field (.ref e) 2 >>= _) _ _ _;refine wB1 (wpAny_field he O (x:=.ref it) O ?_);refine wB1 (kE ti tl hx λh1 H C=>?_);replace C:Heap.SameBut it h h1:=C;have r:IsEnum h1 e it i old:=(C.2 e j).trans he;show cP _ _ (field (.ref e) 3 >>= _) _ _ ⟨h1,g,d,tk,t⟩;refine wB1 (wpAny_field r O (x:=rawInt i) O ?_);show cP _ _ (field (.ref e) 4 >>= _) _ _ ⟨h1,g,d,tk,t⟩;refine wB1 (wpAny_field r O (x:=.none) O ?_);show cP _ _ (mkInt i >>= _) _ _ ⟨h1,g,d,tk,t⟩;refine wB1 (wpAny_mkInt ?_);show cP _ _ (setField (.ref e) 3 (rawInt ((i:Int)+1)) >>= _) _ _ ⟨h1,g,d,tk+1,t⟩;refine wB1 (wS1 r (by simp) λh2 k G=>?_);replace G:Heap.SameBut e h1 h2:=G;replace k:IsEnum h2 e it ((i:Int)+1) old:=k;show cP _ _ (setField (.ref e) 4 .none >>= _) _ _ ⟨h2,g,d,tk+1,t⟩;refine wB1 (wS1 k (by simp) λh3 m D=>?_);replace D:Heap.SameBut e h2 h3:=D;replace m:IsEnum h3 e it ((i:Int)+1) old:=m;show cP _ _ (newTuple [.int i tk,x] >>= _) _ _ ⟨h3,g,d,tk+1,t⟩;refine wB1 (wpAny_newTuple ?_);have p:IsEnum (h3.push {cls:=.type "tuple",data:=.seq #[.int i tk,x]}) e it ((i:Int)+1) old:=hP1 _ m;generalize a:h3.push {cls:=.type "tuple",data:=.seq #[.int i tk,x]}=h4 at p;have n:h3.objs.size=h.objs.size:=by rw[D.1,G.1,C.1]
 have L:e<h.objs.size:=hL1 he;have R:h4.get? h.objs.size=Z {cls:=.type "tuple",data:=.seq #[.int i tk,x]}:=by rw[<- a,<- n];exact hS1 _ O
 have ao:h4.objs.size=h.objs.size+1:=by rw[<- a,hZ1,n]
 have au:∀b o,b≠e->b≠it->h.get? b=Z o->h4.get? b=Z o:=λb o f u P=>by
  rw[<- a];exact hP1 _ (D.extBut b o f (G.extBut b o f (C.extBut b o u P)))
 have N:SIt b h4 it l (i+1):=H.to λo q=>by rw[<- a];exact hP1 _ (D.extBut _ _ (Ne.symm j) (G.extBut _ _ (Ne.symm j) q))
 show cP _ _ (Builtin.SmallTypes.ownedTupleIsFree (.ref e) >>= _) _ _ ⟨h4,g,d,tk+1,t⟩;rw[n];clear a m D k G r C H n h3 h2 h1;refine wB1 ?_;unfold Builtin.SmallTypes.ownedTupleIsFree;refine wB1 (wpAny_field p O (x:=.none) O (wP1 ?_));simp only[if_true];refine wB1 (wpAny_rule ?_);refine wB1 (wpAny_field p O (x:=old) O ?_);refine wB1 (wS1 p (by simp) λh5 v I=>?_);replace I:Heap.SameBut e h4 h5:=I;replace v:IsEnum h5 e it ((i:Int)+1) x:=v;show cP _ _ (Builtin.SmallTypes.ownedTupleHandOut (.ref e) (.ref h.objs.size) >>= _) _ _ ⟨h5,g,d,tk+1,t⟩;refine wB1 ?_;unfold Builtin.SmallTypes.ownedTupleHandOut;refine wB1 (wS1 v (by simp) λh6 y am=>?_);replace am:Heap.SameBut e h5 h6:=am;replace y:IsEnumOut h6 e it ((i:Int)+1) x h.objs.size:=y;refine wS1 y (by simp) λh7 B K=>?_;replace K:Heap.SameBut e h6 h7:=K;replace B:IsEnumOut h7 e it ((i:Int)+1) x h.objs.size:=B;have up:∀c o,c≠e->h4.get? c=Z o->h7.get? c=Z o:=λc o z q=>K.extBut _ _ z (am.extBut _ _ z (I.extBut _ _ z q));refine wB1 (wpAny_letGo (wP1 ⟨_,O,wP1 (T h7 B (N.to λo q=>up _ o (Ne.symm j) q) (up _ _ (nG1 L) R) (by rw[K.1,am.1,I.1,ao]) λc o f u P=>up c o f (au c o f u P))⟩))
theorem AD{b:Bool}{e it l:cH}{i:Nat}{xs:Array cF}{old:cF}{Q:Option cF->cG->Prop}(f:A.handled=Y)(he:IsEnum s.heap e it i old)(ti:SIt b s.heap it l i)(tl:SCo b s.heap l xs)(hx:xs[i]? = Y)(g:∀h',Heap.ExtBut it s.heap h'->Q Y {s with heap:=h'}):cP (model prog w) A (pyNext (.ref e)) Q E s:=by
 have d:s.TypeIs (.ref e) "enumerate":=⟨_,he,O⟩;unfold pyNext;refine wB1 (wpAny_attempt (wpAny_callSpecial?_slot (name:=Str.ofString "__next__") d F.slot_enumerate_next (wE1 F.slot_enumerate_next d F.entry_enumerate_next ?_ (F.args_enumerate_next_1 _))));show cP _ _ (field (.ref e) 2 >>= _) _ _ _;refine wB1 (wpAny_field he O (x:=.ref it) O ?_);refine wB1 (ik f ti tl hx λh' x c a=>?_);obtain⟨o,h,hc⟩:=a;refine wB1 (wpAny_isInstance (T:="StopIteration") (b:=M) ⟨o,h,hc⟩ isSubtype_stop ?_);exact wP1 (g _ c)
theorem pC{e it:cH}{i:Int}{old:cF}{Q:cF->cG->Prop}(he:IsEnum s.heap e it i old)(h:Q (.ref e) s):cP (model prog w) A (pyIter (.ref e)) Q E s:=by
 have a:s.TypeIs (.ref e) "enumerate":=⟨_,he,O⟩;refine wpAny_pyIter_slot a F.slot_enumerate_iter (wE1 F.slot_enumerate_iter a F.entry_enumerate_iter ?_ (F.args_enumerate_iter_1 _));show cP _ _ (ret (.ref e)) _ _ s;exact wP1 ⟨_,O,"enumerate",_,a,F.slot_enumerate_next.lookup,h⟩
end
open PySem.AutoSeq1 (wpAny_loadPart')
structure Ka (z ti to i1 i2:cH):Prop where
 a1:ti≠z
 a2:to≠z
 a3:i1≠z
 a4:i2≠z
 a5:ti≠to
 a6:ti≠i1
 a7:ti≠i2
 a8:to≠i1
 a9:to≠i2
 a10:i1≠i2
section
variable{prog:cI}{w:cK}{A:cJ}{E:cF->cG->Prop}{s:cG}{b1 b2:Bool}
theorem SCo.ne{b:Bool}{h:cR}{a c:cH}{xs:Array cF}{o:Obj}(x:SCo b h a xs)(e:h.get? c=Z o)(n:∀ys k,o.data ≠ .seq ys k):a≠c:=by
 rintro rfl;cases b<;>(obtain⟨o',f,g,k,d⟩:=x;rw[e]at f;cases f;exact n _ _ d)
theorem SCo.ne_it{b f:Bool}{h:cR}{a it l:cH}{xs:Array cF}{i:Nat}(x:SCo b h a xs)(y:SIt f h it l i):a≠it:=by
 cases f<;>(obtain⟨o,e,c,d⟩:=y;exact x.ne e λys k z=>by rw[d]at z;cases z)
theorem x4{z ti to i1 h u r:cH}{ao au:Nat}{xs ys:Array cF}{x y a b:cF}{Q:Option cF->cG->Prop}(D:Ka z ti to i1 h)(hz:IsZip s.heap z ti to .none)(W:IsPair s.heap ti (.ref i1) (.ref h))(hto:IsPair s.heap to a b)(n1:u≠to)(n2:r≠to)(h1:SIt b1 s.heap i1 u ao)(h2:SIt b2 s.heap h r au)(c1:SCo b1 s.heap u xs)(aq:SCo b2 s.heap r ys)(hx:xs[ao]?=some x)(hy:ys[au]?=some y)(hQ:∀h',IsZip h' z ti to (rawInt s.heap.objs.size)->IsPair h' to x y->SIt b1 h' i1 u (ao+1)->SIt b2 h' h r (au+1)->IsPair h' s.heap.objs.size x y->h'.objs.size=s.heap.objs.size+1 ->
   (∀c o,c≠z->c≠to->c≠i1->c≠h->s.heap.get? c=Z o->h'.get? c=Z o)->Q (Z (.ref s.heap.objs.size)) {s with heap:=h'}):cP (model prog w) A (pyNext (.ref z)) Q E s:=by
 have hT:s.TypeIs (.ref z) "zip":=⟨_,hz,O⟩;have wq:u≠z:=c1.ne hz λ_ _ q=>by cases q
 have U:r≠z:=aq.ne hz λ_ _ q=>by cases q
 have G:r≠i1:=aq.ne_it h1;unfold pyNext;refine wB1 (wpAny_attempt (wpAny_callSpecial?_slot (name:=Str.ofString "__next__") hT F.slot_zip_next (wE1 F.slot_zip_next hT F.entry_zip_next ?_ (F.args_zip_next_1 _))));show cP _ _ (field (.ref z) 2 >>= _) _ _ _;refine wB1 (wpAny_field hz O (x:=.bool J) O ?_);show cP _ _ (field (.ref z) 3 >>= _) _ _ _;refine wB1 (wpAny_field hz O (x:=.ref ti) O ?_);refine wB1 (wpAny_seqItems W O ?_);show cP _ _ (Builtin.SmallTypes.ownedTupleIsFree (.ref z) >>= _) _ _ _;refine wB1 ?_;unfold Builtin.SmallTypes.ownedTupleIsFree;refine wB1 (wpAny_field hz O (x:=.none) O (wP1 ?_));simp only[if_true];refine wB1 (wpAny_rule ?_);refine wB1 (wpAny_field hz O (x:=.ref to) O ?_);refine wB1 (wS1 hz (by simp) λg1 l m=>?_);replace l:IsZip g1 z ti to .ellipsis:=l;refine wB1 ?_;simp only[List.zipIdx_cons,List.zipIdx_nil,List.forIn_cons,List.forIn_nil];refine wB1 (wB1 (wpAny_onRaise ?_));show cP _ _ (Builtin.SmallTypes.nextOf (.ref i1) >>= _) _ _ _
 refine wB1 (kE (h1.to λo q=>m.extBut _ _ D.a3 q) (c1.to λo q=>m.extBut _ _ wq q) hx λg2 h12 t=>wP1 ?_);have i:IsPair g2 to a b:=t.extBut _ _ D.a8 (m.extBut _ _ D.a2 hto);refine wB1 (wpAny_seqItems i O ?_);refine wB1 (wpAny_updateSeq_pair i λg3 f v=>?_);replace f:IsPair g3 to x b:=f;refine wB1 (wpAny_letGo (wP1 ?_));refine wB1 (wB1 (wpAny_onRaise ?_));show cP _ _ (Builtin.SmallTypes.nextOf (.ref h) >>= _) _ _ _
 refine wB1 (kE (h2.to λo q=>v.extBut _ _ D.a9.symm (t.extBut _ _ D.a10.symm (m.extBut _ _ D.a4 q))) (aq.to λo q=>v.extBut _ _ n2 (t.extBut _ _ G (m.extBut _ _ U q))) hy λg4 T I=>wP1 ?_);have k:IsPair g4 to x b:=I.extBut _ _ D.a9 f;refine wB1 (wpAny_seqItems k O ?_);refine wB1 (wpAny_updateSeq_pair k λd e B=>?_);replace e:IsPair d to x y:=e;refine wB1 (wpAny_letGo (wP1 (wP1 ?_)));refine wB1 (wpAny_seqItems e O ?_);refine wB1 (wpAny_newTuple ?_);have am:d.objs.size=s.heap.objs.size:=by rw[B.1,I.1,v.1,t.1,m.1]
 have K:IsZip d z ti to .ellipsis:=B.extBut _ _ D.a2.symm (I.extBut _ _ D.a4.symm (v.extBut _ _ D.a2.symm (t.extBut _ _ D.a3.symm l)));have X:∀c o,c≠z->c≠to->c≠i1->c≠h->s.heap.get? c=Z o->d.get? c=Z o:=λc o n N V P q=>B.extBut _ _ N (I.extBut _ _ P (v.extBut _ _ N (t.extBut _ _ V (m.extBut _ _ n q))));have S:SIt b1 d i1 u (ao+1):=h12.to λo q=>B.extBut _ _ D.a8.symm (I.extBut _ _ D.a10 (v.extBut _ _ D.a8.symm q));have h25:SIt b2 d h r (au+1):=T.to λo q=>B.extBut _ _ D.a9.symm q;have j:z<d.objs.size:=hL1 K;show cP _ _ (Builtin.SmallTypes.ownedTupleHandOut (.ref z) (.ref d.objs.size) >>= _) _ _ _;refine wB1 ?_;unfold Builtin.SmallTypes.ownedTupleHandOut;have hz6:IsZip (d.push {cls:=.type "tuple",data:=.seq #[x,y]}) z ti to .ellipsis:=hP1 _ K;refine wB1 (wS1 hz6 (by simp) λg7 p s7=>?_);replace p:IsZip g7 z ti to (rawInt d.objs.size):=p;refine wS1 p (by simp) λH g R=>?_;replace g:IsZip H z ti to (rawInt d.objs.size):=g;have up:∀c o,c≠z->d.get? c=Z o->H.get? c=Z o:=λc o n q=>R.extBut _ _ n (s7.extBut _ _ n (hP1 _ q));have C:IsPair H d.objs.size x y:=R.extBut _ _ (nG1 j) (s7.extBut _ _ (nG1 j) (hS1 _ O));have L:H.objs.size=d.objs.size+1:=by rw[R.1,s7.1,hZ1]
 rw[am]at g C L;refine wP1 ⟨_,O,wP1 ?_⟩;show Q (Z (.ref d.objs.size)) _;rw[am]
 exact hQ H g (up _ _ D.a2 e) (S.to λo q=>up _ o D.a3 q) (h25.to λo q=>up _ o D.a4 q) C L λc o n N V P q=>up c o n (X c o n N V P q)
theorem Bd{z ti to i1 p C y:cH}{G ao:Nat}{xs ys:Array cF}{a b:cF}{Q:Option cF->cG->Prop}(W:A.handled=Y)(D:Ka z ti to i1 p)(hz:IsZip s.heap z ti to .none)(L:IsPair s.heap ti (.ref i1) (.ref p))(P:IsPair s.heap to a b)(n1:C≠to)(n2:y≠to)(h1:SIt b1 s.heap i1 C G)(h2:SIt b2 s.heap p y ao)(I:SCo b1 s.heap C xs)(N:SCo b2 s.heap y ys)(r:xs[G]?=Y\/ys[ao]?=Y)(V:∀h',(∀c o,c≠z->c≠to->c≠i1->c≠p->s.heap.get? c=Z o->h'.get? c=Z o)->Q Y {s with heap:=h'}):cP (model prog w) A (pyNext (.ref z)) Q E s:=by
 have S:s.TypeIs (.ref z) "zip":=⟨_,hz,O⟩;have B:C≠z:=I.ne hz λ_ _ q=>by cases q
 have K:y≠z:=N.ne hz λ_ _ q=>by cases q
 have u:y≠i1:=N.ne_it h1;unfold pyNext;refine wB1 (wpAny_attempt (wpAny_callSpecial?_slot (name:=Str.ofString "__next__") S F.slot_zip_next (wE1 F.slot_zip_next S F.entry_zip_next ?_ (F.args_zip_next_1 _))));show cP _ _ (field (.ref z) 2 >>= _) _ _ _;refine wB1 (wpAny_field hz O (x:=.bool J) O ?_);show cP _ _ (field (.ref z) 3 >>= _) _ _ _;refine wB1 (wpAny_field hz O (x:=.ref ti) O ?_);refine wB1 (wpAny_seqItems L O ?_);show cP _ _ (Builtin.SmallTypes.ownedTupleIsFree (.ref z) >>= _) _ _ _;refine wB1 ?_;unfold Builtin.SmallTypes.ownedTupleIsFree;refine wB1 (wpAny_field hz O (x:=.none) O (wP1 ?_));simp only[if_true];refine wB1 (wpAny_rule ?_);refine wB1 (wpAny_field hz O (x:=.ref to) O ?_);refine wB1 (wS1 hz (by simp) λg1 g i=>?_);replace g:IsZip g1 z ti to .ellipsis:=g;refine wB1 ?_;simp only[List.zipIdx_cons,List.zipIdx_nil,List.forIn_cons,List.forIn_nil];refine wB1 (wB1 (wpAny_onRaise ?_));show cP _ _ (Builtin.SmallTypes.nextOf (.ref i1) >>= _) _ _ _
 cases hx:xs[G]? with
 |none=>
  refine wB1 (ik W (h1.to λo q=>i.extBut _ _ D.a3 q) (I.to λo q=>i.extBut _ _ B q) hx λau e j H=>?_);obtain⟨R,d,f⟩:=H;have v:IsZip au z ti to .ellipsis:=j _ _ D.a3.symm g;have l:e≠z:=λq=>by subst q;rw[v]at d;cases d;simp at f
  refine wS1 v (by simp) λwq _ m=>?_;refine wB1 (wpAny_isInstance (T:="StopIteration") (b:=M) ⟨R,m.extBut _ _ l d,f⟩ isSubtype_stop ?_);exact wP1 (V wq λc o t _ am _ q=>m.extBut _ _ t (j _ _ am (i.extBut _ _ t q)))
 |some x=>
  have hy:ys[ao]?=Y:=by rcases r with h|h;rw[hx]at h;cases h;exact h
  refine wB1 (kE (h1.to λo q=>i.extBut _ _ D.a3 q) (I.to λo q=>i.extBut _ _ B q) hx λau h12 j=>wP1 ?_);have k:IsPair au to a b:=j.extBut _ _ D.a8 (i.extBut _ _ D.a2 P);refine wB1 (wpAny_seqItems k O ?_);refine wB1 (wpAny_updateSeq_pair k λwq aq m=>?_);refine wB1 (wpAny_letGo (wP1 ?_));refine wB1 (wB1 (wpAny_onRaise ?_));show cP _ _ (Builtin.SmallTypes.nextOf (.ref p) >>= _) _ _ _
  refine wB1 (ik W (h2.to λo q=>m.extBut _ _ D.a9.symm (j.extBut _ _ D.a10.symm (i.extBut _ _ D.a4 q))) (N.to λo q=>m.extBut _ _ n2 (j.extBut _ _ u (i.extBut _ _ K q))) hy λg4 e X H=>?_);obtain⟨R,d,f⟩:=H;have n:IsZip g4 z ti to .ellipsis:=X _ _ D.a4.symm (m.extBut _ _ D.a2.symm (j.extBut _ _ D.a3.symm g));have l:e≠z:=λq=>by subst q;rw[n]at d;cases d;simp at f
  refine wS1 n (by simp) λg5 _ U=>?_;refine wB1 (wpAny_isInstance (T:="StopIteration") (b:=M) ⟨R,U.extBut _ _ l d,f⟩ isSubtype_stop ?_);exact wP1 (V g5 λc o t q2 am q4 q=>U.extBut _ _ t (X _ _ q4 (m.extBut _ _ q2 (j.extBut _ _ am (i.extBut _ _ t q)))))
def zH(b1 b2:Bool)(h:cR)(l1 l2:cH):cR:=((((h.push (eX b1 l1)).push (eX b2 l2)).push {cls:=.type "tuple",data:=.seq #[.ref h.objs.size,.ref (h.objs.size+1)]}).push {cls:=.type "tuple",data:=.seq #[.none,.none]}).push
 {cls:=.type "zip",data:=.fields #[.none,.bool J,.bool J,.ref (h.objs.size+2),.ref (h.objs.size+3)]}
theorem Bc(a c:cH)(xs ys:Array cF):Meets (Builtin.«zip.__new__» ⟨[.type "zip",.ref a,.ref c],[]⟩) (λ_ R s=>SCo b1 s.heap a xs/\SCo b2 s.heap c ys/\R (.ok (.ret (.ref (s.heap.objs.size+4)))) {s with heap:=zH b1 b2 s.heap a c}):=
 .of_wp λprog w A R s h=>by
  obtain⟨b,g,d,tk,e⟩:=s;obtain⟨i,l,h⟩:=h;have f:=sub_zip
  have k:SCo b1 (Shared.heap ⟨b,g,d,tk,e⟩) a xs:=i;have j:SCo b2 (Shared.heap ⟨b.push (eX b1 a),g,d,tk,e⟩) c ys:=l.to λo q=>hP1 _ q
  wp_walk using hM k,hM j
  refine⟨_,O,?_⟩;have m:(b.push (eX b1 a)).objs.size=b.objs.size+1:=hZ1 ..
  simp only[hZ1,zH]at h ⊢;exact h
theorem x9{b d:cH}{xs ys:Array cF}{Q:cF->cG->Prop}(m:SCo b1 s.heap b xs)(v:SCo b2 s.heap d ys)(h:∀h',IsZip h' (s.heap.objs.size+4) (s.heap.objs.size+2) (s.heap.objs.size+3) .none->IsPair h' (s.heap.objs.size+2) (.ref s.heap.objs.size) (.ref (s.heap.objs.size+1))->IsPair h' (s.heap.objs.size+3) .none .none ->
   SIt b1 h' s.heap.objs.size b 0->SIt b2 h' (s.heap.objs.size+1) d 0->h'.objs.size=s.heap.objs.size+5->(∀c o,s.heap.get? c=Z o->h'.get? c=Z o)->Q (.ref (s.heap.objs.size+4)) {s with heap:=h'}):
  cP (model prog w) A (call (.type "zip") [.ref b,.ref d]) Q E s:=by
 refine callType_new F.called_zip (by decide) (F.typeCall_zip_2 _ _) (F.newCall_zip_2 _ _) (λg=>F.args_object_init_3 g _ _) F.entry_zip_new (Bc (b1:=b1) (b2:=b2) b d xs ys) ⟨m,v,?_⟩;have up:∀{h:cR} {o:Obj} {c:cH} {u:Obj},h.get? c=Z u->(h.push o).get? c=Z u:=λq=>hP1 _ q;have a:∀{h:cR} {o:Obj} {n:Nat},h.objs.size=n->o.isFreed=J->(h.push o).get? n=Z o:=λe f=>by rw[<- e];exact hS1 _ f
 have r:(eX b1 b).isFreed=J:=by cases b1<;>rfl
 have l:(eX b2 d).isFreed=J:=by cases b2<;>rfl
 have t:(zH b1 b2 s.heap b d).get? s.heap.objs.size=Z (eX b1 b):=up (up (up (up (a O r))));have j:(zH b1 b2 s.heap b d).get? (s.heap.objs.size+1)=Z (eX b2 d):=up (up (up (a (by simp only[hZ1]) l)));have p:IsPair (zH b1 b2 s.heap b d) (s.heap.objs.size+2) (.ref s.heap.objs.size) (.ref (s.heap.objs.size+1)):=up (up (a (by simp only[hZ1]) O));have k:IsPair (zH b1 b2 s.heap b d) (s.heap.objs.size+3) .none .none:=up (a (by simp only[hZ1]) O);have i:IsZip (zH b1 b2 s.heap b d) (s.heap.objs.size+4) (s.heap.objs.size+2) (s.heap.objs.size+3) .none:=a (by simp only[hZ1]) O;exact⟨⟨_,i,O⟩,h _ i p k (qg t) (qg j) (by simp only[zH,hZ1]) λc o q=>up (up (up (up (up q))))⟩
end
def rQ(K:Fg1)(b:Bool)(H:Hp)(a:cH)(xs:List V):Prop:=match b with
 |true=>k4 K H a xs
 |false=>jv K H a xs
section
variable{ag:List (cH×Obj)}{σ:L2.St}{H:Hp}{s:cG}
theorem ed{b:Bool}{a:cH}{xs:List V}(I:Inv X ag σ H s)(h:rQ X.K b H a xs):∃c:List cF,dF xs c/\SCo b s.heap a c.toArray/\xs.length<=cO:=by
 cases b
 ·obtain⟨c,r,p,z⟩:=I.tuple h;exact⟨c,r,p,z⟩
 ·obtain⟨c,r,p,z⟩:=I.list h;exact⟨c,r,p.isList,z⟩
theorem mJ{b:Bool}{a:cH}{xs ys:List V}(I:Inv X ag σ H s)(h:rQ X.K b H a xs)(h':rQ X.K b H a ys):xs=ys:=by
 cases b
 ·exact I.tuple_inj h h'
 ·exact I.list_inj h h'
theorem qc{b:Bool}{a c:cH}{xs:List V}(I:Inv X ag σ H s)(h:rQ X.K b H a xs)(f:h8 X ag H c):a≠c:=by
 rintro rfl;have d:∀{o},X.K.lookup a=Z o->False:=λ{o} e=>by
  have g:=I.ok.mod.kin _ _ e;rcases f.2.2.2.1 with z|z
  ·exact I.ok.noex _ _ g z
  ·exact absurd (nL1 (hL1 g) (aB I.ok.bsz z)) (az _)
 cases b
 ·rcases h with(h|⟨_,h⟩)|⟨_,_,_,h,_⟩
  ·rw[f.1]at h;cases h
  ·rw[f.1]at h;cases h
  ·exact d h
 ·rcases h with(h|⟨_,h⟩)|⟨_,_,_,h,_⟩
  ·rw[f.1]at h;cases h
  ·rw[f.1]at h;cases h
  ·exact d h
theorem tu(I:Inv X ag σ H s){fp:List cH}(hf:∀ b∈fp,h8 X ag H b){h':cR}{p:cH}{xs:List V}{its:List cF}{t':Nat}(hp:s.heap.objs.size<=p)(f:∀ b o,b∉fp->s.heap.get? b=Z o->h'.get? b=Z o)(i:IsTup h' p its.toArray)(j:dF xs its)(hz:xs.length<=cO):Inv X ag σ (upd H p (.tup xs)) {s with heap:=h',toks:=t'}:=by
 have d:H p=Y:=I.hok.fresh hp;have g:∀{b o},s.heap.get? b=Z o->b≠p:=λe=>nN1 (nL1 (hL1 e) hp);have h:∀{b u},H b=Z u->b∉fp:=λe z=>by rw[(hf _ z).1]at e;cases e
 refine I.step (g':=s.gens) (d':=s.drawn) (ch:=fp) (λb a=>⟨(hf b a).2.2.2.1,(hf b a).2.1,(hf b a).2.2.2.2.1,(hf b a).2.2.2.2.2⟩) (λb o _ _ hc e _=>f b o hc e) (λb o _ _ hc e _=>⟨o.slots,f b o hc e⟩) (λb o _ e n=>?_)
  (λb o hc e=>⟨o,f b o hc e⟩) (λb ys e=>?_) (λb o u e=>?_) (λb ps e=>⟨#[],?_⟩) (λm k=>?_) (λb u e=>?_) I.bare
 ·rw[c5 (g e)];exact n
 ·rw[c5 (dJ e d)];exact e
 ·rw[c5 (dJ e d)];exact e
 ·rw[c5 (dJ e d),e];simp
 ·obtain⟨o,es,ep,l,r⟩:=k;exact⟨o,es,ep,f _ o (λz=>(hf _ z).2.1 O) l,r⟩
 ·by_cases a:b=p
  ·subst a;rw[di]at e;cases e;exact⟨hz,its,j,i⟩
  ·rw[c5 a]at e;refine(I.hok b u e).stay (λc v hc q=>f c v ?_ q) (λc q=>by rw[c5 (dJ q d)];exact q) λc ys q=>by rw[c5 (dJ q d)];exact q
   rcases hc with z|z
   ·rw[z];exact h e
   ·exact h z
theorem nT(I:Inv X ag σ H s){fp:List cH}(hf:∀b∈fp,h8 X ag H b){h':cR}{t':Nat}(a:∀b o,b∉fp->s.heap.get? b=Z o->h'.get? b=Z o):Inv X ag σ H {s with heap:=h',toks:=t'}:=by
 have f:∀{b u},H b=Z u->b∉fp:=λe z=>by rw[(hf _ z).1]at e;cases e
 refine I.step (g':=s.gens) (d':=s.drawn) (ch:=fp) (λb d=>⟨(hf b d).2.2.2.1,(hf b d).2.1,(hf b d).2.2.2.2.1,(hf b d).2.2.2.2.2⟩) (λb o _ _ hc e _=>a b o hc e) (λb o _ _ hc e _=>⟨o.slots,a b o hc e⟩) (λb o _ e n=>n)
  (λb o hc e=>⟨o,a b o hc e⟩) (λb ys e=>e) (λb o u e=>e) (λb ps e=>⟨#[],by rw[e];simp⟩) (λm g=>?_) (λb u e=>?_) I.bare
 ·obtain⟨o,es,ep,h,r⟩:=g;exact⟨o,es,ep,a _ o (λz=>(hf _ z).2.1 O) h,r⟩
 ·refine(I.hok b u e).stay (λc v hc q=>a c v ?_ q) (λc q=>q) λc ys q=>q;rcases hc with z|z
  ·rw[z];exact f e
  ·exact f z
end
theorem sd:(2:Nat)<=cO:=by decide
def KI(K:Fg1)(b:Bool)(a:cH):It:=
 ⟨λi H=>∃xs x,rQ K b H a xs/\xs[i]?=Z x,λi H x H'=>∃p v,H p=Y/\x = .ref p/\H'=upd H p (.tup [.int i,v]) /\ ∀xs,rQ K b H a xs->xs[i]?=Z v,λi H=>∃xs,rQ K b H a xs/\xs.length<=i⟩
theorem wS{P:cI}{w:cK}{K:Fg1}{elts:List Expr}{k:Nat}{pos:Pos}(b:Bool)(a e it:cH)(ne:e≠it):rP P w K (.Tuple elts k pos) (KI K b a) [e,it] e (λi h=>(∃old,IsEnum h e it (i:Nat) old)/\SIt b h it a i) where
 mem:=by simp
 obj:=by
  rintro i h ⟨⟨old,st⟩,N⟩ c hc;rcases aD.mp hc with z|z
  ·subst z;exact⟨_,st,λv q=>by cases q⟩
  ·have S:c=it:=by simpa using z
   subst S;exact N.rec_
 keep:=λi h h' ⟨⟨old,st⟩,N⟩ Q=>⟨⟨old,Q e (by simp) _ st⟩,N.to λo q=>Q it (by simp) o q⟩
 item:=by
  intro X B L am hc i ag s σ H E I m st n;subst B L am;obtain⟨⟨old,f⟩,j⟩:=st;obtain⟨xs,x,l,F⟩:=n;obtain⟨t,C,D,hz⟩:=ed I l;obtain⟨u,hu,ru⟩:=C.get F;refine xu f j D (x:=u) (by simpa using hu) ne λh1 A ao G U p=>?_;refine⟨.ref s.heap.objs.size,O,?_⟩;refine wpAny_letOwnedTupleGo_enum A λh2 r d=>?_;have au:s.heap.objs.size≠e:=nG1 (hL1 f);have y:∀c o,c∉[e,it]->s.heap.get? c=Z o->h2.get? c=Z o:=λc o hc q=>by
   have g:c≠e:=λz=>hc (by simp[z]);have c2:c≠it:=λz=>hc (by simp[z]);exact d.extBut _ _ g (p c o g c2 q)
  have T:IsTup h2 s.heap.objs.size [.int (i:Nat) s.toks,u].toArray:=⟨_,d.extBut _ _ au G,O,_,O⟩;have W:=tu I m (t':=s.toks+1) (nR1 _) y T (xs:=[.int i,x]) (.cons ⟨_,O⟩ (.cons ru .nil)) sd;have aq:H s.heap.objs.size=Y:=I.hok.fresh (nR1 _);refine⟨.ref s.heap.objs.size,_,W,O,⟨_,x,aq,O,O,λys V=>by rw[mJ I V l];exact F⟩,⟨⟨u,?_⟩,ao.to λo q=>d.extBut _ _ (Ne.symm ne) q⟩,λc hc=>?_⟩
  ·have:((i+1:Nat):Int)=(i:Int)+1:=by push_cast;rfl
   rw[this];exact r
  ·have g:c≠s.heap.objs.size:=fun z=>by
    rcases aD.mp hc with q|q
    ·exact au (z.symm.trans q)
    ·have wq:c=it:=by simpa using q
     obtain⟨o,R,_⟩:=j.rec_;rw[<- wq,z]at R;exact az _ (hL1 R)
   rw[c5 g];exact(m c hc).1
 done:=by
  intro X B L am hc i ag s σ H E I m st n;subst B L am;obtain⟨⟨old,f⟩,j⟩:=st;obtain⟨xs,l,F⟩:=n;obtain⟨t,C,D,hz⟩:=ed I l;have hl:=C.length;refine AD (I.ok.hd hc) f j D (by simp;lia) λh' eb=>⟨O,nT I (t':=s.toks) m λc o hc q=>eb c o (λz=>hc (by simp[z])) q⟩
 self:=λ_ _ _ _ _ ⟨⟨_,st⟩,_⟩ h=>pC st h
def KF(K:Fg1)(b1 b2:Bool)(a1 a2:cH):It:=
 ⟨λi H=>∃xs ys x y,rQ K b1 H a1 xs/\rQ K b2 H a2 ys/\xs[i]?=Z x/\ys[i]?=Z y,λi H x H'=>∃p v u,H p=Y/\x = .ref p/\H'=upd H p (.tup [v,u])/\(∀xs,rQ K b1 H a1 xs->xs[i]?=Z v) /\ ∀ys,rQ K b2 H a2 ys->ys[i]?=Z u,
  λi H=>∃xs ys,rQ K b1 H a1 xs/\rQ K b2 H a2 ys/\(xs.length<=i\/ys.length<=i)⟩
theorem yp{P:cI}{w:cK}{K:Fg1}{elts:List Expr}{k:Nat}{pos:Pos}(b1 b2:Bool)(a1 a2 z ti to p m:cH)(D:Ka z ti to p m):rP P w K (.Tuple elts k pos) (KF K b1 b2 a1 a2) [z,ti,to,p,m] z
  (λi h=>IsZip h z ti to .none/\IsPair h ti (.ref p) (.ref m)/\(∃u v,IsPair h to u v)/\SIt b1 h p a1 i/\SIt b2 h m a2 i) where
 mem:=by simp
 obj:=by
  rintro i h ⟨f,b,⟨u,v,j⟩,d,g⟩ c hc;simp only[aD,bG,or_false]at hc;rcases hc with rfl|rfl|rfl|rfl|rfl
  ·exact⟨_,f,λv q=>by cases q⟩
  ·exact⟨_,b,λv q=>by cases q⟩
  ·exact⟨_,j,λv q=>by cases q⟩
  ·exact d.rec_
  ·exact g.rec_
 keep:=λi h h' ⟨f,b,⟨u,v,j⟩,d,g⟩ G=>⟨G z (by simp) _ f,G ti (by simp) _ b,⟨u,v,G to (by simp) _ j⟩,d.to λo q=>G p (by simp) o q,g.to λo q=>G m (by simp) o q⟩
 item:=by
  intro X au aq W hc i ag s σ H E I l st am;subst au aq W;obtain⟨f,b,⟨u0,v0,j⟩,d,g⟩:=st;obtain⟨xs,ys,x,y,B,A,ex,ey⟩:=am;obtain⟨L,T,U,hz⟩:=ed I B;obtain⟨F,n,t,N⟩:=ed I A;obtain⟨u,hu,ru⟩:=T.get ex;obtain⟨R,Q,V⟩:=n.get ey;refine x4 D f b j (qc I B (l to (by simp))) (qc I A (l to (by simp))) d g U t (x:=u) (y:=R) (by simpa using hu) (by simpa using Q) λh1 p1 p2 p3 p4 p5 p6 C=>?_;refine⟨.ref s.heap.objs.size,O,?_⟩;refine wpAny_letOwnedTupleGo_zip p1 λh2 z2 a=>?_;have lt:∀c∈[z,ti,to,p,m],c≠s.heap.objs.size:=λc hc e=>by
   obtain⟨o,wq⟩:∃o,s.heap.get? c=some o:=by
    simp only[aD,bG,or_false]at hc;rcases hc with rfl|rfl|rfl|rfl|rfl
    ·exact⟨_,f⟩
    ·exact⟨_,b⟩
    ·exact⟨_,j⟩
    ·obtain⟨o,e,_⟩:=d.rec_;exact⟨o,e⟩
    ·obtain⟨o,e,_⟩:=g.rec_;exact⟨o,e⟩
   rw[e]at wq;exact az _ (hL1 wq)
  have ao:∀c o,c∉[z,ti,to,p,m]->s.heap.get? c=Z o->h2.get? c=Z o:=λc o hc q=>by
   simp only[aD,bG,or_false,not_or]at hc;exact a.extBut _ _ hc.1 (C c o hc.1 hc.2.2.1 hc.2.2.2.1 hc.2.2.2.2 q)
  have tp:IsTup h2 s.heap.objs.size [u,R].toArray:=⟨_,a.extBut _ _ (Ne.symm (lt z (by simp))) p5,O,_,O⟩;have I2:=tu I l (t':=s.toks) (nR1 _) ao tp (xs:=[x,y]) (.cons ru (.cons V .nil)) sd;have hn:H s.heap.objs.size=Y:=I.hok.fresh (nR1 _);refine⟨.ref s.heap.objs.size,_,I2,O,⟨_,x,y,hn,O,O,λS r=>by rw[mJ I r B];exact ex,λS r=>by rw[mJ I r A];exact ey⟩,
   ⟨z2,a.extBut _ _ D.a1 (C _ _ D.a1 D.a5 D.a6 D.a7 b),⟨u,R,a.extBut _ _ D.a2 p2⟩,p3.to λo q=>a.extBut _ _ D.a3 q,p4.to λo q=>a.extBut _ _ D.a4 q⟩,λc hc=>?_⟩
  rw[c5 (lt c hc)];exact(l c hc).1
 done:=by
  intro X au aq W hc i ag s σ H E I l st am;subst au aq W;obtain⟨f,b,⟨u0,v0,j⟩,d,g⟩:=st;obtain⟨xs,ys,B,A,hl⟩:=am;obtain⟨L,T,U,hz⟩:=ed I B;obtain⟨F,n,t,N⟩:=ed I A;have l1:=T.length;have l2:=n.length;refine Bd (I.ok.hd hc) D f b j (qc I B (l to (by simp))) (qc I A (l to (by simp))) d g U t (by simp;lia) λh' eb=>⟨O,nT I (t':=s.toks) l λc o hc q=>?_⟩;simp only[aD,bG,or_false,not_or]at hc;exact eb c o hc.1 hc.2.2.1 hc.2.2.2.1 hc.2.2.2.2 q
 self:=λ_ _ _ _ _ ⟨st,_⟩ h=>wpAny_pyIter_zip st h
section
variable{elts:List Expr}{k:Nat}{tpos:Pos}
def Ie(K:Fg1)(ta:TA):TI:=fun σ H R=>ta σ H λvs H1=>∃a b,vs=[.ref a]/\(∃xs,rQ K b H1 a xs)/\R (KI K b a) H1
theorem BY {a:Expr}{ta:TA}{p pos:Pos}(hg:Gl X "enumerate")(hm:X.mg "enumerate"=Y)(ha:PA X [a] ta)(hs:autoParam (cN [a] X.env=[(J,eval a X.env)]) cu0):PI X (.Tuple elts k tpos) (.Call (.Name "enumerate" p) [a] [] pos) (Ie X.K ta):=by
 intro ag s σ H R I h;refine Call_ (i3 I hg hm boot_enumerate (PyProof.Rows.callWith_type1 (eu (ha pos ag s σ H _ I h) λD g ⟨vs,H1,f,x,y⟩=>?_) hs O));obtain⟨c,b,e,⟨xs,w⟩,q⟩:=y;subst e;cases x with
 |cons r A=>
  cases A;cases r;obtain⟨u,B,t,C⟩:=ed f w;refine xw t λh' i v j l=>pC i ?_;have n:Inv X ag σ H1 {g with heap:=h'}:=f.kept (t':=g.toks) l;refine⟨g.heap.objs.size+1,[g.heap.objs.size+1,g.heap.objs.size],_,_,H1,O,n,wS b c _ _ (Nat.succ_ne_self _),⟨⟨.none,i⟩,v⟩,λd m=>?_,q⟩;rcases aD.mp m with z|z
  ·subst z;exact f.fpOk (aU _) (f.hok.fresh (aU _))
  ·have o:d=g.heap.objs.size:=by simpa using z
   subst o;exact f.fpOk (nR1 _) (f.hok.fresh (nR1 _))
def JQ(K:Fg1)(ta:TA):TI:=fun σ H R=>ta σ H λvs H1=>∃a1 b1 a2 b2,vs=[.ref a1,.ref a2]/\(∃xs,rQ K b1 H1 a1 xs)/\(∃xs,rQ K b2 H1 a2 xs)/\R (KF K b1 b2 a1 a2) H1
theorem EK {a b:Expr}{ta:TA}{p pos:Pos}(hg:Gl X "zip")(hm:X.mg "zip"=none)(ha:PA X [a,b] ta)(hs:autoParam (cN [a,b] X.env=[(false,eval a X.env),(false,eval b X.env)]) cu0)(hs2:autoParam (cN [b] X.env=[(false,eval b X.env)]) cu0):
  PI X (.Tuple elts k tpos) (.Call (.Name "zip" p) [a,b] [] pos) (JQ X.K ta):=by
 intro ag s σ H R I h;refine Call_ (i3 I hg hm boot_zip (PyProof.Rows.callWith_type1 (eu (ha pos ag s σ H _ I h) λQ c ⟨vs,H1,f,u,v⟩=>?_) (by rw[hs,hs2]) (by rw[hs2];rfl)));obtain⟨A,b1,am,b2,e,⟨xs,E⟩,⟨ys,w⟩,q⟩:=v;subst e;cases u with
 |cons r i=>
  cases i with
  |cons C i=>
   cases i;cases r;cases C;obtain⟨B,au,L,P⟩:=ed f E;obtain⟨l,x,j,D⟩:=ed f w;refine x9 L j λh' m F t G K N o=>wpAny_pyIter_zip m ?_;have y:Inv X ag σ H1 {c with heap:=h'}:=f.kept (t':=c.toks) o;refine⟨c.heap.objs.size+4,[c.heap.objs.size+4,c.heap.objs.size+2,c.heap.objs.size+3,c.heap.objs.size,c.heap.objs.size+1],_,_,H1,O,y,yp b1 b2 A am _ _ _ _ _ ?_,⟨m,F,⟨_,_,t⟩,G,K⟩,λd n=>?_,q⟩
   ·constructor<;>(intro z;have ao:((_:Nat)=_):=z;lia)
   ·have g:c.heap.objs.size<=d:=by
     simp only[aD,bG,or_false]at n;rcases n with rfl|rfl|rfl|rfl|rfl
     ·exact bn _ _
     ·exact bn _ _
     ·exact bn _ _
     ·exact nR1 _
     ·exact bn _ _
    exact f.fpOk g (f.hok.fresh g)
end
noncomputable def dw (S:cZ):D->Option (Bool×List D)
 | .tup xs=>some (false,xs)
 | .rol xs=>some (true,xs)
 | .ref n=>match S[n]? with
  |some (.lst xs)=>some (true,xs)
  |_=>none
 |_=>none
noncomputable def i8(S:cZ):D->List (Nat×List D)
 | .ref n=>match S[n]? with
  |some (.lst xs)=>[(n,xs)]
  |_=>[]
 |_=>[]
section
variable{K:Fg1}{H:Hp}{mu:List cH}{S:cZ}
theorem dh{d:D}{v:V}{b:Bool}{xs:List D}(r:d9 K H mu d v)(s:Sim K H mu S)(h:dw S d=Z (b,xs)):∃a vs,v = .ref a/\rQ K b H a vs/\db K H mu xs vs:=by
 cases d with
 |tup ys=>cases h;cases r with|tup q t=>exact⟨_,_,rfl,q,t⟩
 |rol ys=>cases h;cases r with|rol q t=>exact⟨_,_,rfl,q.sq,t⟩
 |ref n=>
  rw[dw]at h;split at h
  ·rename_i ys e;cases h;cases r with
   |ref q=>
    obtain⟨vs,f,c⟩:=s.lst e q;exact⟨_,vs,O,k4.of f,c⟩
  ·cases h
 |_=>cases h
theorem hP{d:D}{a:cH}{b:Bool}{xs:List D}(r:d9 K H mu d (.ref a))(s:Sim K H mu S)(h:dw S d=some (b,xs)){H1:Hp}{mu1:List cH}{S1:cZ}(x:pS mu mu1 H H1)(g:Sim K H1 mu1 S1)(ok:pc S1 (i8 S d)=true):
  ∃vs,rQ K b H1 a vs/\db K H1 mu1 xs vs:=by
 have f:=r.exw x;have h1:dw S1 d=Z (b,xs):=by
  cases d with
  |ref n=>
   rw[dw]at h;split at h
   ·rename_i ys e;cases h;rw[i8,e]at ok;dsimp only[pc]at ok;rw[bH]at ok;rw[dw];split at ok
    ·rename_i zs c
     first|rw[c,D.sames_eq ok] | rw[D.sames_eq ok]
    ·cases ok
   ·cases h
  |_=>exact h
 obtain⟨i,vs,e,q,t⟩:=dh f g h1;cases e;exact⟨vs,q,t⟩
end
noncomputable def ej (m:FE):FI:=λr S=>(m r S).bind λp=>(dw p.2 p.1).bind λq=>some (⟨q.2,i8 p.2 p.1⟩,p.2)
noncomputable def C3:Nat->List D->List D
 |_,[]=>[]
 |n,d::ds=>.tup [.int n,d]::C3 (n+1) ds
noncomputable def CS (m:FA):FI:=λr S=>(m r S).bind λp=>match p.1 with
 |[d]=>(dw p.2 d).bind λq=>some (⟨C3 0 q.2,i8 p.2 d⟩,p.2)
 |_=>none
noncomputable def A7:List D->List D->List D
 |x::xs,y::ys=>.tup [x,y]::A7 xs ys
 |_,_=>[]
def H9(m:FA):FI:=λr S=>(m r S).bind λp=>match p.1 with
 |[d,e]=>(dw p.2 d).bind λq=>(dw p.2 e).bind λt=>Z (⟨A7 q.2 t.2,i8 p.2 d++i8 p.2 e⟩,p.2)
 |_=>Y
noncomputable def gZ(lo:Int):Nat->List D
 |0=>[]
 |n+1=>.int lo::gZ (lo+1) n
noncomputable def uj (m:FA):FI:=λr S=>(m r S).bind λp=>match p.1 with
 |[.int j]=>if-(2^62)<=j/\j<2^62 then some (⟨gZ 0 j.toNat,[]⟩,p.2)else none
 |_=>none
def DL(m:FA):FI:=λr S=>(m r S).bind λp=>match p.1 with
 |[.int i,.int j]=>if-(2^62)<=i/\i<2^62 /\ -(2^62)<=j/\j<2^62 then Z (⟨gZ i (j-i).toNat,[]⟩,p.2)else Y
 |_=>Y
theorem mQ:∀(ds:List D) (n i:Nat),(C3 n ds)[i]?=(ds[i]?).map λd=>.tup [.int ((n+i:Nat):Int),d]
 |[],n,i=>by simp[C3]
 |d::ds,n,0=>by simp[C3]
 |d::ds,n,i+1=>by
  rw[C3,gC1,mQ ds (n+1) i,gC1];rw[show n+1+i=n+(i+1) by lia]
theorem mP:∀(ds:List D) (n:Nat),(C3 n ds).length=ds.length
 |[],_=>rfl
 |d::ds,n=>by rw[C3,lC1,mP ds,lC1]
theorem vB:∀(xs ys:List D) (i:Nat) (d:D),(A7 xs ys)[i]?=Z d -> ∃x y,xs[i]?=Z x/\ys[i]?=Z y/\d = .tup [x,y]
 |[],_,i,d,h=>by simp[A7]at h
 |_::_,[],i,d,h=>by simp[A7]at h
 |x::xs,y::ys,0,d,h=>by simp[A7]at h;exact⟨x,y,O,O,h.symm⟩
 |x::xs,y::ys,i+1,d,h=>by
  rw[A7,gC1]at h;obtain⟨f,e,a,b,c⟩:=vB xs ys i d h;exact⟨f,e,by simpa using a,by simpa using b,c⟩
theorem vA:∀(xs ys:List D) (i:Nat),(A7 xs ys).length<=i->xs.length<=i\/ys.length<=i
 |[],_,i,_=>.inl (bf _)
 |_::_,[],i,_=>.inr (bf _)
 |x::xs,y::ys,0,h=>by simp[A7]at h
 |x::xs,y::ys,i+1,h=>by
  rcases vA xs ys i (by simpa[A7]using h)with q|q
  ·exact .inl (by simpa using q)
  ·exact .inr (by simpa using q)
theorem sQ:∀(n:Nat) (lo:Int) (i:Nat) (d:D),(gZ lo n)[i]?=Z d->i<n/\d = .int (lo+i)
 |0,lo,i,d,h=>by simp[gZ]at h
 |n+1,lo,0,d,h=>by simp[gZ]at h;exact⟨Nat.succ_pos _,by rw[<- h];simp⟩
 |n+1,lo,i+1,d,h=>by
  rw[gZ,gC1]at h;obtain⟨h1,h2⟩:=sQ n (lo+1) i d h;refine⟨Nat.succ_lt_succ h1,?_⟩;rw[h2,show lo+1+(i:Int)=lo+((i+1:Nat):Int) by push_cast;lia]
theorem eR:∀(n:Nat) (lo:Int),(gZ lo n).length=n
 |0,_=>rfl
 |n+1,lo=>by rw[gZ,lC1,eR n]
theorem vZ{S:cZ}:∀{c c':List (Nat×List D)},pc S (c++c')=M->pc S c=M/\pc S c'=M
 |[],_,h=>⟨O,h⟩
 |(n,xs)::c,c',h=>by
  rw[bg,pc,bA1]at h;obtain⟨h1,h2⟩:=vZ h.2;exact⟨by rw[pc,bA1];exact⟨h.1,h1⟩,h2⟩
section
variable{tg:Expr}
theorem tq(K:Fg1)(lo:Int)(n:Nat)(mu:List cH)(H:Hp):ItR K (IK lo n) ⟨gZ lo n,[]⟩ mu H:=by
 intro i H1 mu1 e x s ok;refine⟨λd a=>?_,λh=>by rw[eR]at h;exact h⟩;obtain⟨h1,h2⟩:=sQ n lo i d a;refine⟨h1,λy H2 ⟨c,b⟩=>?_⟩;subst c;subst b;subst h2;exact⟨.refl _ _,s,.int _⟩
theorem Fw{e:Expr}{m:FE}(h:ME X e m):MI X tg e (ej m):=nA (Hu (BX h) (EL h)) <| by
 rintro σ H R ⟨r,mu,S,am,I,C,B,j,hc⟩;obtain⟨⟨d,G⟩,D,j⟩:=oB1.mp j;obtain⟨⟨b,xs⟩,o,j⟩:=oB1.mp j;cases j;cases b with
 |true=>
  left;refine⟨r,mu,S,d,_,C,B,D,λv H1 mu1 s g f=>?_⟩;obtain⟨a,vs,rfl,q,t⟩:=dh g f o;refine⟨a,O,⟨vs,q⟩,hc _ H1 mu1 s (λi H2 A E x2 n ok=>?_) f⟩;obtain⟨ws,c,k⟩:=hP g f o x2 n ok;refine⟨λd x=>?_,λz=>⟨ws,c,by rw[<- k.length];exact z⟩⟩;obtain⟨v,l,w⟩:=k.get x;refine⟨⟨ws,v,c,l⟩,λy F ⟨u,p⟩=>?_⟩;subst u;have:=p ws c;rw[l]at this;cases this;exact⟨.refl _ _,n,w⟩
 |false=>
  right;refine⟨r,mu,S,d,_,C,B,D,λv H1 mu1 s g f=>?_⟩;obtain⟨a,vs,rfl,q,t⟩:=dh g f o;refine⟨a,O,⟨vs,q⟩,hc _ H1 mu1 s (λi H2 A E x2 n ok=>?_) f⟩;obtain⟨ws,c,k⟩:=hP g f o x2 n ok;refine⟨λd x=>?_,λz=>⟨ws,c,by rw[<- k.length];exact z⟩⟩;obtain⟨v,l,w⟩:=k.get x;refine⟨⟨ws,v,c,l⟩,λy F ⟨u,p⟩=>?_⟩;subst u;have:=p ws c;rw[l]at this;cases this;exact⟨.refl _ _,n,w⟩
theorem kl{K:Fg1}{H:Hp}{mu:List cH}{d:D}{vs:List V}(r:db K H mu [d] vs):∃v,vs=[v]/\d9 K H mu d v:=by
 cases r with|cons r t=>cases t;exact⟨_,O,r⟩
theorem sx{K:Fg1}{H:Hp}{mu:List cH}{d e:D}{vs:List V}(r:db K H mu [d,e] vs):∃v u,vs=[v,u]/\d9 K H mu d v/\d9 K H mu e u:=by
 cases r with|cons r t=>cases t with|cons q t=>cases t;exact⟨_,_,O,r,q⟩
theorem w5 {a:Expr}{m:FA}{p pos:Pos}(hg:Gl X "range")(hm:X.mg "range"=Y)(ha:MA X [a] m)(hs:autoParam (cN [a] X.env=[(J,eval a X.env)]) cu0):MI X tg (.Call (.Name "range" p) [a] [] pos) (uj m):=
 nA (wY hg hm ha hs) <| by
  rintro σ H R ⟨r,mu,S,am,i,c,hs,hm,hc⟩;obtain⟨⟨ds,k⟩,d,hm⟩:=oB1.mp hm;dsimp only at hm;split at hm
  ·rename_i j;split at hm
   ·rename_i b;cases hm;refine⟨r,mu,S,_,_,c,hs,d,λvs H1 mu1 g f h=>?_⟩;obtain⟨v,rfl,e⟩:=kl f;cases e;exact⟨j,O,b.1,b.2,hc _ H1 mu1 g (tq _ _ _ _ _) h⟩
   ·cases hm
  ·cases hm
theorem w4 {a b:Expr}{m:FA}{p pos:Pos}(hg:Gl X "range")(hm:X.mg "range"=Y)(ha:MA X [a,b] m)(hs:autoParam (cN [a,b] X.env=[(J,eval a X.env),(J,eval b X.env)]) cu0)(hs2:autoParam (cN [b] X.env=[(J,eval b X.env)]) cu0):MI X tg (.Call (.Name "range" p) [a,b] [] pos) (DL m):=
 nA (wX hg hm ha hs hs2) <| by
  rintro σ H R ⟨r,mu,S,am,n,c,hs,hm,hc⟩;obtain⟨⟨ds,o⟩,d,hm⟩:=oB1.mp hm;dsimp only at hm;split at hm
  ·rename_i i j;split at hm
   ·rename_i g;cases hm;refine⟨r,mu,S,_,_,c,hs,d,λvs H1 mu1 k h l=>?_⟩;obtain⟨v,u,rfl,f,e⟩:=sx h;cases f;cases e;exact⟨i,j,O,g,hc _ H1 mu1 k (tq _ _ _ _ _) l⟩
   ·cases hm
  ·cases hm
variable{elts:List Expr}{k:Nat}{tpos:Pos}
theorem Ct {a:Expr}{m:FA}{p pos:Pos}(hg:Gl X "enumerate")(hm:X.mg "enumerate"=Y)(ha:MA X [a] m)(hs:autoParam (cN [a] X.env=[(J,eval a X.env)]) cu0):MI X (.Tuple elts k tpos) (.Call (.Name "enumerate" p) [a] [] pos) (CS m):=
 nA (BY hg hm ha hs) <| by
  rintro σ H R ⟨r,mu,S,am,ao,B,hs,hm,hc⟩;obtain⟨⟨ds,I⟩,E,hm⟩:=oB1.mp hm;dsimp only at hm;split at hm
  ·rename_i d;obtain⟨⟨b,xs⟩,j,hm⟩:=oB1.mp hm;cases hm;refine⟨r,mu,S,_,_,B,hs,E,λvs H1 mu1 A z g=>?_⟩;obtain⟨v,rfl,n⟩:=kl z;obtain⟨a,vs,rfl,q,t⟩:=dh n g j;refine⟨a,b,O,⟨vs,q⟩,hc _ H1 mu1 A (λi H2 F G x2 u ok=>?_) g⟩;obtain⟨ws,f,l⟩:=hP n g j x2 u ok;refine⟨λd c=>?_,λs=>⟨ws,f,by rw[mP]at s;rw[<- l.length];exact s⟩⟩;rw[mQ]at c;obtain⟨d',w,c⟩:=oM1.mp c;obtain⟨v,o,h⟩:=l.get w;refine⟨⟨ws,v,f,o⟩,λy K ⟨p,L,e,D,x,C⟩=>?_⟩;have:=C ws f;rw[o]at this;cases this;subst D;subst x;subst c;rw[bI];exact⟨Ext.fresh e,u.fresh e,.tup (jv.of di) (.cons (.int _) (.cons (h.ext (Ext.fresh e)) .nil))⟩
  ·cases hm
theorem Fv {a b:Expr}{m:FA}{p pos:Pos}(hg:Gl X "zip")(hm:X.mg "zip"=Y)(ha:MA X [a,b] m)(hs:autoParam (cN [a,b] X.env=[(J,eval a X.env),(J,eval b X.env)]) cu0)(hs2:autoParam (cN [b] X.env=[(J,eval b X.env)]) cu0):MI X (.Tuple elts k tpos) (.Call (.Name "zip" p) [a,b] [] pos) (H9 m):=
 nA (EK hg hm ha hs hs2) <| by
  rintro σ H R ⟨r,mu,S,am,S',Q,hs,hm,hc⟩;obtain⟨⟨ds,S1⟩,aq,hm⟩:=oB1.mp hm;dsimp only at hm;split at hm
  ·rename_i d e;obtain⟨⟨b1,xs⟩,C,hm⟩:=oB1.mp hm;obtain⟨⟨b2,ys⟩,K,hm⟩:=oB1.mp hm;cases hm;refine⟨r,mu,S,_,_,Q,hs,aq,λvs H1 mu1 au ao f=>?_⟩;obtain⟨v,u,rfl,F,I⟩:=sx ao;obtain⟨a1,l,rfl,N,t1⟩:=dh F f C;obtain⟨a2,q,rfl,P,t2⟩:=dh I f K;refine⟨a1,b1,a2,b2,O,⟨l,N⟩,⟨q,P⟩,hc _ H1 mu1 au (λi H2 mu2 S2 x2 w ok=>?_) f⟩;obtain⟨s,o⟩:=vZ ok;obtain⟨ws,n,D⟩:=hP F f C x2 w s;obtain⟨c,h,x⟩:=hP I f K x2 w o;refine⟨λd V=>?_,λW=>⟨ws,c,n,h,?_⟩⟩
   ·obtain⟨x',y',ex,ey,rfl⟩:=vB xs ys i d V;obtain⟨v,G,j⟩:=D.get ex;obtain⟨u,B,t⟩:=x.get ey;refine⟨⟨ws,c,v,u,n,h,G,B⟩,λy H3 ⟨p,v',u',g,U,L,T,wq⟩=>?_⟩;have A:=T ws n;have E:=wq c h;rw[G]at A;cases A;rw[B]at E;cases E;subst U;subst L;exact⟨Ext.fresh g,w.fresh g,.tup (jv.of di) (.cons (j.ext (Ext.fresh g)) (.cons (t.ext (Ext.fresh g)) .nil))⟩
   ·rcases vA xs ys i W with z|z
    ·exact .inl (by rw[<- D.length];exact z)
    ·exact .inr (by rw[<- x.length];exact z)
  ·cases hm
end
abbrev G1:=D->cZ->Option (D×cZ)
abbrev G2:=D->D->cZ->Option (D×cZ)
abbrev G3:=D->D->D->cZ->Option (D×cZ)
noncomputable def b1 (f:G1):FN:=λds S=>match ds with
 |[a]=>f a S
 |_=>none
noncomputable def b2 (f:G2):FN:=λds S=>match ds with
 |[a,b]=>f a b S
 |_=>none
noncomputable def b3 (f:G3):FN:=λds S=>match ds with
 |[a,b,c]=>f a b c S
 |_=>none
section
variable{K:Fg1}{H:Hp}{Q:VK}
theorem oX{f:G2}{x y:V}(h:rN K (b2 f) [x,y] H Q):∃mu S d e r a,d9 K H mu d x/\d9 K H mu e y/\Sim K H mu S/\f d e S=Z (r,a)/\rW K mu H r a Q:=by
 obtain⟨mu,S,ds,r,a,b,c,g,hc⟩:=h;cases b with
 |cons q t=>cases t with
  |cons i t=>cases t;exact⟨mu,S,_,_,r,a,q,i,c,g,hc⟩
theorem yS{f:G1}{xs:List V}(h:rN K (b1 f) xs H Q):∃x mu S d r a,xs=[x]/\d9 K H mu d x/\Sim K H mu S/\f d S=Z (r,a)/\rW K mu H r a Q:=by
 obtain⟨mu,S,ds,r,a,c,e,b,hc⟩:=h;cases c with
 |nil=>cases b
 |cons q t=>cases t with
  |nil=>exact⟨_,mu,S,_,r,a,O,q,e,b,hc⟩
  |cons g t=>cases b
theorem BD{f:G2}{xs:List V}(h:rN K (b2 f) xs H Q):∃x y mu S d e r a,xs=[x,y]/\d9 K H mu d x/\d9 K H mu e y/\Sim K H mu S/\f d e S=Z (r,a)/\rW K mu H r a Q:=by
 obtain⟨mu,S,ds,r,a,c,g,b,hc⟩:=h;cases c with
 |nil=>cases b
 |cons q t=>cases t with
  |nil=>cases b
  |cons i t=>cases t with
   |nil=>exact⟨_,_,mu,S,_,_,r,a,O,q,i,g,b,hc⟩
   |cons j t=>cases b
theorem rW.now{mu:List cH}{S:cZ}{d:D}{v:V}(c:rW K mu H d S Q)(r:d9 K H mu d v)(s:Sim K H mu S):Q v H:=c v H mu (.refl _ _) r s
end
noncomputable def ef(i j:Int):Bool:=(decide (-(2^64)<i)&&decide (i<2^64))||(decide (-(2^64)<j)&&decide (j<2^64))||(decide (i.natAbs<2^1000)&&decide (j.natAbs<2^1000))
noncomputable def dS:G2:=λd e S=>match d,e with
 | .int i,.int j=>Z (.int (i+j),S)
 | .tup xs,.tup ys=>if xs.length+ys.length<=cO then Z (.tup (xs++ys),S)else Y
 | .str x,.str y=>if x.length+y.length<=cO then Z (.str (x++y),S)else Y
 | .ref a,.ref b=>match S[a]?,S[b]? with
  |some (.lst xs),Z (.lst ys)=>if xs.length+ys.length<=cO then Z (.ref S.length,S++[.lst (xs++ys)])else Y
  |_,_=>Y
 |_,_=>Y
noncomputable def gSub:G2:=λd e S=>match d,e with
 | .int i,.int j=>Z (.int (i-j),S)
 |_,_=>Y
def i5:G2:=λd e S=>match d,e with
 | .int i,.int j=>if ef i j=M then Z (.int (i*j),S)else Y
 |_,_=>Y
noncomputable def kP:G2:=λd e S=>match d,e with
 | .int i,.int j=>if 0<j then Z (.int (i%j),S)else Y
 |_,_=>Y
noncomputable def xr:G2:=λd e S=>match d,e with
 | .int i,.int j=>if 0<j/\j<1073741824 then Z (.int (i/j),S)else Y
 |_,_=>Y
noncomputable def oI:G2:=λd e S=>match d,e with
 | .int i,.int j=>if 0<=j/\j<=1000000/\i.natAbs<2^64 then Z (.int (i^j.toNat),S)else Y
 |_,_=>Y
noncomputable def mx:G1:=λd S=>match d with
 | .int i=>Z (.int (-i),S)
 |_=>Y
theorem uW{i j:Int}(h:ef i j=M):IntMulOk i j:=by
 unfold ef at h;simp only[Bool.or_eq_true,bA1,al]at h;rcases h with(⟨h1,h2⟩|⟨h1,h2⟩)|⟨h1,h2⟩
 ·exact .of_left (intBits_le_64 h1 h2)
 ·exact .of_right (intBits_le_64 h1 h2)
 ·exact .of_bits (aB (intBits_le h1) (by decide)) (aB (intBits_le h2) (by decide))
theorem kB{f:cF->cF->Sem cF}{g:G2}{c:Int->Int->Prop}{v:Int->Int->D}(hg:∀ d e S r a,g d e S=Z (r,a) -> ∃ i j,d = .int i/\e = .int j/\c i j/\r=v i j/\a=S){b:Int->Int->V}(hv:∀i j K H mu,d9 K H mu (v i j) (b i j))(ho:fy X f (rI c b)):fy X f (r2 X.K (b2 g)):=by
 intro ag s σ H x y u w Q I n m h;obtain⟨mu,S,d,e,r,a,o,r2,l,p,hc⟩:=oX h;obtain⟨i,j,rfl,rfl,k,rfl,rfl⟩:=hg d e S r a p;cases o;cases r2;exact ho ag s σ H _ _ u w Q I n m ⟨i,j,O,O,k,hc.now (hv i j _ _ _) l⟩
theorem kA{f:cF->cF->Sem cF}{g:G2}{v:Int->Int->D}(hg:∀ d e S r a,g d e S=Z (r,a) -> ∃ i j,d = .int i/\e = .int j/\r=v i j/\a=S){b:Int->Int->V}(hv:∀i j K H mu,d9 K H mu (v i j) (b i j))(ho:fy X f (BH b)):fy X f (r2 X.K (b2 g)):=by
 intro ag s σ H x y u w Q I l k h;obtain⟨mu,S,d,e,r,a,m,r2,c,n,hc⟩:=oX h;obtain⟨i,j,rfl,rfl,rfl,rfl⟩:=hg d e S r a n;cases m;cases r2;exact ho ag s σ H _ _ u w Q I l k ⟨i,j,O,O,hc.now (hv i j _ _ _) c⟩
theorem zx:fy X (binaryOp .Sub) (r2 X.K (b2 gSub)):=kA (v:=λi j=>.int (i-j)) (λd e S r a h=>by
 unfold gSub at h;split at h
 ·cases h;exact⟨_,_,O,O,O,O⟩
 ·cases h) (λ_ _ _ _ _=>.int _) E2
theorem jC:fy X (binaryOp .Mult) (r2 X.K (b2 i5)):=kB (c:=λi j=>IntMulOk i j) (v:=λi j=>.int (i*j)) (λd e S r a h=>by
 unfold i5 at h;split at h
 ·split at h
  ·rename_i q;cases h;exact⟨_,_,O,O,uW q,O,O⟩
  ·cases h
 ·cases h) (λ_ _ _ _ _=>.int _) (opI λ_ _ _ _ _ _ _ hc q=>mul_int q hc)
theorem lW:fy X (binaryOp .Mod) (r2 X.K (b2 kP)):=kB (c:=λ_ j=>0<j) (v:=λi j=>.int (i%j)) (λd e S r a h=>by
 unfold kP at h;split at h
 ·split at h
  ·rename_i q;cases h;exact⟨_,_,O,O,q,O,O⟩
  ·cases h
 ·cases h) (λ_ _ _ _ _=>.int _) E5
theorem DE:fy X (binaryOp .FloorDiv) (r2 X.K (b2 xr)):=kB (c:=IN) (v:=λi j=>.int (i/j)) (λd e S r a h=>by
 unfold xr at h;split at h
 ·split at h
  ·rename_i q;cases h;exact⟨_,_,O,O,q,O,O⟩
  ·cases h
 ·cases h) (λ_ _ _ _ _=>.int _) B9
theorem v3:fy X (binaryOp .Pow) (r2 X.K (b2 oI)):=kB (c:=IL) (v:=λi j=>.int (i^j.toNat)) (λd e S r a h=>by
 unfold oI at h;split at h
 ·split at h
  ·rename_i q;cases h;exact⟨_,_,O,O,q,O,O⟩
  ·cases h
 ·cases h) (λ_ _ _ _ _=>.int _) E3
theorem iT:GN X (unaryOp .USub) (λx H Q=>rN X.K (b1 mx) [x] H Q):=by
 intro ag s σ H x v Q I c h;obtain⟨j,mu,S,d,r,g,e,f,b,a,hc⟩:=yS h;cases e;cases d with
 |int i=>cases a;cases f;exact D5 ag s σ H _ v Q I c ⟨i,O,hc.now (.int _) b⟩
 |_=>cases a
theorem xD{s:cG}{prog:cI}{w:cK}{A:cJ}{E:cF->cG->Prop}{t b:cH}{ws:List cF}{Q:cF->cG->Prop}(ht:IsTup s.heap t ([]:List cF).toArray)(hb:IsTup s.heap b ws.toArray)(h:Q (.ref b) s):
  cP (model prog w) A (binaryOp .Add (.ref t) (.ref b)) Q E s:=by
 obtain⟨⟨q,o,j,p⟩,l,hc,n,i⟩:=id ht;obtain⟨⟨k,f,e,g⟩,a,c,m,d⟩:=id hb;simp only at hc i c d;subst hc i c d;exact concat_meets ⟨_,l,O⟩ ⟨_,a,O⟩ noFill_tuple_add seq_tuple_add PySem.F.slot_tuple_add PySem.F.entry_tuple_add (PySem.F.args_tuple_add_2 _ _) (tuple_addW0 t b ([]:List cF).toArray ws.toArray n m o f p g (by simp)) ⟨l,a,h⟩
theorem dG:fy X (binaryOp .Add) (r2 X.K (b2 dS)):=by
 intro ag s σ H x y u w Q I q o h;obtain⟨mu,S,d,e,r,R,v,r2,f,c,hc⟩:=oX h;unfold dS at c;split at c
 ·cases c;cases v;cases r2;exact E8 ag s σ H _ _ u w Q I q o ⟨_,_,O,O,hc.now (.int _) f⟩
 ·rename_i xs ys;split at c
  ·rename_i t;cases c;cases v with
   |tup A m=>
    cases r2 with
    |tup B l=>
     rename_i g a1 k a2;by_cases E:g=[]
     ·subst E;have:xs=[]:=by cases m;rfl
      subst this;cases q;cases o;obtain⟨C,ao,L,_⟩:=I.tuple A;obtain⟨D,G,p2,_⟩:=I.tuple B;have:C=[]:=ao.nil_iff.mpr O;subst this;exact xD L p2 ⟨.ref a2,H,I,O,hc.now (.tup B l) f⟩
     ·refine Ca ag s σ H _ _ u w Q I q o ⟨a1,a2,g,k,O,O,A,B,E,by rw[<- m.length,<- l.length];exact t,λz=>?_,λz p n=>?_⟩
      ·subst z;have:ys=[]:=by cases l;rfl
       subst this;rw[aK]at hc;exact hc.now (.tup A m) f
      ·exact hc _ _ mu (Ext.fresh n) (.tup (jv.of di) ((m.append l).ext (Ext.fresh n))) (f.fresh n)
  ·cases c
 ·rename_i i j;split at c
  ·rename_i t;cases c;cases v;cases r2;exact uP ag s σ H _ _ u w Q I q o ⟨i,j,O,O,t,hc.now (.str _) f⟩
  ·cases c
 ·rename_i a b;split at c
  ·rename_i xs ys F N;split at c
   ·rename_i t;cases c;cases v with
    |ref P=>
     cases r2 with
     |ref K=>
      obtain⟨g,au,m⟩:=f.lst F P;obtain⟨k,am,l⟩:=f.lst N K;refine E7 ag s σ H _ _ u w Q I q o ⟨_,_,g,k,O,O,au,am,by rw[<- m.length,<- l.length];exact t,λp n=>?_⟩;exact hc _ _ (mu++[p]) (Ext.new_ n) (.ref (gb f.len p)) (f.newL (m.append l) n)
   ·cases c
  ·cases c
 ·cases c
noncomputable def hh(p:Int->Int->Bool):G2:=λd e S=>match d,e with
 | .int i,.int j=>Z (.bl (p i j),S)
 |_,_=>Y
theorem rp{p:Int->Int->Bool}(d e:D)(S:cZ)(r:D)(a:cZ)(h:hh p d e S=Z (r,a)):∃i j,d = .int i/\e = .int j/\r = .bl (p i j)/\a=S:=by
 unfold hh at h;split at h
 ·cases h;exact⟨_,_,O,O,O,O⟩
 ·cases h
theorem JI:fy X (compareOp .LtE) (r2 X.K (b2 (hh λi j=>decide (i<=j)))):=kA rp (λ_ _ _ _ _=>.bl _) HA
theorem Cf:fy X (compareOp .Gt) (r2 X.K (b2 (hh λi j=>decide (j<i)))):=kA rp (λ_ _ _ _ _=>.bl _) HB
theorem Ff:fy X (compareOp .GtE) (r2 X.K (b2 (hh λi j=>decide (j<=i)))):=kA rp (λ_ _ _ _ _=>.bl _) HC
noncomputable def kS:D->Bool
 | .non=>M
 | .bl _=>M
 | .int _=>M
 | .str _=>M
 |_=>J
noncomputable def Ja:D->D->Option Bool
 | .non,.non=>some true
 | .bl a,.bl b=>some (a == b)
 | .bl a,.int b=>some ((if a then 1 else 0) == b)
 | .int a,.bl b=>some (a == (if b then 1 else 0))
 | .int a,.int b=>some (a == b)
 | .str a,.str b=>some (a == b)
 |d,e=>if kS d&&kS e then some false else none
noncomputable def AA(f:D->D->Option Bool):List D->List D->Option Bool
 |x::xs,y::ys=>(f x y).bind λb=>(AA f xs ys).map λc=>b&&c
 |[],[]=>Z M
 |_,_=>Z J
def mz(S:cZ):Nat->D->D->Option Bool
 |0,_,_=>Y
 |n+1,d,e=>match dw S d,dw S e with
  |some p,Z q=>if p.1=q.1 then(if p.1=M/\p.2.length≠q.2.length then Z J else AA (mz S n) p.2 q.2)else Z J
  |some _,Y=>if kS e=M then Z J else Y
  |none,Z _=>if kS d=M then Z J else Y
  |none,Y=>Ja d e
section
variable{ag:List (cH×Obj)}{σ:L2.St}{H:Hp}{s:cG}{mu:List cH}{S:cZ}
theorem eY{K:Fg1}{d:D}{v:V}(r:d9 K H mu d v)(h:kS d=M):jF v=M /\ ∀e w,d9 K H mu e w->kS e=M->Ja d e=Z (uo v w):=by
 cases d with
 |non=>cases r;refine⟨O,λe w q f=>?_⟩;cases e with
  |non=>cases q;rfl
  |bl _=>cases q;rfl
  |int _=>cases q;rfl
  |str _=>cases q;rfl
  |_=>cases f
 |bl b=>cases r;refine⟨O,λe w q f=>?_⟩;cases e with
  |non=>cases q;rfl
  |bl _=>cases q;rfl
  |int _=>cases q;rfl
  |str _=>cases q;rfl
  |_=>cases f
 |int i=>cases r;refine⟨O,λe w q f=>?_⟩;cases e with
  |non=>cases q;rfl
  |bl _=>cases q;rfl
  |int _=>cases q;rfl
  |str _=>cases q;rfl
  |_=>cases f
 |str x=>cases r;refine⟨O,λe w q f=>?_⟩;cases e with
  |non=>cases q;rfl
  |bl _=>cases q;rfl
  |int _=>cases q;rfl
  |str _=>cases q;rfl
  |_=>cases f
 |_=>cases h
theorem og{d e:D}{b:Bool}(h:Ja d e=Z b):kS d=M/\kS e=M:=by
 cases d<;>cases e<;>first|exact⟨rfl,rfl⟩|(cases h;done)|exact nomatch h|(simp[Ja,kS]at h)
theorem Ay{v:V}(h:jF v=M):uo v v=M:=by
 cases v<;>first|rfl|(cases h;done)|exact beq_self_eq_true _|(simp[uo];done)
theorem tG(I:Inv X ag σ H s)(hs:Sim X.K H mu S):∀(n:Nat) {d e:D} {v:V} {b:Bool},d9 X.K H mu d v->d9 X.K H mu e v->mz S n d e=Z b->b=M
 |0,_,_,_,_,_,_,h=>by cases h
 |n + 1,d,e,v,b,m,l,h=>by
  rw[mz]at h;have g:∀{xs ys:List D} {vs:List V} {b:Bool},db X.K H mu xs vs->db X.K H mu ys vs->AA (mz S n) xs ys=Z b->b=M:=by
   intro xs
   induction xs with
   |nil=>intro ys vs b B w h;cases B;cases w;cases h;rfl
   |cons x xs ih=>
    intro ys vs b B w h;cases B with
    |cons r t=>
     cases w with
     |cons ao T=>
      rw[AA]at h;obtain⟨b1,j,h⟩:=oB1.mp h;obtain⟨b2,c,h⟩:=oM1.mp h;subst h;rw[tG I hs n r ao j,ih t T c];rfl
  cases hd:dw S d with
  |some p=>
   obtain⟨E,xs⟩:=p;obtain⟨a,vs,rfl,q,t⟩:=dh m hs hd;cases he:dw S e with
   |some p2=>
    obtain⟨qb,ys⟩:=p2;obtain⟨a2,z,c,u,A⟩:=dh l hs he;cases c;rw[hd,he]at h;dsimp only at h;obtain⟨K,U,F,_⟩:=ed I q;obtain⟨C,G,k,_⟩:=ed I u;have P:E=qb:=by
     cases E<;>cases qb
     ·rfl
     ·obtain⟨o,j,y,_⟩:=F;obtain⟨am,c,i,_⟩:=k;rw[j]at c;cases c;rw[y]at i;exact absurd i (by decide)
     ·obtain⟨o,j,y,_⟩:=F;obtain⟨am,c,i,_⟩:=k;rw[j]at c;cases c;rw[y]at i;exact absurd i (by decide)
     ·rfl
    subst P;have R:=mJ I q u;subst R;rw[ak O,aj (by rw[t.length,A.length];simp)]at h;exact g t A h
   |none=>
    rw[hd,he]at h;dsimp only at h;split at h
    ·rename_i f;have:=(eY l f).1;cases this
    ·cases h
  |none=>
   cases he:dw S e with
   |some p2=>
    obtain⟨qb,ys⟩:=p2;obtain⟨a2,z,c,u,A⟩:=dh l hs he;subst c;rw[hd,he]at h;dsimp only at h;split at h
    ·rename_i f;have:=(eY m f).1;cases this
    ·cases h
   |none=>
    rw[hd,he]at h;dsimp only at h;obtain⟨L,N⟩:=og h;obtain⟨au,Q⟩:=eY m L;rw[Q e v l N]at h;cases h;exact Ay au
theorem eJ{A:cJ}{b:Bool}{a:cH}{its:Array cF}{v:V}{u:cF}(c:SCo b s.heap a its)(r:dn v u)(f:jF v=true)(d:A.units<cLine):
   SeqAt.EqAt A s (.ref a) u J/\SeqAt.EqAt A s u (.ref a) J/\SeqAt.RcAt A s (.ref a) u J/\SeqAt.RcAt A s u (.ref a) J:=by
 cases v with
 | non => cases r;cases b
          · exact⟨.tuple_none c d,.none_tuple c d,.tuple_none c d,.none_tuple c d⟩
          · exact⟨.list_none c d,.none_list c d,.list_none c d,.none_list c d⟩
 | bl k => cases r;cases b
           · exact⟨.tuple_bool k c d,.bool_tuple k c d,.tuple_bool k c d,.bool_tuple k c d⟩
           · exact⟨.list_bool k c d,.bool_list k c d,.list_bool k c d,.bool_list k c d⟩
 | int i => obtain ⟨t,rfl⟩:=r;cases b
            · exact⟨.tuple_int i t c d,.int_tuple i t c d,.tuple_int i t c d,.int_tuple i t c d⟩
            · exact⟨.list_int i t c d,.int_list i t c d,.list_int i t c d,.int_list i t c d⟩
 | str x => obtain ⟨t,rfl⟩:=r;cases b
            · exact⟨.tuple_str x t c d,.str_tuple x t c d,.tuple_str x t c d,.str_tuple x t c d⟩
            · exact⟨.list_str x t c d,.str_list x t c d,.list_str x t c d,.str_list x t c d⟩
 |_=>cases f
theorem BF{A:cJ}{x y:V}{u w:cF}(g:dn x u)(a:dn y w)(h:jF x=M)(c:jF y=M):SeqAt.RcAt A s u w (uo x y):=by
 cases x with
 |non=>cases g;cases y with
  |non=>cases a;exact .none_none
  |bl k=>cases a;exact .none_bool k
  |int i=>obtain⟨t,rfl⟩:=a;exact .none_int i t
  |str z=>obtain⟨t,rfl⟩:=a;exact .none_str z t
  |_=>cases c
 |bl e=>cases g;cases y with
  |non=>cases a;exact .bool_none e
  |bl k=>cases a;exact .bool_bool e k
  |int i=>obtain⟨t,rfl⟩:=a;exact .bool_int e i t
  |str z=>obtain⟨t,rfl⟩:=a;exact .bool_str e z t
  |_=>cases c
 |int f=>obtain⟨b,rfl⟩:=g;cases y with
  |non=>cases a;exact .int_none f b
  |bl k=>cases a;exact .int_bool f b k
  |int i=>obtain⟨t,rfl⟩:=a;exact .int_int f b i t
  |str z=>obtain⟨t,rfl⟩:=a;exact .int_str f b z t
  |_=>cases c
 |str d=>obtain⟨b,rfl⟩:=g;cases y with
  |non=>cases a;exact .str_none d b
  |bl k=>cases a;exact .str_bool d b k
  |int i=>obtain⟨t,rfl⟩:=a;exact .str_int d b i t
  |str z=>obtain⟨t,rfl⟩:=a;exact .str_str d b z t
  |_=>cases c
 |_=>cases h
theorem ve(f:D->D->Option Bool):∀{xs ys:List D} {b:Bool},AA f xs ys=Z b -> ∃e:Nat->Bool,(∀j x y,xs[j]?=Z x->ys[j]?=Z y->f x y=Z (e j))/\b=((af (min xs.length ys.length)).all e&&xs.length == ys.length)
 |[],[],b,h=>by cases h;exact⟨λ_=>M,λj x y h=>by simp at h,O⟩
 |[],y::ys,b,h=>by cases h;exact⟨λ_=>M,λj x y h=>by simp at h,by simp⟩
 |x::xs,[],b,h=>by cases h;exact⟨λ_=>M,λj x y h h'=>by simp at h',by simp⟩
 |x::xs,y::ys,b,h=>by
  rw[AA]at h;obtain⟨b1,g,h⟩:=oB1.mp h;obtain⟨b2,i,h⟩:=oM1.mp h;obtain⟨e,d,l⟩:=ve f i;refine⟨λj=>match j with|0=>b1|j+1=>e j,λj m k c a=>?_,?_⟩
  ·cases j with
   |zero=>simp at c a;subst c;subst a;exact g
   |succ j=>exact d j m k (by simpa using c) (by simpa using a)
  ·rw[<- h,l,lC1,lC1,Nat.succ_min_succ,bJ,bK,bL];have:((xs.length+1 == ys.length+1):Bool)=(xs.length == ys.length):=by simp
   rw[this,Bool.and_assoc];rfl
theorem oe(I:Inv X ag σ H s)(hs:Sim X.K H mu S):∀(n:Nat) {A:cJ} {d e:D} {v w:V} {u z:cF} {b:Bool},A.units+n<cLine->d9 X.K H mu d v->d9 X.K H mu e w->dn v u->dn w z->mz S n d e=Z b->SeqAt.EqAt A s u z b/\SeqAt.RcAt A s u z b
 |0,_,_,_,_,_,_,_,_,_,_,_,_,_,h=>by cases h
 |n + 1,A,d,e,v,w,u,z,b,hu,N,r,R,F,h=>by
  have g:A.units<cLine:=by lia
  have h0:=h;rw[mz]at h;cases hd:dw S d with
  |some p=>
   obtain⟨wq,xs⟩:=p;obtain⟨a,vs,rfl,q,t⟩:=dh N hs hd;obtain⟨k,P,o,_⟩:=ed I q;cases R;cases he:dw S e with
   |some p2=>
    obtain⟨qb,ys⟩:=p2;obtain⟨a2,am,rfl,U,au⟩:=dh r hs he;obtain⟨c,l,i,_⟩:=ed I U;cases F;rw[hd,he]at h;dsimp only at h;have m:SeqAt.RcAt A s (.ref a) (.ref a2) b->SeqAt.EqAt A s (.ref a) (.ref a2) b/\SeqAt.RcAt A s (.ref a) (.ref a2) b:=λrc=>by
     refine⟨?_,rc⟩;by_cases ha:a=a2
     ·subst ha;rw[tG I hs (n+1) N r h0];exact .same _
     ·exact .of_refs ha rc
    split at h
    ·rename_i Q;have aq:wq=qb:=Q;subst aq;split at h
     ·rename_i hl;cases h;obtain⟨h1,h2⟩:=hl;subst h1;refine m (.lists_lengths o i ?_ g);have l1:=t.length;have l2:=au.length;have l3:=P.length;have l4:=l.length
      simp only[sT1,bne_iff_ne,ne_eq];lia
     ·rename_i hl;obtain ⟨f,hf,G⟩:=ve _ h;have elts:∀ j (h1:j<k.toArray.size) (h2:j<c.toArray.size),SeqAt.EqAt A.in1 s k.toArray[j] c.toArray[j] (f j):=fun j h1 h2=>by
       have B:j<k.length:=by simpa using h1
       have ao:j<c.length:=by simpa using h2
       have k1:j<vs.length:=by rw[P.length];exact B
       have k2:j<am.length:=by rw[l.length];exact ao
       obtain⟨x,ex,rx⟩:=t.getV (gG1 k1);obtain⟨y,ey,ry⟩:=au.getV (gG1 k2);obtain⟨u1,K,T⟩:=P.get (gG1 k1);obtain⟨u2,E,ru2⟩:=l.get (gG1 k2);have L:k.toArray[j]=u1:=by
        rw[gG1 B]at K;simpa using K
       have W:c.toArray[j]=u2:=by
        rw[gG1 ao]at E;simpa using E
       rw[L,W];exact(oe I hs n (A:=A.in1) (by show A.units+1+n<cLine;lia) rx ry T ru2 (hf j x y ex ey)).1
      have l1:=t.length;have l2:=au.length;have l3:=P.length;have l4:=l.length
      cases wq with
      |false=>
       refine m ?_;have:=SeqAt.RcAt.tuples o i g elts;rw[G];have L:k.toArray.size=xs.length:=by simp;lia
       have W:c.toArray.size=ys.length:=by simp;lia
       rw[L,W]at this;exact this
      |true=>
       refine m ?_;have C:xs.length=ys.length:=by
        by_cases z:xs.length=ys.length
        ·exact z
        ·exact absurd ⟨O,z⟩ hl
       have:=SeqAt.RcAt.lists o i (by simp;lia) g elts;rw[G];have L:k.toArray.size=xs.length:=by simp;lia
       rw[L]at this;rw[C,Nat.min_self,beq_self_eq_true,bH,<- C];exact this
    ·rename_i Q;cases h;cases wq with
     |true=>
      cases qb with
      |true=>exact absurd O Q
      |false=>exact⟨.list_tuple o i g,.list_tuple o i g⟩
     |false=>
      cases qb with
      |false=>exact absurd O Q
      |true=>exact⟨.tuple_list o i g,.tuple_list o i g⟩
   |none=>
    rw[hd,he]at h;dsimp only at h;split at h
    ·rename_i f;cases h;obtain⟨r1,r2,r3,r4⟩:=eJ o F (eY r f).1 g;exact⟨r1,r3⟩
    ·cases h
  |none=>
   cases he:dw S e with
   |some p2=>
    obtain⟨qb,ys⟩:=p2;obtain⟨a2,am,rfl,U,au⟩:=dh r hs he;obtain⟨c,l,i,_⟩:=ed I U;cases F;rw[hd,he]at h;dsimp only at h;split at h
    ·rename_i f;cases h;obtain⟨r1,r2,r3,r4⟩:=eJ i R (eY N f).1 g;exact⟨r2,r4⟩
    ·cases h
   |none=>
    rw[hd,he]at h;dsimp only at h;obtain⟨f1,f2⟩:=og h;obtain⟨g1,g2⟩:=eY N f1;have g3:=(eY r f2).1;rw[g2 e w r f2]at h;cases h;exact⟨jX R F g1 g3,BF R F g1 g3⟩
end
noncomputable def eZ:Nat:=60
def ul:G2:=λd e S=>(mz S eZ d e).map λb=>(.bl b,S)
theorem mr(l:X.A.units+64<cLine):fy X (compareOp .Eq) (r2 X.K (b2 ul)):=by
 intro ag s σ H x y u w Q I i g h;obtain⟨mu,S,d,e,r,k,j,r2,c,a,hc⟩:=oX h;obtain⟨b,f,a⟩:=oM1.mp a;cases a;exact(oe I c eZ (by show _+60<cLine;lia) j r2 i g f).2 X.prog X.w X.xe _ ⟨.bl b,H,I,O,hc.now (.bl b) c⟩
section
variable{ag:List (cH×Obj)}{σ:L2.St}{H:Hp}{s:cG}{mu:List cH}{S:cZ}
theorem Ci{A:cJ}{x y:V}{u w:cF}(g:dn x u)(a:dn y w)(h:jF x=M)(c:jF y=M):SeqAt.RcNeAt A s u w (!uo x y):=by
 cases x with
 |non=>cases g;cases y with
  |non=>cases a;exact .none_none
  |bl k=>cases a;exact .none_bool k
  |int i=>obtain⟨t,rfl⟩:=a;exact .none_int i t
  |str z=>obtain⟨t,rfl⟩:=a;exact .none_str z t
  |_=>cases c
 |bl e=>cases g;cases y with
  |non=>cases a;exact .bool_none e
  |bl k=>cases a;exact .bool_bool e k
  |int i=>obtain⟨t,rfl⟩:=a;exact .bool_int e i t
  |str z=>obtain⟨t,rfl⟩:=a;exact .bool_str e z t
  |_=>cases c
 |int f=>obtain⟨b,rfl⟩:=g;cases y with
  |non=>cases a;exact .int_none f b
  |bl k=>cases a;exact .int_bool f b k
  |int i=>obtain⟨t,rfl⟩:=a;exact .int_int f b i t
  |str z=>obtain⟨t,rfl⟩:=a;exact .int_str f b z t
  |_=>cases c
 |str d=>obtain⟨b,rfl⟩:=g;cases y with
  |non=>cases a;exact .str_none d b
  |bl k=>cases a;exact .str_bool d b k
  |int i=>obtain⟨t,rfl⟩:=a;exact .str_int d b i t
  |str z=>obtain⟨t,rfl⟩:=a;exact .str_str d b z t
  |_=>cases c
 |_=>cases h
theorem lY{A:cJ}{b:Bool}{a:cH}{its:Array cF}{v:V}{u:cF}(c:SCo b s.heap a its)(r:dn v u)(f:jF v=M)(d:A.units<cLine):SeqAt.RcNeAt A s (.ref a) u M/\SeqAt.RcNeAt A s u (.ref a) M:=by
 cases v with
 | non => cases r;cases b
          · exact⟨.tuple_none c d,.none_tuple c d⟩
          · exact⟨.list_none c d,.none_list c d⟩
 | bl k => cases r;cases b
           · exact⟨.tuple_bool k c d,.bool_tuple k c d⟩
           · exact⟨.list_bool k c d,.bool_list k c d⟩
 | int i => obtain ⟨t,rfl⟩:=r;cases b
            · exact⟨.tuple_int i t c d,.int_tuple i t c d⟩
            · exact⟨.list_int i t c d,.int_list i t c d⟩
 | str x => obtain ⟨t,rfl⟩:=r;cases b
            · exact⟨.tuple_str x t c d,.str_tuple x t c d⟩
            · exact⟨.list_str x t c d,.str_list x t c d⟩
 |_=>cases f
theorem Fg(I:Inv X ag σ H s)(hs:Sim X.K H mu S)(n:Nat){A:cJ}{d e:D}{v w:V}{u z:cF}{b:Bool}(hu:A.units+n<cLine)(au:d9 X.K H mu d v)(F:d9 X.K H mu e w)(ru:dn v u)(L:dn w z)(h:mz S n d e=Z b):SeqAt.RcNeAt A s u z (!b):=by
 cases n with
 |zero=>cases h
 |succ n=>
  have g:A.units<cLine:=by lia
  rw[mz]at h;cases hd:dw S d with
  |some p=>
   obtain⟨T,xs⟩:=p;obtain⟨a,vs,rfl,q,t⟩:=dh au hs hd;obtain⟨k,W,m,_⟩:=ed I q;cases ru;cases he:dw S e with
   |some p2=>
    obtain⟨qb,ys⟩:=p2;obtain⟨a2,E,rfl,P,U⟩:=dh F hs he;obtain⟨c,l,i,_⟩:=ed I P;cases L;rw[hd,he]at h;dsimp only at h;have l1:=t.length;have l2:=U.length;have l3:=W.length;have l4:=l.length
    split at h
    ·rename_i ao;have R:T=qb:=ao;subst R;split at h
     ·rename_i aq;cases h;obtain⟨h1,h2⟩:=aq;subst h1;refine .lists_lengths m i ?_ g;simp only[sT1,bne_iff_ne,ne_eq];lia
     ·rename_i aq;obtain ⟨f,hf,C⟩:=ve _ h;have elts:∀ j (h1:j<k.toArray.size) (h2:j<c.toArray.size),SeqAt.EqAt A.in1 s k.toArray[j] c.toArray[j] (f j):=fun j h1 h2=>by
       have o:j<k.length:=by simpa using h1
       have K:j<c.length:=by simpa using h2
       have k1:j<vs.length:=by rw[W.length];exact o
       have k2:j<E.length:=by rw[l.length];exact K
       obtain⟨x,ex,rx⟩:=t.getV (gG1 k1);obtain⟨y,ey,ry⟩:=U.getV (gG1 k2);obtain⟨u1,G,N⟩:=W.get (gG1 k1);obtain⟨u2,B,wq⟩:=l.get (gG1 k2);have am:k.toArray[j]=u1:=by
        rw[gG1 o]at G;simpa using G
       have Q:c.toArray[j]=u2:=by
        rw[gG1 K]at B;simpa using B
       rw[am,Q];exact(oe I hs n (A:=A.in1) (by show A.units+1+n<cLine;lia) rx ry N wq (hf j x y ex ey)).1
      cases T with
      |false=>
       have:=SeqAt.RcNeAt.tuples m i g elts;rw[C];have am:k.toArray.size=xs.length:=by simp;lia
       have Q:c.toArray.size=ys.length:=by simp;lia
       rw[am,Q]at this;exact this
      |true=>
       have r:xs.length=ys.length:=by
        by_cases z:xs.length=ys.length
        ·exact z
        ·exact absurd ⟨O,z⟩ aq
       have:=SeqAt.RcNeAt.lists m i (by simp;lia) g elts;rw[C];have am:k.toArray.size=xs.length:=by simp;lia
       rw[am]at this;rw[r,Nat.min_self,beq_self_eq_true,bH,<- r];exact this
    ·rename_i ao;cases h;cases T with
     |true=>
      cases qb with
      |true=>exact absurd O ao
      |false=>exact .list_tuple m i g
     |false=>
      cases qb with
      |false=>exact absurd O ao
      |true=>exact .tuple_list m i g
   |none=>
    rw[hd,he]at h;dsimp only at h;split at h
    ·rename_i f;cases h;exact(lY m L (eY F f).1 g).1
    ·cases h
  |none=>
   cases he:dw S e with
   |some p2=>
    obtain⟨qb,ys⟩:=p2;obtain⟨a2,E,rfl,P,U⟩:=dh F hs he;obtain⟨c,l,i,_⟩:=ed I P;cases L;rw[hd,he]at h;dsimp only at h;split at h
    ·rename_i f;cases h;exact(lY i ru (eY au f).1 g).2
    ·cases h
   |none=>
    rw[hd,he]at h;dsimp only at h;obtain⟨f1,f2⟩:=og h;obtain⟨g1,g2⟩:=eY au f1;have g3:=(eY F f2).1;rw[g2 e w F f2]at h;cases h;exact Ci ru L g1 g3
end
def Gb:G2:=λd e S=>(mz S eZ d e).map λb=>(.bl (!b),S)
noncomputable def GM(f:D->D->Option Bool)(x:D):List D->Option Bool
 |[]=>Z J
 |y::ys=>(f y x).bind λb=>(GM f x ys).map λc=>b||c
def I7:G2:=λd e S=>(dw S e).bind λp=>(GM (mz S eZ) d p.2).map λb=>(.bl b,S)
def ro:G2:=λd e S=>(dw S e).bind λp=>(GM (mz S eZ) d p.2).map λb=>(.bl (!b),S)
noncomputable def pv:D->Bool
 | .non=>M
 |_=>J
def JT:G2:=λd e S=>match e with
 | .non=>Z (.bl (pv d),S)
 |_=>Y
def CZ:G2:=λd e S=>match e with
 | .non=>Z (.bl (!pv d),S)
 |_=>Y
section
theorem HE(l:X.A.units+64<cLine):fy X (compareOp .NotEq) (r2 X.K (b2 Gb)):=by
 intro ag s σ H x y u w Q I i g h;obtain⟨mu,S,d,e,r,k,j,r2,c,a,hc⟩:=oX h;obtain⟨b,f,a⟩:=oM1.mp a;cases a;exact Fg I c eZ (by show _+60<cLine;lia) j r2 i g f X.prog X.w X.xe _ ⟨.bl (!b),H,I,O,hc.now (.bl _) c⟩
theorem Ah(f:D->D->Option Bool)(x:D):∀{ys:List D} {b:Bool},GM f x ys=Z b -> ∃bs:List Bool,bs.length=ys.length/\(∀(j:Nat) (y:D) (k:Bool),ys[j]?=Z y->bs[j]?=Z k->f y x=Z k)/\b=bs.any id
 |[],b,h=>by cases h;exact⟨[],O,λj y k h=>by simp at h,O⟩
 |y::ys,b,h=>by
  rw[GM]at h;obtain⟨b1,g,h⟩:=oB1.mp h;obtain⟨b2,i,h⟩:=oM1.mp h;obtain⟨bs,e,m,a⟩:=Ah f x i;refine⟨b1::bs,by simp[e],λj l k c d=>?_,?_⟩
  ·cases j with
   |zero=>simp at c d;subst c;subst d;exact g
   |succ j=>exact m j l k (by simpa using c) (by simpa using d)
  ·rw[<- h,a];simp
open Classical in
theorem DJ{ag:List (cH×Obj)}{σ:L2.St}{H:Hp}{s:cG}{mu:List cH}{S:cZ}(I:Inv X ag σ H s)(hs:Sim X.K H mu S){A:cJ}(L:A.units+61<cLine){x:D}{v:V}{u:cF}(B:d9 X.K H mu x v)(E:dn v u){ys:List D}{vs:List V}{us:List cF}{b:Bool}(n:db X.K H mu ys vs)(p:dF vs us)(h:GM (mz S eZ) x ys=Z b):∃e:cF->Bool,(∀w∈us,SeqAt.EqAt A.in1 s w u (e w))/\us.any e=b:=by
 obtain⟨bs,ao,C,rfl⟩:=Ah _ x h;have G:=n.length;have K:=p.length;have f:∀(j:Nat) w k,us[j]?=Z w->bs[j]?=Z k->SeqAt.EqAt A.in1 s w u k:=λj w k g c=>by
  have o:j<us.length:=(gE1.mp g).1;obtain⟨y,F,t⟩:=n.getV (i:=j) (v:=vs[j]'(by lia)) (gG1 (by lia));obtain⟨am,m,r2⟩:=p.get (i:=j) (x:=vs[j]'(by lia)) (gG1 (by lia));rw[g]at m;cases m;exact(oe I hs eZ (A:=A.in1) (by show A.units+1+60<cLine;lia) t B r2 E (C j y k F c)).1
 refine⟨λw=>decide (∃j:Nat,us[j]?=Z w/\bs[j]?=Z M),λw g=>?_,?_⟩
 ·by_cases z:∃j:Nat,us[j]?=Z w/\bs[j]?=Z M
  ·dsimp only;rw[ah z];obtain⟨j,q,a⟩:=z;exact f j w M q a
  ·dsimp only;rw[ai z];obtain⟨j,d⟩:=bm g;have o:j<us.length:=(gE1.mp d).1;have l:j<bs.length:=by lia
   have a:=gG1 l;cases c:bs[j]with
   |true=>rw[c]at a;exact absurd ⟨j,d,a⟩ z
   |false=>rw[c]at a;exact f j w J d a
 ·rw[bM,bN,bN];constructor
  ·rintro⟨w,g,z⟩;obtain⟨j,q,a⟩:=of_decide_eq_true z;exact⟨M,gM1 a,O⟩
  ·rintro⟨k,c,z⟩;obtain⟨j,d⟩:=bm c;have o:j<bs.length:=(gE1.mp d).1;have l:j<us.length:=by lia
   have r:k=M:=z;subst r;exact⟨us[j],bO l,ah ⟨j,gG1 l,d⟩⟩
theorem JJ(F:X.A.units+64<cLine):fy X (compareOp .In) (r2 X.K (b2 I7)):=by
 intro ag s σ H x y u w Q I B v h;obtain⟨mu,S,d,e,r,E,C,r2,k,i,hc⟩:=oX h;obtain⟨⟨D,ys⟩,n,i⟩:=oB1.mp i;obtain⟨b,o,i⟩:=oM1.mp i;cases i;obtain⟨a,vs,rfl,q,t⟩:=dh r2 k n;cases v;obtain⟨c,p,m,_⟩:=ed I q;obtain⟨f,l,z⟩:=DJ I k (A:=X.A) (by lia) C B t p o;have g:EP X ag σ Q (.bool (c.toArray.any f)) s:=⟨.bl b,H,I,by rw[show c.toArray.any f=c.any f by simp,z];rfl,hc.now (.bl b) k⟩;cases D
 ·exact SeqAt.in_tupleAt f m (λy j=>l y (by simpa using j)) g
 ·exact SeqAt.in_listAt f m (λy j=>l y (by simpa using j)) g
theorem Ce(F:X.A.units+64<cLine):fy X (compareOp .NotIn) (r2 X.K (b2 ro)):=by
 intro ag s σ H x y u w Q I B v h;obtain⟨mu,S,d,e,r,E,C,r2,k,i,hc⟩:=oX h;obtain⟨⟨D,ys⟩,n,i⟩:=oB1.mp i;obtain⟨b,o,i⟩:=oM1.mp i;cases i;obtain⟨a,vs,rfl,q,t⟩:=dh r2 k n;cases v;obtain⟨c,p,m,_⟩:=ed I q;obtain⟨f,l,z⟩:=DJ I k (A:=X.A) (by lia) C B t p o;have g:EP X ag σ Q (.bool (!c.toArray.any f)) s:=⟨.bl (!b),H,I,by rw[show c.toArray.any f=c.any f by simp,z];rfl,hc.now (.bl _) k⟩;cases D
 ·exact SeqAt.notIn_tupleAt f m (λy j=>l y (by simpa using j)) g
 ·exact SeqAt.notIn_listAt f m (λy j=>l y (by simpa using j)) g
theorem v5{K:Fg1}{H:Hp}{mu:List cH}{d:D}{v:V}(r:d9 K H mu d v):pv d=decide (v = .non):=by
 cases r<;>simp[pv]
theorem HG:fy X (compareOp .Is) (r2 X.K (b2 JT)):=by
 intro ag s σ H x y u w Q I f c h;obtain⟨mu,S,d,e,r,i,g,r2,b,a,hc⟩:=oX h;cases e with
 |non=>
  cases a;cases r2;refine E6 ag s σ H _ _ u w Q I f c ⟨O,?_⟩;rw[<- v5 g];exact hc.now (.bl _) b
 |_=>cases a
theorem Fe:fy X (compareOp .IsNot) (r2 X.K (b2 CZ)):=by
 intro ag s σ H x y u w Q I f c h;obtain⟨mu,S,d,e,r,i,g,r2,b,a,hc⟩:=oX h;cases e with
 |non=>
  cases a;cases r2;refine B8 ag s σ H _ _ u w Q I f c ⟨O,?_⟩;rw[<- v5 g];exact hc.now (.bl _) b
 |_=>cases a
end
def d4:G1:=λd S=>match d with
 | .str x=>if x.length<=cO then Z (.int x.length,S)else Y
 |_=>(dw S d).map λp=>(.int p.2.length,S)
def A8:G2:=λd e S=>match e with
 | .int i=>(dw S d).bind λp=>(vp p.2 i).map λx=>(x,S)
 |_=>Y
def gTup:G1:=λd S=>(dw S d).map λp=>(.tup p.2,S)
def vc:G1:=λd S=>(dw S d).map λp=>(.ref S.length,S++[.lst p.2])
def jV:G3:=λo i v S=>match o,i with
 | .ref n,.int k=>match S[n]? with
  |some (.lst xs)=>(xi xs.length k).map λj=>(.non,S.set n (.lst (xs.set j v)))
  |_=>Y
 |_,_=>Y
noncomputable def A0:List D->Option Bool
 |[]=>Z M
 | .bl b::r=>(A0 r).map λc=>b&&c
 |_=>Y
noncomputable def Gs:List D->Option Bool
 |[]=>Z J
 | .bl b::r=>(Gs r).map λc=>b||c
 |_=>Y
def jW:G1:=λd S=>(dw S d).bind λp=>(A0 p.2).map λb=>(.bl b,S)
def C1:G1:=λd S=>(dw S d).bind λp=>(Gs p.2).map λb=>(.bl b,S)
noncomputable def tD:G1:=λd S=>match d with
 | .int i=>Z (.int i,S)
 | .bl b=>Z (.int (if b then 1 else 0),S)
 |_=>Y
noncomputable def CW:G2:=λd e S=>match d,e with
 | .int i,.int j=>Z (.int (if j>i then j else i),S)
 |_,_=>Y
noncomputable def vb:G2:=λd e S=>match d,e with
 | .int i,.int j=>Z (.int (if j<i then j else i),S)
 |_,_=>Y
theorem ev:eh X (.builtin "len") (rN X.K (b1 d4)):=by
 intro ag s σ H xs f Q I r h;obtain⟨x,mu,S,d,l,k,rfl,g,e,c,hc⟩:=yS h;unfold d4 at c;split at c
 ·split at c
  ·rename_i z i;cases c;cases g;exact rG ag s σ H _ f Q I r ⟨_,O,i,hc.now (.int _) e⟩
  ·cases c
 ·obtain⟨⟨b,ys⟩,j,c⟩:=oM1.mp c;cases c;obtain⟨a,vs,rfl,q,t⟩:=dh g e j;refine rH ag s σ H _ f Q I r ⟨a,vs,O,?_,?_⟩
  ·cases b
   ·exact .inr q
   ·exact .inl q
  ·rw[<- t.length];exact hc.now (.int _) e
theorem Dl{K:Fg1}{H:Hp}{mu:List cH}{ds:List D}{vs:List V}{i:Int}{d:D}(t:db K H mu ds vs)(h:vp ds i=Z d):∃v,vp vs i=Z v/\d9 K H mu d v:=by
 unfold vp at h ⊢;rw[<- t.length];obtain⟨j,c,h⟩:=oB1.mp h;obtain⟨v,b,a⟩:=t.get h;exact⟨v,by rw[c];exact b,a⟩
theorem Ji:DZ X (r2 X.K (b2 A8)):=by
 intro value c ag s σ H x y v u Q I o n h g;obtain⟨mu,S,d,e,r,B,A,r2,j,f,hc⟩:=oX h;cases e with
 |int i=>
  obtain⟨⟨b,ys⟩,p,f⟩:=oB1.mp f;obtain⟨z,w,f⟩:=oM1.mp f;cases f;cases r2;obtain⟨a,vs,rfl,q,t⟩:=dh A j p;obtain⟨m,k,l⟩:=Dl t w;cases b
  ·exact F9 value c ag s σ H _ _ v u Q I o n ⟨a,vs,i,m,O,O,q,k,hc.now l j⟩ g
  ·exact CM value c ag s σ H _ _ v u Q I o n ⟨a,vs,i,m,O,O,q,k,hc.now l j⟩ g
 |_=>cases f
theorem fR:eh X (.type "tuple") (rN X.K (b1 gTup)):=by
 intro ag s σ H xs i Q I r h;obtain⟨x,mu,S,d,m,k,rfl,j,e,f,hc⟩:=yS h;obtain⟨⟨b,ys⟩,g,f⟩:=oM1.mp f;cases f;obtain⟨a,vs,rfl,q,t⟩:=dh j e g;refine oK ag s σ H _ i Q I r ⟨a,vs,O,?_⟩;cases b
 ·exact .inr ⟨q,hc.now (.tup q t) e⟩
 ·exact .inl ⟨q,λl c=>hc _ _ mu (Ext.fresh c) (.tup (jv.of di) (t.ext (Ext.fresh c))) (e.fresh c)⟩
theorem rJ:eh X (.type "list") (rN X.K (b1 vc)):=by
 intro ag s σ H xs i Q I r h;obtain⟨x,mu,S,d,m,k,rfl,j,c,e,hc⟩:=yS h;obtain⟨⟨b,ys⟩,g,e⟩:=oM1.mp e;cases e;obtain⟨a,vs,rfl,q,t⟩:=dh j c g;refine rF ag s σ H _ i Q I r ⟨a,vs,O,?_,λl f=>hc _ _ (mu++[l]) (Ext.new_ f) (.ref (gb c.len l)) (c.newL t f)⟩;cases b
 ·exact .inr q
 ·exact .inl q
theorem Hh:vz X (rU X.K (b3 jV)):=by
 intro ag s σ H o i v q C u Q I A r x h;obtain⟨mu,S,ds,d,F,y,f,a,hc⟩:=h;cases y with
 |cons g B=>cases B with
  |cons l w=>cases w with
   |cons p m=>
    cases m;rename_i D E G;dsimp only[b3]at a;unfold jV at a;split at a
    ·rename_i n k;split at a
     ·rename_i xs e;obtain⟨j,z,a⟩:=oM1.mp a;cases a;cases g with
      |ref b=>
       cases l;obtain⟨vs,c,t⟩:=f.lst e b;refine yN ag s σ H _ _ v q C u Q I A r x ⟨_,vs,k,j,O,O,c,by rw[<- t.length];exact z,?_⟩;exact hc _ mu (Ext.put c trivial (gM1 b)) (f.putL (t.set p j) b c)
     ·cases a
    ·cases a
theorem Do{K:Fg1}{H:Hp}{mu:List cH}:∀{ds:List D} {vs:List V} {us:List cF} {b:Bool},db K H mu ds vs->dF vs us->A0 ds=Z b -> ∃bs:List Bool,us=bs.map Value.bool/\b=bs.all id:=by
 intro ds
 induction ds with
 |nil=>intro vs us b r v h;cases r;cases v;cases h;exact⟨[],O,O⟩
 |cons d ds ih=>
  intro vs us b r v h;cases r with
  |cons f t=>
   cases v with
   |cons r a=>
    cases f
    case bl k=>
     obtain⟨c,e,h⟩:=oM1.mp h;obtain⟨bs,i,g⟩:=ih t a e;cases r;exact⟨k::bs,by rw[i];rfl,by rw[<- h,g];rfl⟩
    all_goals cases h
theorem Dm{K:Fg1}{H:Hp}{mu:List cH}:∀{ds:List D} {vs:List V} {us:List cF} {b:Bool},db K H mu ds vs->dF vs us->Gs ds=Z b -> ∃bs:List Bool,us=bs.map Value.bool/\b=bs.any id:=by
 intro ds
 induction ds with
 |nil=>intro vs us b r v h;cases r;cases v;cases h;exact⟨[],O,O⟩
 |cons d ds ih=>
  intro vs us b r v h;cases r with
  |cons f t=>
   cases v with
   |cons r a=>
    cases f
    case bl k=>
     obtain⟨c,e,h⟩:=oM1.mp h;obtain⟨bs,i,g⟩:=ih t a e;cases r;exact⟨k::bs,by rw[i];rfl,by rw[<- h,g];rfl⟩
    all_goals cases h
theorem o6(bs:List Bool):(af bs.length).all (λi=>bs.getD i M)=bs.all id:=by
 rw[bM,bv,bv];constructor
 ·intro h b c;obtain⟨i,hi,rfl⟩:=List.mem_iff_getElem.mp c;have:=h i (aA.mpr hi);simpa[bE,hi]using this
 ·intro h i hi;have a:=aA.mp hi;have:=h _ (bO a);simpa[bE,a]using this
theorem oZ(bs:List Bool):(af bs.length).any (λi=>bs.getD i M)=bs.any id:=by
 rw[bM,bN,bN];constructor
 ·rintro⟨i,hi,h⟩;have a:=aA.mp hi;exact⟨bs[i],bO a,by simpa[bE,a]using h⟩
 ·rintro⟨b,c,h⟩;obtain⟨i,hi,rfl⟩:=List.mem_iff_getElem.mp c;exact⟨i,aA.mpr hi,by simpa[bE,hi]using h⟩
theorem uw{s:cG}{b:Bool}{a:cH}{bs:List Bool}(hc:X.A.handled=Y)(g:SCo b s.heap a (bs.map Value.bool).toArray){Q:cF->cG->Prop}(all:∀h' tk,(∀c o,s.heap.get? c=Z o->h'.get? c=Z o)->Q (.bool (bs.all id)) {s with heap:=h',toks:=tk}):cP (model X.prog X.w) X.A (call (.builtin "all") [.ref a]) Q X.xe s:=by
 refine call_all_walk (hM g ?_);have h:a<s.heap.objs.size:=by cases b<;>(obtain⟨o,e,_⟩:=g;exact hL1 e)
 have ne:a≠s.heap.objs.size:=nN1 h;have l:TruthOf X.prog X.w X.A.in1 (λi v=>(bs.map Value.bool).toArray[i]?=Z v) (λi=>bs.getD i M):=λi v s' p q n j=>by
  have f:(bs.map Value.bool)[i]?=Z v:=by simpa using n
  rw[gP1]at f;obtain⟨k,m,rfl⟩:=oM1.mp f;dsimp only at j;rw[bE,m]at j;exact wpAny_truthy_bool j
 have keep:∀(h':cR),(∀c o,c∉[s.heap.objs.size]->(s.heap.push (eX b a)).get? c=Z o->h'.get? c=Z o) -> ∀c o,s.heap.get? c=Z o->h'.get? c=Z o:=λh' d c o e=>
  d c o (by simpa using nN1 (hL1 e)) (hP1 _ e)
 have hi:(s.heap.push (eX b a)).get? s.heap.objs.size=Z (eX b a):=hS1 _ (by cases b<;>rfl);cases b with
 |true=>
  refine⟨s.heap.objs.size,_,_,_,_,_,_,O,Walks.list (A:=X.A.in1) hc s.heap.objs.size a ne (bs.map Value.bool).toArray,⟨⟨_,hi,O,O⟩,SCo.to (b:=M) g λo e=>hP1 _ e⟩,l,λh' tk d=>?_⟩;have e:(bs.map Value.bool).toArray.size=bs.length:=by simp
  rw[e,o6];exact all h' tk (keep h' d)
 |false=>
  refine⟨s.heap.objs.size,_,_,_,_,_,_,O,Walks.tuple (A:=X.A.in1) hc s.heap.objs.size a ne (bs.map Value.bool).toArray,⟨⟨_,hi,O,O⟩,SCo.to (b:=J) g λo e=>hP1 _ e⟩,l,λh' tk d=>?_⟩;have e:(bs.map Value.bool).toArray.size=bs.length:=by simp
  rw[e,o6];exact all h' tk (keep h' d)
theorem walk_bools'{s:cG}{b:Bool}{a:cH}{bs:List Bool}(hc:X.A.handled=Y)(g:SCo b s.heap a (bs.map Value.bool).toArray){Q:cF->cG->Prop}(all:∀h' tk,(∀c o,s.heap.get? c=Z o->h'.get? c=Z o)->Q (.bool (bs.any id)) {s with heap:=h',toks:=tk}):cP (model X.prog X.w) X.A (call (.builtin "any") [.ref a]) Q X.xe s:=by
 refine call_any_walk (hM g ?_);have h:a<s.heap.objs.size:=by cases b<;>(obtain⟨o,e,_⟩:=g;exact hL1 e)
 have ne:a≠s.heap.objs.size:=nN1 h;have l:TruthOf X.prog X.w X.A.in1 (λi v=>(bs.map Value.bool).toArray[i]?=Z v) (λi=>bs.getD i M):=λi v s' p q n j=>by
  have f:(bs.map Value.bool)[i]?=Z v:=by simpa using n
  rw[gP1]at f;obtain⟨k,m,rfl⟩:=oM1.mp f;dsimp only at j;rw[bE,m]at j;exact wpAny_truthy_bool j
 have keep:∀(h':cR),(∀c o,c∉[s.heap.objs.size]->(s.heap.push (eX b a)).get? c=Z o->h'.get? c=Z o) -> ∀c o,s.heap.get? c=Z o->h'.get? c=Z o:=λh' d c o e=>
  d c o (by simpa using nN1 (hL1 e)) (hP1 _ e)
 have hi:(s.heap.push (eX b a)).get? s.heap.objs.size=Z (eX b a):=hS1 _ (by cases b<;>rfl);cases b with
 |true=>
  refine⟨s.heap.objs.size,_,_,_,_,_,_,O,Walks.list (A:=X.A.in1) hc s.heap.objs.size a ne (bs.map Value.bool).toArray,⟨⟨_,hi,O,O⟩,SCo.to (b:=M) g λo e=>hP1 _ e⟩,l,λh' tk d=>?_⟩;have e:(bs.map Value.bool).toArray.size=bs.length:=by simp
  rw[e,oZ];exact all h' tk (keep h' d)
 |false=>
  refine⟨s.heap.objs.size,_,_,_,_,_,_,O,Walks.tuple (A:=X.A.in1) hc s.heap.objs.size a ne (bs.map Value.bool).toArray,⟨⟨_,hi,O,O⟩,SCo.to (b:=J) g λo e=>hP1 _ e⟩,l,λh' tk d=>?_⟩;have e:(bs.map Value.bool).toArray.size=bs.length:=by simp
  rw[e,oZ];exact all h' tk (keep h' d)
theorem kY(hc:X.calm=M):eh X (.builtin "all") (rN X.K (b1 jW)):=by
 intro ag s σ H xs w Q I r h;obtain⟨x,mu,S,d,y,v,rfl,o,f,c,e⟩:=yS h;obtain⟨⟨b,ys⟩,i,c⟩:=oB1.mp c;obtain⟨k,l,c⟩:=oM1.mp c;cases c;obtain⟨a,vs,rfl,q,t⟩:=dh o f i;obtain⟨u,rfl,j⟩:=gL r;cases j;obtain⟨n,m,p,_⟩:=ed I q;obtain⟨bs,rfl,rfl⟩:=Do t m l;exact uw (I.ok.hd hc) p λh' tk g=>⟨.bl _,H,I.kept g,O,e.now (.bl _) f⟩
theorem DS(hc:X.calm=M):eh X (.builtin "any") (rN X.K (b1 C1)):=by
 intro ag s σ H xs w Q I r h;obtain⟨x,mu,S,d,y,v,rfl,o,f,c,e⟩:=yS h;obtain⟨⟨b,ys⟩,i,c⟩:=oB1.mp c;obtain⟨k,l,c⟩:=oM1.mp c;cases c;obtain⟨a,vs,rfl,q,t⟩:=dh o f i;obtain⟨u,rfl,j⟩:=gL r;cases j;obtain⟨n,m,p,_⟩:=ed I q;obtain⟨bs,rfl,rfl⟩:=Dm t m l;exact walk_bools' (I.ok.hd hc) p λh' tk g=>⟨.bl _,H,I.kept g,O,e.now (.bl _) f⟩
theorem AR:eh X (.type "int") (rN X.K (b1 tD)):=by
 intro ag s σ H xs e Q I r h;obtain⟨x,mu,S,d,j,g,rfl,f,c,a,hc⟩:=yS h;cases d with
 |int i=>cases a;cases f;exact pI ag s σ H _ e Q I r (.inl ⟨i,O,hc.now (.int _) c⟩)
 |bl b=>cases a;cases f;exact pI ag s σ H _ e Q I r (.inr ⟨b,O,hc.now (.int _) c⟩)
 |_=>cases a
theorem Iy(hc:X.calm=M):eh X (.builtin "max") (rN X.K (b2 CW)):=by
 intro ag s σ H xs c Q I r h;obtain⟨x,y,mu,S,d,e,j,i,rfl,g,r2,f,a,b⟩:=BD h;unfold CW at a;split at a
 ·cases a;cases g;cases r2;exact xJ hc ag s σ H _ c Q I r ⟨_,_,O,b.now (.int _) f⟩
 ·cases a
theorem DR(hc:X.calm=M):eh X (.builtin "min") (rN X.K (b2 vb)):=by
 intro ag s σ H xs c Q I r h;obtain⟨x,y,mu,S,d,e,j,i,rfl,g,r2,f,a,b⟩:=BD h;unfold vb at a;split at a
 ·cases a;cases g;cases r2;exact xI hc ag s σ H _ c Q I r ⟨_,_,O,b.now (.int _) f⟩
 ·cases a
open PySem.SeqAt
open PySem.AutoSeq1 (wpAny_loadPart')
open PySem.MeetsSeq PySem.MeetsSeq2 PySem.MeetsSeq3
def Ds(A:cJ)(s:cG)(y x:cF)(b:Bool):Prop:=∀(prog:cI) (w:cK) (E:cF->cG->Prop) (Q:cF->cG->Prop),Q (.bool b) s->cP (model prog w) A (richCompare .Lt y x) Q E s
inductive xY (A:cJ)(s:cG):List cF->List cF->Bool->Prop
 |nn:xY A s [] [] false
 |nc (y:cF) (ys:List cF):xY A s [] (y::ys) true
 |cn (x:cF) (xs:List cF):xY A s (x::xs) [] false
 |eq {x y:cF} {xs ys:List cF} {k:Bool} (e:EqAt A.in1 s x y true) (t:xY A s xs ys k):xY A s (x::xs) (y::ys) k
 |lt {x y:cF} {xs ys:List cF} {k:Bool} (e:EqAt A.in1 s x y false) (t:Ds A.in1 s x y k):xY A s (x::xs) (y::ys) k
theorem Ea(l b:cH)(items items2:Array cF)(n B:Nat)(C m:Option cH)(sl o:Array (Option cF))(c:Bool):
  Meets (Builtin.«tuple.__lt__» ⟨[.ref l,.ref b],[]⟩) (fun A R s=>s.heap.get? l=some {cls:=.type "tuple",dict:=C,data:=.seq items n,slots:=sl}/\s.heap.get? b=some {cls:=.type "tuple",dict:=m,data:=.seq items2 B,slots:=o} /\
    xY A s items.toList items2.toList c/\R (.ok (.ret (.bool c))) s):=
 .of_wp λprog w A R s h=>by
  obtain⟨u,g,d,tk,v⟩:=s;obtain⟨E,D,z,h⟩:=h;have H:=AutoSeq1.sub_tuple_tuple
  wp_walk using wpAny_loadPart' E,wpAny_loadPart' D,wpAny_forIn_list _ (λrest b s'=>b.1=Y/\s'=⟨u,g,d,tk,v⟩ /\ ∃vs ws:List cF,rest=vs.zip ws/\xY A ⟨u,g,d,tk,v⟩ vs ws c/\vs.length+items2.size=ws.length+items.size) _
  case turn=>
   rintro⟨y,x⟩ rest b s' ⟨j,rfl,vs,ws,f,p,a⟩;cases p with
   |nn=>cases f
   |nc _ _=>cases f
   |cn _ _=>cases f
   |eq e t=>
    rw[bP]at f;injection f with k i;injection k with q r;subst q r
    simp only[lC1]at a;refine wB1 (e prog w _ _ ?_)
    wp_walk
    exact⟨O,O,_,_,i,t,by lia⟩
   |lt e t=>
    rw[bP]at f;injection f with k i;injection k with q r;subst q r
    refine wB1 (e prog w _ _ ?_);have G:=t prog w
    wp_walk using G
    exact⟨_,O,by simpa using h⟩
  case fin=>
   rintro⟨b1,b2⟩ s' ⟨j,rfl,vs,ws,f,p,a⟩;simp only at j;subst j;have F:c=decide (items.size<items2.size):=by
    cases p with
    |nn=>simp only[aY]at a;exact(ai (by lia)).symm
    |nc _ _=>simp only[aY,lC1]at a;exact(ah (by lia)).symm
    |cn _ _=>simp only[aY,lC1]at a;exact(ai (by lia)).symm
    |eq _ _=>rw[bP]at f;cases f
    |lt _ _=>rw[bP]at f;cases f
   rw[F]at h
   wp_walk
   exact⟨_,O,by simpa[Builtin.Tuple.tupleCompareSizes]using h⟩
  case h=>exact⟨O,O,items.toList,items2.toList,O,z,by simp;lia⟩
theorem zY(l b:cH)(items items2:Array cF)(n F:Nat)(G u:Option cH)(sl v:Array (Option cF))(c:Bool)(k:Nat):
  ∀i:Nat,items.size-i=k->i<=items.size->i<=items2.size->Meets (Builtin.«list.__eq__.loop» ⟨[.ref l,.ref b,rawInt i,rawInt 0],[]⟩)
   (λA R s=>s.heap.get? l=Z {cls:=.type "list",dict:=G,data:=.seq items n,slots:=sl}/\s.heap.get? b=Z {cls:=.type "list",dict:=u,data:=.seq items2 F,slots:=v} /\
    xY A s (items.toList.drop i) (items2.toList.drop i) c/\R (.ok (.ret (.bool c))) s):=by
 induction k with
 |zero=>
  intro i D x B prog w A R s h;obtain⟨C,g,d,tk,H⟩:=s;obtain⟨m,j,a,h⟩:=h
  wp_walk using wpAny_loadPart' m,wpAny_loadPart' j
  have p:items[((i:Nat):Int).toNat]?=Y:=by simp;lia
  have r:items.toList.drop i=[]:=by simp;lia
  rw[r]at a;rw[p]
  wp_walk using wpAny_loadPart' m,wpAny_loadPart' j
  have I:c=decide (items.size<items2.size):=by
   cases h2:items2.toList.drop i with
   |nil=>
    rw[h2]at a;cases a;have:=congrArg List.length h2;simp at this;exact(ai (by lia)).symm
   |cons y ys=>
    rw[h2]at a;cases a;have:=congrArg List.length h2;simp at this;exact(ah (by lia)).symm
  show R (.ok (.ret (.bool (decide (items.size<items2.size))))) _;rw[<- I];exact h
 |succ k ih=>
  intro i D x B prog w A R s h;obtain⟨C,g,d,tk,H⟩:=s;obtain⟨m,j,a,h⟩:=h;have o:i<items.size:=by lia
  have r:items.toList.drop i=items[i]::items.toList.drop (i+1):=by simp[List.drop_eq_getElem_cons,o]
  have p:items[((i:Nat):Int).toNat]?=Z items[i]:=by simp[o]
  have hc:((i:Int)+1)=((i+1:Nat):Int):=by push_cast;rfl
  rw[r]at a;rcases bQ i items2.size with f|E
  ·have z:items2.toList.drop i=items2[i]::items2.toList.drop (i+1):=by simp[List.drop_eq_getElem_cons,f]
   have q:items2[((i:Nat):Int).toNat]?=Z items2[i]:=by simp[f]
   rw[z]at a
   wp_walk using wpAny_loadPart' m,wpAny_loadPart' j
   rw[p,q];cases a with
   |eq e t=>
    refine wB1 (e prog w _ _ ?_)
    wp_walk
    rw[hc];exact⟨plainId_quiet plain_eq_loop _,wD1 entry_eq_loop (by rw[Around.under_plainId plain_eq_loop _];exact ih (i+1) (by lia) (by lia) (by lia) prog w A R _ ⟨m,j,t,h⟩)⟩
   |lt e t=>
    refine wB1 (e prog w _ _ ?_);have am:=t prog w
    wp_walk using wpAny_loadPart' m,wpAny_loadPart' j
    rw[p,q]
    wp_walk using am
    simpa using h
  ·have q:items2[((i:Nat):Int).toNat]?=Y:=by simp;lia
   have z:items2.toList.drop i=[]:=by simp;lia
   rw[z]at a;cases a
   wp_walk using wpAny_loadPart' m,wpAny_loadPart' j
   rw[p,q]
   wp_walk using wpAny_loadPart' m,wpAny_loadPart' j
   show R (.ok (.ret (.bool (decide (items.size<items2.size))))) _;rw[ai (by lia)];exact h
theorem FZ(l b:cH)(items items2:Array cF)(n f:Nat)(i a:Option cH)(sl e:Array (Option cF))(c:Bool):
  Meets (Builtin.«list.__lt__» ⟨[.ref l,.ref b],[]⟩) (fun A R s=>s.heap.get? l=some {cls:=.type "list",dict:=i,data:=.seq items n,slots:=sl}/\s.heap.get? b=some {cls:=.type "list",dict:=a,data:=.seq items2 f,slots:=e} /\
    xY A s items.toList items2.toList c/\R (.ok (.ret (.bool c))) s):=by
 intro prog w A R s h;obtain⟨o,g,d,tk,p⟩:=s;obtain⟨j,k,m,h⟩:=h;have q:=AutoSeq1.sub_list_list
 wp_walk using wpAny_loadPart' j,wpAny_loadPart' k
 exact⟨plainId_quiet plain_eq_loop _,wD1 entry_eq_loop (by rw[Around.under_plainId plain_eq_loop _];exact zY l b items items2 n f i a sl e c _ 0 O (bf _) (bf _) prog w A R _ ⟨j,k,by simpa using m,h⟩)⟩
theorem El{A:cJ}{s:cG}{k:Bool}{l b:cH}{xs ys:Array cF}{c:Bool}(z:SCo k s.heap l xs)(B:SCo k s.heap b ys)(y:A.units<cLine)(h:xY A s xs.toList ys.toList c):Ds A s (.ref l) (.ref b) c:=λprog w E Q q=>by
 cases k
 ·obtain⟨⟨v,t,m,u⟩,p,hc,n,j⟩:=id z;obtain⟨⟨o,g,f,i⟩,a,d,r,e⟩:=id B;simp only at hc j d e;subst hc j d e;exact richCompare_meets_room (op:=.Lt) ⟨_,p,O⟩ ⟨_,a,O⟩ PySem.F.slot_tuple_lt PySem.F.entry_tuple_lt (PySem.F.args_tuple_lt_2 _ _) (Ea l b xs ys n r t g u i c) ⟨p,a,h,show Value.bool c≠Value.notImplemented/\Q (.bool c) s from⟨(λx=>nomatch x),q⟩⟩ y
 ·obtain⟨⟨v,t,m,u⟩,p,hc,n,j⟩:=id z;obtain⟨⟨o,g,f,i⟩,a,d,r,e⟩:=id B;simp only at hc j d e;subst hc j d e;exact richCompare_meets_room (op:=.Lt) ⟨_,p,O⟩ ⟨_,a,O⟩ PySem.F.slot_list_lt PySem.F.entry_list_lt (PySem.F.args_list_lt_2 _ _) (FZ l b xs ys n r t g u i c) ⟨p,a,h,show Value.bool c≠Value.notImplemented/\Q (.bool c) s from⟨(λx=>nomatch x),q⟩⟩ y
noncomputable def zX(f g:D->D->Option Bool):List D->List D->Option Bool
 |[],[]=>Z J
 |[],_::_=>Z M
 |_::_,[]=>Z J
 |x::xs,y::ys=>(f x y).bind λb=>if b=M then zX f g xs ys else g x y
noncomputable def JN:D->D->Option Bool
 | .int i,.int j=>Z (decide (i<j))
 | .str x,.str y=>Z (decide (x.cps.toList<y.cps.toList))
 |_,_=>Y
def wb(S:cZ):Nat->D->D->Option Bool
 |0,_,_=>Y
 |n+1,d,e=>match JN d e with
  |some b=>Z b
  |none=>match dw S d,dw S e with
   |some p,Z q=>if p.1=q.1 then zX (mz S n) (wb S n) p.2 q.2 else Y
   |_,_=>Y
def uk:G2:=λd e S=>(wb S eZ d e).map λb=>(.bl b,S)
section
variable{ag:List (cH×Obj)}{σ:L2.St}{H:Hp}{s:cG}{mu:List cH}{S:cZ}
theorem FY(I:Inv X ag σ H s)(hs:Sim X.K H mu S){n:Nat}{A:cJ}(j:A.units+1+n<cLine)(ih:∀ {d e:D} {v w:V} {u z:cF} {b:Bool},d9 X.K H mu d v->d9 X.K H mu e w->dn v u->dn w z->wb S n d e=some b->Ds A.in1 s u z b):
  ∀{xs ys:List D} {vs ws:List V} {us zs:List cF} {b:Bool},db X.K H mu xs vs->db X.K H mu ys ws->dF vs us->dF ws zs->zX (mz S n) (wb S n) xs ys=Z b->xY A s us zs b
 :=by
 intro xs
 induction xs with
 |nil=>
  intro ys vs ws us zs b a r2 f c h;cases a;cases f;cases r2 with
  |nil=>cases c;cases h;exact .nn
  |cons _ _=>cases c;cases h;exact .nc _ _
 |cons x xs p=>
  intro ys vs ws us zs b a r2 f c h;cases a with
  |cons a q=>
   cases f with
   |cons g l=>
    cases r2 with
    |nil=>cases c;cases h;exact .cn _ _
    |cons r2 o=>
     cases c with
     |cons i p2=>
      rw[zX]at h;obtain⟨k,m,h⟩:=oB1.mp h;have eq:=(oe I hs n (A:=A.in1) j a r2 g i m).1;cases k with
      |true=>exact .eq eq (p q o l p2 h)
      |false=>exact .lt eq (ih a r2 g i h)
theorem zV(I:Inv X ag σ H s)(hs:Sim X.K H mu S):∀(n:Nat) {A:cJ} {d e:D} {v w:V} {u z:cF} {b:Bool},A.units+n<cLine->d9 X.K H mu d v->d9 X.K H mu e w->dn v u->dn w z->wb S n d e=Z b->Ds A s u z b
 |0,_,_,_,_,_,_,_,_,_,_,_,_,_,h=>by cases h
 |n + 1,A,d,e,v,w,u,z,b,W,f,l,m,i,h=>by
  rw[wb]at h;split at h
  ·rename_i k c;cases h;unfold JN at c;split at c
   ·cases c;cases f;cases l;obtain⟨t,rfl⟩:=m;obtain⟨r,rfl⟩:=i;exact λprog w E Q q=>(PyProof.Rows.lt_int q:cP (model prog w) A (compareOp .Lt (.int _ t) (.int _ r)) Q E s)
   ·cases c;cases f;cases l;obtain⟨t,rfl⟩:=m;obtain⟨r,rfl⟩:=i;exact λprog w E Q q=>(PyProof.Rows.lt_str q:cP (model prog w) A (compareOp .Lt (.str _ t) (.str _ r)) Q E s)
   ·cases c
  ·split at h
   ·rename_i p q R F;split at h
    ·rename_i au;obtain⟨am,xs⟩:=p;obtain⟨qb,ys⟩:=q;have j:am=qb:=au;subst j;obtain⟨a,vs,rfl,B,P⟩:=dh f hs R;obtain⟨a2,K,rfl,C,L⟩:=dh l hs F;cases m;cases i;obtain⟨G,ao,U,_⟩:=ed I B;obtain⟨x,g,o,_⟩:=ed I C;refine El U o (by lia) ?_;have:=FY I hs (A:=A) (n:=n) (by lia) (λy r2 T N h=>zV I hs n (A:=A.in1) (by show A.units+1+n<cLine;lia) y r2 T N h) P L ao g h;simpa using this
    ·cases h
   ·cases h
theorem iU(l:X.A.units+64<cLine):fy X (compareOp .Lt) (r2 X.K (b2 uk)):=by
 intro ag s σ H x y u w Q I i g h;obtain⟨mu,S,d,e,r,k,j,r2,c,a,hc⟩:=oX h;obtain⟨b,f,a⟩:=oM1.mp a;cases a;exact zV I c eZ (by show _+60<cLine;lia) j r2 i g f X.prog X.w X.xe _ ⟨.bl b,H,I,O,hc.now (.bl b) c⟩
end
inductive Ty where
 |int|bool|str|tuple|list|dict
 deriving DecidableEq
noncomputable def Ty.nm:Ty->String
 | .int=>"int" | .bool=>"bool" | .str=>"str" | .tuple=>"tuple" | .list=>"list" | .dict=>"dict"
noncomputable def nR (S:cZ)(T:Ty):D->Option Bool
 | .non=>some false
 | .bl _=>some (decide (T = .bool)||decide (T = .int))
 | .int _=>some (decide (T = .int))
 | .str _=>some (decide (T = .str))
 | .tup _=>some (decide (T = .tuple))
 | .rol _=>some (decide (T = .list))
 | .ref n=>match S[n]? with
  |some (.lst _)=>some (decide (T = .list))
  |some (.dct _)=>some (decide (T = .dict))
  |some (.dcT _)=>some (decide (T = .dict))
  |_=>none
 | .fn _=>none
def iY(T:Ty)(m:FE):FE:=λr S=>(m r S).bind λp=>(nR p.2 T p.1).map λb=>(.bl b,p.2)
section
variable{ag:List (cH×Obj)}{σ:L2.St}{H:Hp}{s:cG}{mu:List cH}{S:cZ}{K:Fg1}
theorem CI(T:Ty):PySem.W.kitOne K (.type "NoneType") (.type T.nm)=Z J:=by cases T<;>rfl
theorem F4(T:Ty):PySem.W.kitOne K (.type "bool") (.type T.nm)=Z (decide (T = .bool)||decide (T = .int)):=by cases T<;>rfl
theorem CK(T:Ty):PySem.W.kitOne K (.type "int") (.type T.nm)=Z (decide (T = .int)):=by cases T<;>rfl
theorem CH(T:Ty):PySem.W.kitOne K (.type "str") (.type T.nm)=Z (decide (T = .str)):=by cases T<;>rfl
theorem CG(T:Ty):PySem.W.kitOne K (.type "tuple") (.type T.nm)=Z (decide (T = .tuple)):=by cases T<;>rfl
theorem CJ(T:Ty):PySem.W.kitOne K (.type "list") (.type T.nm)=Z (decide (T = .list)):=by cases T<;>rfl
theorem wc(T:Ty):PySem.W.kitOne K (.type "dict") (.type T.nm)=Z (decide (T = .dict)):=by cases T<;>rfl
theorem CN{T:Ty}{d:D}{v:V}{u:cF}{b:Bool}{Q:cF->cG->Prop}{E:cF->cG->Prop}(I:Inv X ag σ H s)(hs:Sim X.K H mu S)(r:d9 X.K H mu d v)(f:dn v u)(h:nR S T d=some b)(q:∀ tk,Q (.bool b) {s with toks:=tk}):
  cP (model X.prog X.w) X.A (call (.builtin "isinstance") [u,.type T.nm]) Q E s:=by
 have seq:∀{k:Bool} {a:cH} {vs:List V},rQ X.K k H a vs->b=(match k with|true=>decide (T = .list)|false=>decide (T = .tuple))->cP (model X.prog X.w) X.A (call (.builtin "isinstance") [.ref a,.type T.nm]) Q E s:=λ{k a vs} g m=>by
  obtain⟨y,B,p,_⟩:=ed I g;cases k
  ·obtain⟨o,e,c,_⟩:=p;subst m;exact PySem.W.kia_one PySem.W.kitx_tuple I.kIn ⟨o,e,c⟩ (CG T) (λz=>nomatch z) q
  ·obtain⟨o,e,c,_⟩:=p;subst m;exact PySem.W.kia_one PySem.W.kitx_list I.kIn ⟨o,e,c⟩ (CJ T) (λz=>nomatch z) q
 cases d with
 |non=>cases h;cases r;exact hX I f .non (CI T) q
 |bl k=>cases h;cases r;exact hX I f (.bl k) (F4 T) q
 |int i=>cases h;cases r;exact hX I f (.int i) (CK T) q
 |str x=>cases h;cases r;exact hX I f (.str x) (CH T) q
 |tup xs=>
  cases h;obtain⟨a,vs,rfl,g,t⟩:=dh (S:=S) r hs O;cases f;exact seq g O
 |fn x=>cases h
 |rol xs=>
  cases h;obtain⟨a,vs,rfl,g,t⟩:=dh (S:=S) r hs O;cases f;exact seq g O
 |ref n=>
  rw[nR]at h;split at h
  ·rename_i xs e;cases h;obtain⟨a,vs,rfl,g,t⟩:=dh (S:=S) r hs (by rw[dw,e]);cases f;exact seq g O
  ·rename_i ks e;cases h;cases r with
   |ref j=>
    obtain⟨ws,l,_⟩:=hs.dct e j;exact hX I f (.dK l) (wc T) q
  ·rename_i ks e;cases h;cases r with
   | @ref _ a j=>
    cases(show u=Value.ref a from f);obtain⟨ws,l,_⟩:=hs.dcT e j;obtain⟨⟨_,_,o,_,_,w,A,_⟩,_⟩:=(show dZ X.prog X.w H s.heap a (.ext (d5 a ws))from I.hok a _ l);exact PySem.W.kia_one PySem.W.kitx_dict I.kIn ⟨o,w,A.1⟩ (wc T) (λz=>nomatch z) q
  ·cases h
theorem AQ(T:Ty):eh X (.builtin "isinstance") (λxs H Q=>∃x mu S d b,xs=[x,.ty T.nm]/\d9 X.K H mu d x/\Sim X.K H mu S/\nR S T d=Z b/\Q (.bl b) H):=by
 intro ag s σ H xs i Q I r h;obtain⟨x,mu,S,d,b,rfl,e,c,f,hc⟩:=h;obtain⟨u,g,rfl,a,rt⟩:=yj r;cases rt;exact CN I c e a f λtk=>⟨.bl b,H,I.tok tk,O,hc⟩
theorem w9 (T:Ty){e:Expr}{m:FE}{nm:Str}{p p2 pos:Pos}(hg:Gl X "isinstance")(hm:X.mg "isinstance"=none)(hg2:Gl X nm)(hm2:X.mg nm=none)(hv2:bootBuiltins nm=some (.type T.nm))(h:ME X e m)
  (hn:autoParam (nm≠"__name__") bu0) (hd:autoParam ((nm == ("__debug__":Str))=J) bu0)
  (hs1:autoParam (cN [e,.Name nm p2] X.env=(J,eval e X.env)::cN [.Name nm p2] X.env) cu0) (hs2:autoParam (cN [.Name nm p2] X.env=(J,eval (.Name nm p2) X.env)::cN [] X.env) cu0)
  (hpl:autoParam ((backTo pos (cN [.Name nm p2] X.env)).any (·.1)=J) cu0):ME X (.Call (.Name "isinstance" p) [e,.Name nm p2] [] pos) (iY T m):=
 d3 (nB (AQ T) hg hm (by decide+kernel) (ig h (ig (B6 (v:=.ty T.nm) hg2 hm2 hv2 O hn hd) lg hs2) hs1) (by decide) (by decide) hs1 hpl) <| by
  rintro σ H Q ⟨r,mu,S,d,n,f,j,hm,hc⟩;obtain⟨⟨a,o⟩,g,hm⟩:=oB1.mp hm;obtain⟨b,i,hm⟩:=oM1.mp hm;cases hm;refine⟨r,mu,S,a,_,f,j,g,λv H1 mu1 l k c=>?_⟩;exact⟨v,mu1,_,a,b,O,k,c,i,hc _ H1 mu1 l (.bl b) c⟩
end
abbrev FO:=Ev->cZ->Option (Option Int×cZ)
noncomputable def KP(K:Fg1)(m:FO):TO:=fun σ H Q=>∃r mu S o S',eI K H mu r σ/\Sim K H mu S/\m r S=Z (o,S') /\ ∀H' mu',Ext mu mu' H H'->Sim K H' mu' S'->Q o H'
abbrev MO(X:Cx)(e:Option Expr)(m:FO):Prop:=PO X e (KP X.K m)
noncomputable def gC:FO:=λ_ S=>Z (Y,S)
noncomputable def gf(m:FE):FO:=λr S=>(m r S).bind λp=>match p.1 with
 | .int i=>Z (Z i,p.2)
 |_=>Y
def ol(xs:List D)(lo hi:Option Int):List D:=(xs.drop (HT.sIx xs.length 0 lo)).take (HT.sIx xs.length xs.length hi-HT.sIx xs.length 0 lo)
theorem Cp:MO X Y gC:=by
 rintro ag s σ H Q I ⟨r,mu,S,o,d,c,a,b,hc⟩;cases b;exact BW ag s σ H Q I (hc H mu (.refl _ _) a)
theorem Co{e:Expr}{m:FE}(h:ME X e m):MO X (Z e) (gf m):=by
 rintro ag s σ H Q I ⟨r,mu,S,o,l,b,f,a,hc⟩;obtain⟨⟨d,n⟩,c,a⟩:=oB1.mp a;cases d with
 |int i=>
  cases a;refine BV h ag s σ H Q I ⟨r,mu,S,_,_,b,f,c,λv H1 mu1 j g k=>?_⟩;cases g;exact⟨i,O,hc H1 mu1 j k⟩
 |_=>cases a
theorem wr{K:Fg1}{H:Hp}{mu:List cH}{ds:List D}{vs:List V}(t:db K H mu ds vs)(lo hi:Option Int):db K H mu (ol ds lo hi) (tO vs lo hi):=by
 unfold ol tO;rw[<- t.length];exact(t.drop _).take _
def G4(ta:TA):TE:=fun σ H Q=>ta σ H λvs H1=>∃j:Int,vs=[.int j] /\ ∀p,H1 p=Y->Q (.ref p) (upd H1 p (.rng 0 j))
theorem pa {a:Expr}{ta:TA}{p pos:Pos}(hg:Gl X "range")(hm:X.mg "range"=Y)(ha:PA X [a] ta)(hs:autoParam (cN [a] X.env=[(J,eval a X.env)]) cu0):PE X (.Call (.Name "range" p) [a] [] pos) (G4 ta):=by
 intro ag s σ H Q I h;refine Call_ (i3 I hg hm boot_range (PyProof.Rows.callWith_type1 (eu (ha pos ag s σ H _ I h) λk i ⟨vs,H1,c,d,f⟩=>?_) hs O));obtain⟨j,e,q⟩:=f;subst e;cases d with
 |cons r g=>
  cases g;obtain⟨t,rfl⟩:=r;refine call_range_1 ⟨.ref i.heap.objs.size,_,c.laid (λb o e=>hP1 _ e) (nR1 _) (o:=.rng 0 j) ?_,O,q _ (c.hok.fresh (nR1 _))⟩;exact⟨_,_,_,hS1 _ O⟩
noncomputable def js(i:Int):Nat->List V
 |0=>[]
 |n+1=>.int i::js (i+1) n
theorem iS:∀(n:Nat) (i:Int),(js i n).length=n
 |0,_=>rfl
 |n+1,i=>by rw[js,lC1,iS n]
theorem ny:∀(n:Nat) (i:Int) (k:Nat) (v:V),(js i n)[k]?=Z v->v = .int (i+k)
 |0,i,k,v,h=>by simp[js]at h
 |n+1,i,0,v,h=>by simp[js]at h;rw[<- h];simp
 |n+1,i,k+1,v,h=>by
  rw[js,gC1]at h;rw[ny n (i+1) k v h,show i+1+(k:Int)=i+((k+1:Nat):Int) by push_cast;lia]
theorem nw{K:Fg1}{H:Hp}{mu:List cH}:∀(n:Nat) (i:Int),db K H mu (gZ i n) (js i n)
 |0,_=>.nil
 |n+1,i=>.cons (.int i) (nw n (i+1))
theorem p0:∀{xs:List V} {us:List cF},xs.length=us.length->(∀(i:Nat) x u,xs[i]?=Z x->us[i]?=Z u->dn x u)->dF xs us
 |[],[],_,_=>.nil
 |x::xs,u::us,h,f=>.cons (f 0 x u O O) (p0 (by simpa using h) λi y w h1 h2=>f (i+1) y w (by simpa using h1) (by simpa using h2))
 |[],_::_,h,_=>by simp at h
 |_::_,[],h,_=>by simp at h
theorem Dc(hc:X.calm=M):eh X (.type "list") (λxs H Q=>∃p i j,xs=[.ref p]/\H p=Z (.rng i j)/\(-(2^62)<=i/\i<2^62 /\ -(2^62)<=j/\j<2^62)/\(j-i).toNat<=2^20 /\ ∀l,H l=Y->Q (.ref l) (upd H l (.lst (js i (j-i).toNat)))):=by
 intro ag s σ H xs F Q I r h;obtain⟨p,i,j,rfl,g,⟨h1,h2,o,E⟩,f,q⟩:=h;obtain⟨u,rfl,z⟩:=gL r;cases z;obtain⟨t,u,v,e⟩:=I.hok p _ g;have D:(((j-i).toNat:Nat):Int)=Builtin.Range.rangeSize i j 1:=by rw[rangeSize_one];split<;>lia
 refine call_list_range (n:=(j-i).toNat) (I.ok.hd hc) e (small_one h1 h2 o E) D.symm (aB f (by decide)) λh' tk a y m A hi=>?_;obtain⟨d,c⟩:=hi;have b:dF (js i (j-i).toNat) a.toList:=p0 (by rw[iS];simpa using d.symm) λk x u C w=>by
  rw[ny _ _ _ _ C];obtain⟨B,rfl⟩:=c k u (by simpa using w);exact⟨B,by rw[Int.mul_one]⟩
 refine⟨.ref s.heap.objs.size,_,I.laid (t':=tk) m (nR1 _) (show dZ X.prog X.w _ h' _ (.lst (js i (j-i).toNat))from⟨?_,a.toList,y,b,by simpa using A⟩),O,q _ (I.hok.fresh (nR1 _))⟩;rw[iS];exact aB f (by decide)
noncomputable def nz(i j:Int):Bool:=decide (-(2^62)<=i)&&decide (i<2^62)&&decide (-(2^62)<=j)&&decide (j<2^62)&&decide ((j-i).toNat<=2^20)
def u5(m:FA):FE:=λr S=>(m r S).bind λp=>match p.1 with
 |[.int j]=>if nz 0 j=M then Z (.ref p.2.length,p.2++[.lst (gZ 0 j.toNat)])else Y
 |_=>Y
theorem kk{i j:Int}(h:nz i j=M):(-(2^62)<=i/\i<2^62 /\ -(2^62)<=j/\j<2^62)/\(j-i).toNat<=2^20:=by
 unfold nz at h;simp only[bA1,al]at h;obtain⟨⟨⟨⟨h1,h2⟩,a⟩,c⟩,b⟩:=h;exact⟨⟨h1,h2,a,c⟩,b⟩
theorem F0{K:Fg1}{mu:List cH}{H H1:Hp}{S1:cZ}{i j:Int}{Q:VK}{mu1:List cH}(c:Ext mu mu1 H H1)(b:Sim K H1 mu1 S1)(hc:rW K mu H (.ref S1.length) (S1++[.lst (gZ i (j-i).toNat)]) Q){p l:cH}(hp:H1 p=none)(a:upd H1 p (.rng i j) l=none):
  Q (.ref l) (upd (upd H1 p (.rng i j)) l (.lst (js i (j-i).toNat))):=
 hc _ _ (mu1++[l]) ((c.trans (Ext.fresh hp)).trans (Ext.new_ a)) (.ref (gb b.len l)) ((b.fresh hp).newL (nw _ _) a)
theorem w8 {a:Expr}{m:FA}{e p2 b c:Pos}(hc:X.calm=true)(hg:Gl X "range")(hm:X.mg "range"=none)(hg2:Gl X "list")(hm2:X.mg "list"=none)(ha:MA X [a] m)(hs:autoParam (cN [a] X.env=[(false,eval a X.env)]) cu0)
  (hs2:autoParam (cN [.Call (.Name "range" e) [a] [] b] X.env=[(J,eval (.Call (.Name "range" e) [a] [] b) X.env)]) cu0):ME X (.Call (.Name "list" p2) [.Call (.Name "range" e) [a] [] b] [] c) (u5 m):=
 d3 (jh (Dc hc) hg2 hm2 (by decide+kernel) (ig (pa hg hm ha hs) lg hs2) (by decide) (by decide) hs2) <| by
  rintro σ H Q ⟨r,mu,S,d,u,i,hs,hm,f⟩;obtain⟨⟨ds,w⟩,n,hm⟩:=oB1.mp hm;dsimp only at hm;split at hm
  ·rename_i j;split at hm
   ·rename_i g;cases hm;refine⟨r,mu,S,_,_,i,hs,n,λvs H1 mu1 s q t=>?_⟩;obtain⟨v,rfl,o⟩:=kl q;cases o;refine⟨j,O,λp h=>⟨p,0,j,O,di,(kk g).1,(kk g).2,λl k=>F0 s t (by rw[Int.sub_zero];exact f) h k⟩⟩
   ·cases hm
  ·cases hm
noncomputable def kQ:G2:=λo v S=>match o with
 | .ref n=>match S[n]? with
  |some (.lst xs)=>if xs.length<cO then Z (.non,S.set n (.lst (xs++[v])))else Y
  |_=>Y
 |_=>Y
def An:G2:=λo i S=>match o,i with
 | .ref n,.int k=>match S[n]? with
  |some (.lst xs)=>if-(2^63)<=k/\k<2^63 then(xi xs.length k).bind λj=>(xs[j]?).map λy=>(y,S.set n (.lst (xs.eraseIdx j)))else Y
  |_=>Y
 |_,_=>Y
noncomputable def u4 (f:FN)(o:FE)(a:FA):FE:=λr S=>(o r S).bind λp=>match p.1 with
 | .ref n=>match p.2[n]? with
  |some (.lst _)=>(a r p.2).bind λq=>f (p.1::q.1) q.2
  |_=>none
 |_=>none
theorem GZ:GO X "list.append" (λx xs H Q=>rN X.K (b2 kQ) (x::xs) H Q):=by
 intro ag s σ H x xs v l Q I m j h;obtain⟨q,y,mu,S,d,e,r,p,i,o,r2,f,a,hc⟩:=BD h;cases i;cases d with
 |ref n=>
  rw[kQ]at a;split at a
  ·rename_i ys k;split at a
   ·rename_i g;cases a;cases o with
    |ref b=>
     obtain⟨vs,c,t⟩:=f.lst k b;refine pi ag s σ H _ [y] v l Q I m j ⟨_,vs,y,O,O,c,by rw[<- t.length];exact g,?_⟩;exact hc _ _ mu (Ext.put c trivial (gM1 b)) .non (f.putL (t.append (.cons r2 .nil)) b c)
   ·cases a
  ·cases a
 |_=>cases a
theorem GY:GO X "list.pop" (λx xs H Q=>rN X.K (b2 An) (x::xs) H Q):=by
 intro ag s σ H x xs v A Q I B p h;obtain⟨E,y,mu,S,d,e,F,D,m,C,r2,g,a,hc⟩:=BD h;cases m;unfold An at a;split at a
 ·rename_i n k;split at a
  ·rename_i ys q;split at a
   ·rename_i i;obtain⟨j,r,a⟩:=oB1.mp a;obtain⟨z,l,a⟩:=oM1.mp a;cases a;cases C with
    |ref b=>
     cases r2;obtain⟨vs,c,t⟩:=g.lst q b;obtain⟨w,o,f⟩:=t.get l;refine zF ag s σ H _ [.int k] v A Q I B p ⟨_,vs,k,j,w,O,O,c,i.1,i.2,?_,o,?_⟩
     ·rw[<- t.length];exact(rl r).1
     ·have x:=Ext.put (u:=.lst (vs.eraseIdx j)) c trivial (gM1 b);exact hc _ _ mu x (f.ext x) (g.putL (t.eraseIdx j) b c)
   ·cases a
  ·cases a
 ·cases a
theorem zN {o e:Expr}{es:List Expr}{m:FE}{a:FA}{f:FN}{name:Str}{apos cpos:Pos}{id:String}(slot:Slot "list" name id)(hty:typeOf (.builtin id)=pure (.type "method_descriptor"))(hm:GO X id (fun x xs H Q=>rN X.K f (x::xs) H Q))(ho:ME X o m)(ha:MA X (e::es) a)
  (hbase:autoParam (attributeBase o name X.env (eval o X.env)=eval o X.env) cu0)
  (hfew:autoParam (((backTo cpos (cN (e::es) X.env)).all (λx=> !x.1)&&(backToKw cpos (keywordEach [] X.env)).all (λx=>x.1.isSome)&&decide ((e::es).length+([]:List Keyword).length+(if([]:List Keyword).isEmpty then 0 else 1)<30))=M) cu0)
  (hline:autoParam ((apos.endLine == cpos.line)=M) cu0) (hs:autoParam (cN (e::es) X.env=(J,eval e X.env)::cN es X.env) cu0) (hplain:autoParam ((backTo cpos (cN es X.env)).any (·.1)=J) cu0):
  ME X (.Call (.Attribute o name apos) (e::es) [] cpos) (u4 f m a):=
 d3 (Hy PySem.F.plainAttrs_list slot hty hm ho ha hbase hfew hline hs hplain) <| by
  rintro σ H Q ⟨r,mu,S,d,B,k,hs,hm,hc⟩;obtain⟨⟨g,p⟩,C,hm⟩:=oB1.mp hm;refine⟨r,mu,S,g,p,k,hs,C,λv H1 mu1 i h j=>?_⟩;cases g with
  |ref n=>
   dsimp only at hm;split at hm
   ·rename_i xs A;obtain⟨⟨ds,l⟩,w,hm⟩:=oB1.mp hm;refine⟨?_,r,mu1,p,ds,l,k.ext i,j,w,λvs H2 b x2 r2 D=>?_⟩
    ·cases h with
     |ref q=>
      obtain⟨vs,z,t⟩:=j.lst A q;exact .inl ⟨O,vs,k4.of z⟩
    ·exact⟨b,l,.ref n::ds,d,B,.cons (h.ext x2) r2,D,hm,λu y c s=>hc u y c ((i.trans x2).trans s)⟩
   ·cases hm
  |_=>cases hm
theorem vW{X:Cx}(hc:X.calm=true){elt tg iter:Expr}{ifs:List Expr}{rest:List Comprehension}{scope:cU}{pos n P:Pos}{y:Str}{i:Nat}{T:List Str}{keep:List Nat}{u:List (Str×cH)}{wi:TI}{g:TG}{ti:TT}{tb:cH->TS}{emit:cF->Env->Sem Unit}(S:swapsWith (.ListComp elt (⟨tg,iter,ifs,0⟩::rest) scope pos) (some (.Name y P)) n.line X.env=pure true)(eq:∀it t k,compTurn (.ListComp elt (⟨tg,iter,ifs,0⟩::rest) scope pos) 0 it t k=ix iter.pos tg ifs it k (emit t k) (.compLoop (.ListComp elt (⟨tg,iter,ifs,0⟩::rest) scope pos) 0 it t k))(C:Bb X scope T keep)(K:gI X.env.cells scope.names []=some u)(hi:PI X tg iter wi)(hb:∀s H d p,PG (cxC X scope u T keep s H d) tg g/\lF (cxC X scope u T keep s H d) ifs ti/\PU (cxC X scope u T keep s H d) (emit (.ref p) (cxC X scope u T keep s H d).env) (tb p))(hN:X.N.Nodup)(hy:X.N[i]?=some y)(hx:uf X.env.scope y)(hf:X.fn y=true\/X.env.scope.names.lookup y=some .local)(hs:autoParam (∀x,foldedSetIterable iter X.env x=pure x) du0):
  PS X (.Assign [.Name y P] (.ListComp elt (⟨tg,iter,ifs,0⟩::rest) scope pos) n) (yD (vN T.length keep wi g ti tb) (wm i)):=by
 intro ag s σ H D I h;rw[exec_Assign_Name_used _ _ _ _ S];refine wB1 (wpAny_standAt (wB1 ?_));show cP _ X.A (do let _<-comprehension (.ListComp elt (⟨tg,iter,ifs,0⟩::rest) scope pos) scope X.env _ (newList []) J (eval iter X.env) (Z (assign (.Name y P) X.env))) _ _ s;refine wB1 (wpAny_mono (wpAny_comprehension_free (use:=Z (assign (.Name y P) X.env)) (Q:=λ_ s'=>SP X ag D .next s') O hs (vi K) C.kind C.names ?_) (λ_ s' hq=>wP1 (wP1 hq)) λ_ _ e=>e);refine eu (hi ag s σ H _ I h) λv s1 h1=>eu h1 λitv a h2=>?_;obtain⟨it,d,tn,am,H2,rfl,I2,TT,ao,f2,q2⟩:=h2;refine wO1 ?_;have A:Inv X ag σ (upd H2 a.heap.objs.size (.lst [])) {a with heap:=a.heap.push {cls:=.type "list",data:=.seq ([]:List cF).toArray}}:=I2.lnew (t':=a.toks) .nil (bf _);have old:∀b∈d,∃o,a.heap.get? b=Z o:=λb hb=>by
  obtain⟨o,e,_⟩:=TT.obj 0 a.heap ao b hb;exact⟨o,e⟩
 have wq:∀b∈d,b≠a.heap.objs.size:=λb hb z=>by
  obtain⟨o,e⟩:=old b hb;have:=hL1 e;rw[z]at this;exact az _ this
 have au:∀b∈d,h8 X ag (upd H2 a.heap.objs.size (.lst [])) b:=λb hb=>⟨by rw[c5 (wq b hb)];exact(f2 b hb).1,(f2 b hb).2⟩;have o3:∀b∈d,∃o,({a with heap:=a.heap.push {cls:=.type "list",data:=.seq ([]:List cF).toArray}}:cG).heap.get? b=Z o:=λb hb=>by
  obtain⟨o,e⟩:=old b hb;exact⟨o,hP1 _ e⟩
 have N:=nU A C K au o3;obtain⟨hg,aq,he⟩:=hb {a with heap:=a.heap.push {cls:=.type "list",data:=.seq ([]:List cF).toArray}} (upd H2 a.heap.objs.size (.lst [])) d a.heap.objs.size;refine g0 ?_;have f4:∀b∈d,h8 (cxC X scope u T keep {a with heap:=a.heap.push {cls:=.type "list",data:=.seq ([]:List cF).toArray}} (upd H2 a.heap.objs.size (.lst [])) d) [] (upd H2 a.heap.objs.size (.lst [])) b:=λb hb=>
  ⟨(au b hb).1,(N.ok.exf b hb).1,N.ok.exfs b hb,.inl hb,(N.ok.exf b hb).2,λp E=>absurd (show p∈([]:List (cH×Obj))from E) (by simp)⟩
 have F:tn 0 (pushCells ((a.heap.push {cls:=.type "list",data:=.seq ([]:List cF).toArray}).push {cls:=.type "dict",data:=.dict #[]}) scope.names):=
  TT.keep 0 a.heap _ ao λb hb o e=>pushCells_keeps scope.names _ b o (hP1 _ (hP1 _ e))
 have l:=ly (X:=cxC X scope u T keep {a with heap:=a.heap.push {cls:=.type "list",data:=.seq ([]:List cF).toArray}} (upd H2 a.heap.objs.size (.lst [])) d) O hc (eq (.ref it) (.ref a.heap.objs.size) _) TT hg aq he N F f4
  (q2 a.heap.objs.size (I2.hok.fresh (nR1 _)))
 refine codeAny_mono (codeAny_compStart_list l (TT.self X.A 0 _ _ _ F l)) λr s' hr=>?_;cases r with
 |error e=>exact hr.elim
 |ok f=>
  obtain⟨σ',H',B,q'⟩:=hr;have J1:Inv X ag σ H' s':=A.call' (s':=s') (ch:=d) B.os B.base B.hok B.bare λb hb=>(au b hb).2.2.2 |> λz=>⟨z.1,(au b hb).2.1,z.2.1,z.2.2⟩
  -- the block's own dict is kept aside
  obtain⟨m,hn,_⟩:=id B.loc;obtain⟨R,es,ep,eC,dC,rC⟩:=id hn;have hCz:(a.heap.push {cls:=.type "list",data:=.seq ([]:List cF).toArray}).get? (a.heap.push {cls:=.type "list",data:=.seq ([]:List cF).toArray}).objs.size=Y:=Heap.get?_none_of_le (nR1 _);have G:(a.heap.push {cls:=.type "list",data:=.seq ([]:List cF).toArray}).objs.size≠X.env.locals:=λz=>by
   have:=A.lt;rw[<- z]at this;exact az _ this
  have W:H' (a.heap.push {cls:=.type "list",data:=.seq ([]:List cF).toArray}).objs.size=Y:=B.free;have J2:Inv X (ag++[((a.heap.push {cls:=.type "list",data:=.seq ([]:List cF).toArray}).objs.size,R)]) σ H' s':=J1.pins_of λp E=>by
   rcases aE.mp E with z|z
   ·exact J1.pin p (mA1 _ z)
   ·have z':p=((a.heap.push {cls:=.type "list",data:=.seq ([]:List cF).toArray}).objs.size,R):=by simpa using z
    subst z';exact⟨eC,W,G,A.nofs (nR1 _),λv q=>by rw[dC]at q;cases q⟩
  refine eu (vY hN hy hx hf _ s' σ H' (.ref a.heap.objs.size) (.ref a.heap.objs.size) D.nx J2 O q') λ_ s5 ⟨L,H5,J5,q5⟩=>?_;obtain⟨e5,n5,_⟩:=J5.pin ((a.heap.push {cls:=.type "list",data:=.seq ([]:List cF).toArray}).objs.size,R) (mA1 _ (mA1 _ mS1));refine⟨m,⟨R,es,ep,e5,dC,rC⟩,λh' U=>?_⟩;have J6:Inv X ag L H5 s5:=J5.unpinned;refine⟨L,H5,J6.turned (t':=s5.toks) (λb o hb e=>(U.2 b hb).trans e) n5 G (.inr ?_) (λx c w z=>?_) (λp E z=>?_),q5⟩
  ·exact A.sz
  ·obtain⟨w',zc⟩:=A.cell x c w;have j:=zc.lt;rw[z]at j;exact az _ j
  ·obtain⟨V,_⟩:=A.pin p E;have j:=hL1 V;rw[z]at j;exact az _ j
theorem AX{K:Fg1}{te:TE}{m:FE}{i:Nat}(hm:∀ σ H Q,tM K m σ H Q->te σ H Q){E:gJ}{σ:L2.St}{H:Hp}(h:vM K (de m (gN i)) E σ H):yD te (wm i) E σ H:=by
 obtain⟨r,mu,S,d,f,h1,h2,e,p⟩:=rg h;refine hm _ _ _ ⟨r,mu,S,d,f,h1,h2,e,λv H' mu' g k o=>?_⟩;obtain⟨r2,a,q,s,t,u,l,n,c,b,j⟩:=p v H' mu' g k o;cases b;exact j _ H' a (.refl _ _) (l.set c) n
theorem mv (i:Nat){x:Str}{pos:Pos}(hN:autoParam (X.N[i]? = some x) cu0)(hv:autoParam (Vis X.env.scope x) au0)(hd:autoParam ((x == ("__debug__":Str))=false) bu0)(hcd:autoParam ((x == ("__classdict__":Str))=false) bu0):
  ME X (.Name x pos) (mV i):=FB i hN hv hd hcd
def d0(P:cI)(w:cK)(K:Fg1)(mg:Str->Option cF)(base:cR)(k:Nat)(x:Str)(n:Nat)(m:FN):Prop:=
 ∃(f:cH) (fd:cS) (ps:List Str),k3 P w K mg base uh k f fd ps (yF K n m)/\jK K fd ps []/\wK1 K (.ref f)=M/\mg x=Z (.ref f)
theorem FF {X:Cx}{k k' n:Nat}{x:Str}{m:FN}{p pos:Pos}{e:Expr}{es:List Expr}{a:FA}(h:d0 X.prog X.w X.K X.mg X.base k x n m)(hr:fb k' X.A)(hk:k<=k')(hg:Gl X x)(ha:MA X (e::es) a)(hdb:autoParam ((x == ("__debug__":Str))=false) bu0)
  (he:autoParam (cN (e::es) X.env=(J,eval e X.env)::cN es X.env) cu0) (hpl:autoParam ((backTo pos (cN es X.env)).any (·.1)=J) cu0):ME X (.Call (.Name x p) (e::es) [] pos) (mN (cY n m) a):=by
 obtain⟨f,fd,ps,F,b,d,c⟩:=h;exact Cy F (hr.mono hk) hg c d b ha hdb he hpl
theorem E1{P:cI}{w:cK}{K:Fg1}{mg:Str->Option cF}{base:cR}{x a:Str}{st:cT}{f:cH}{fd:cS}{N ps:List Str}{k n:Nat}{b:FS}(F:xZ K x a st f fd)(hb:jK K fd ps [])(hm:mg x=some (.ref f))(S:fS N ps (dv st))(hn:ps.length=n)(c:∀(e:cF) (A:cJ) (d:List Env) (s:cG) (H:Hp) (E:XK),fb k (A.deeper (envOfC a (dv st) s.heap.objs.size f e)) ->
   xS (mD uh P w K mg base N a (dv st) f e A d s H E).nox (eK st) b):d0 P w K mg base (k+1) x n (fG N.length b):=by
 subst hn;exact⟨f,fd,ps,Ik F S c,hb,F.kp,hm⟩
def CGl(K:Fg1)(mg:Str->Option cF)(x:Str)(d:D):Prop:=∃(v:V) (u:cF),mg x=Z u/\dn v u /\ ∀H mu,d9 K H mu d v
theorem Cw {X:Cx}{x:Str}{d:D}{pos:Pos}(h:CGl X.K X.mg x d)(hg:Gl X x)(hd:autoParam ((x == ("__debug__":Str))=J) bu0):ME X (.Name x pos) (mC d):=by
 obtain⟨v,u,a,r,q⟩:=h;exact zQ d (B0 hg a r hd) q
noncomputable def e9:List Bool->Ev->Ev
 |true::bs,o::r=>o::e9 bs r
 |false::bs,_::r=>Y::e9 bs r
 |[],_::r=>Y::e9 [] r
 |_,[]=>[]
def iy:Ev->Bool
 |[]=>M
 |none::r=>iy r
 |some d::r=>d.und 0&&iy r
noncomputable def nM (ki ko:List Bool)(b:FS):FS:=fun r S=>if iy (e9 ki r)=true then
  (b (e9 ki r) []).bind λp=>match p.1 with
   | .rt d=>if d.und 0=true then some (.rt d,[],S)else none
   |f=>if iy (e9 ko p.2.1)=true then some (f,e9 ko p.2.1,S)else none
 else none
theorem jj:∀(bs:List Bool) (r:Ev),(e9 bs r).length=r.length
 |true::bs,o::r=>congrArg (· + 1) (jj bs r)
 |false::bs,o::r=>congrArg (· + 1) (jj bs r)
 |[],o::r=>congrArg (· + 1) (jj [] r)
 |[],[]=>rfl
 |true::_,[]=>rfl
 |false::_,[]=>rfl
theorem jk:∀(bs:List Bool) (r:Ev) (i:Nat) (d:D),(e9 bs r)[i]?=Z (Z d)->r[i]?=Z (Z d)
 |true::bs,o::r,0,d,h=>h
 |true::bs,o::r,i+1,d,h=>by
  rw[gC1];exact jk bs r i d (by rw[e9,gC1]at h;exact h)
 |false::bs,o::r,0,d,h=>by simp[e9]at h
 |false::bs,o::r,i+1,d,h=>by
  rw[gC1];exact jk bs r i d (by rw[e9,gC1]at h;exact h)
 |[],o::r,0,d,h=>by simp[e9]at h
 |[],o::r,i+1,d,h=>by
  rw[gC1];exact jk [] r i d (by rw[e9,gC1]at h;exact h)
 |[],[],i,d,h=>by simp[e9]at h
 |true::_,[],i,d,h=>by simp[e9]at h
 |false::_,[],i,d,h=>by simp[e9]at h
theorem k9:∀(r:Ev) (i:Nat) (d:D),iy r=M->r[i]?=Z (Z d)->d.und 0=M
 |none::r,0,d,_,h=>by simp at h
 |none::r,i+1,d,hs,h=>k9 r i d hs (by simpa using h)
 |some e::r,0,d,hs,h=>by
  rw[iy,bA1]at hs;simp at h;subst h;exact hs.1
 |some e::r,i+1,d,hs,h=>by
  rw[iy,bA1]at hs;exact k9 r i d hs.2 (by simpa using h)
theorem eI.mask{K:Fg1}{H:Hp}{mu mu':List cH}{r:Ev}{σ:L2.St}{bs:List Bool}(h:eI K H mu r σ)(hs:iy (e9 bs r)=M):eI K H mu' (e9 bs r) σ:=
 ⟨by rw[jj];exact h.len,λi d e=>by
  obtain⟨v,c,b⟩:=h.val i d (jk bs r i d e);exact⟨v,c,b.cut (n:=0) (λk a=>absurd a (bt _)) (k9 _ i d hs e)⟩⟩
theorem zS{K:Fg1}{l w:List Bool}{b:FS}{E:gJ}{σ:L2.St}{H:Hp}(h:vM K (nM l w b) E σ H):vM K b E σ H:=by
 obtain⟨r,mu,S,f,C,B,p,j,c,hc⟩:=h;unfold nM at c;split at c
 ·rename_i y;obtain⟨⟨m,A,u⟩,t,c⟩:=oB1.mp c;refine⟨e9 l r,[],[],m,A,u,p.mask y,.nil,t,?_⟩;have back:∀{H':Hp} {mu':List cH},Ext [] mu' H H'->Ext mu mu H H':=λ{H' mu'} x=>⟨bi,λa o e _=>x.old a o e (by simp),x.tup,x.frz,λ_ z=>.inl z⟩;have keep:∀{H':Hp} {mu':List cH},Ext [] mu' H H'->Sim K H' mu S:=λ{H' mu'} x=>⟨j.len,j.nd,λn o a h1 h2=>(j.ob n o a h1 h2).keep (back x) λo e=>x.old a o e (by simp)⟩;cases m with
  |rt d=>
   dsimp only at c;split at c
   ·rename_i i;cases c;exact λv H' mu' x r s=>hc v H' mu (back x) (r.cut (n:=0) (λk q=>absurd q (bt _)) i) (keep x)
   ·cases c
  |nx=>
   dsimp only at c;split at c
   ·rename_i i;cases c;exact λg H' mu' x r s=>hc g H' mu (back x) (r.mask i) (keep x)
   ·cases c
  |bk=>
   dsimp only at c;split at c
   ·rename_i i;cases c;exact λg H' mu' x r s=>hc g H' mu (back x) (r.mask i) (keep x)
   ·cases c
  |ct=>
   dsimp only at c;split at c
   ·rename_i i;cases c;exact λg H' mu' x r s=>hc g H' mu (back x) (r.mask i) (keep x)
   ·cases c
 ·cases c
theorem zG{X:Cx}{sts:List cT}{b:FS}(a c:List Bool)(h:xS X sts b):xS X sts (nM a c b):=ql h λ_ _ _=>zS
def CV(K:Fg1)(d:D)(u:cF):Prop:=∃v:V,dn v u /\ ∀H mu,d9 K H mu d v
def Jh(K:Fg1)(ds:List D)(us:List cF):Prop:=∃vs:List V,dF vs us /\ ∀H mu,db K H mu ds vs
section
variable{K:Fg1}
theorem oj{i:Int}{t}:CV K (.int i) (.int i t):=⟨.int i,⟨t,O⟩,λ_ _=>.int i⟩
theorem rE{x:Str}{t}:CV K (.str x) (.str x t):=⟨.str x,⟨t,O⟩,λ_ _=>.str x⟩
theorem kT:Jh K [] []:=⟨[],.nil,λ_ _=>.nil⟩
theorem eN{d:D}{u:cF}{ds:List D}{us:List cF}(h:CV K d u)(t:Jh K ds us):Jh K (d::ds) (u::us):=by
 obtain⟨v,r,q⟩:=h;obtain⟨vs,rs,a⟩:=t;exact⟨v::vs,.cons r rs,λH mu=>.cons (q H mu) (a H mu)⟩
theorem oi {a:cH}{c:Option cH}{us:List cF}{n:Nat}{sl:Array (Option cF)}{ds:List D}(h:K.lookup a=Z ⟨.type "tuple",c,.seq us.toArray n,sl⟩)(hs:us.length<=cO)(t:Jh K ds us):CV K (.tup ds) (.ref a):=by
 obtain⟨vs,rs,b⟩:=t;exact⟨.ref a,O,λH mu=>.tup (.inr ⟨_,us.toArray,n,h,O,O,by simpa using hs,by simpa using rs⟩) (b H mu)⟩
theorem AO{mg:Str->Option cF}{x:Str}{d:D}{u:cF}(hm:mg x=Z u)(h:CV K d u):CGl K mg x d:=by
 obtain⟨v,r,q⟩:=h;exact⟨v,u,hm,r,q⟩
end
theorem jg{K:Fg1}{H:Hp}{mu:List cH}:∀ns:List Int,db K H mu (ns.map D.int) (ns.map V.int)
 |[]=>.nil
 |n::ns=>.cons (.int n) (jg ns)
theorem F1{K:Fg1}{m:FN}(hm:∀ ns:List Int,ns.length<=63 -> ∃ S,m [.rol (ns.map D.int)] []=some (.bl true,S))(H:Hp)(a:cH)(ns:List Int)(d:ns.length<=63)(b:Dt H)(f:k4 K H a (ns.map V.int)):
  yF K 1 m [.ref a] H (λv _=>v = .bl M) λ_ _ _=>False:=by
 refine⟨O,?_⟩;obtain⟨S,e⟩:=hm ns d;have c:RoL K H a (ns.map V.int):=by
  rcases f with h|h
  ·rcases h with h|h
   ·rcases b a with z|⟨o,xs,z⟩
    ·rw[h]at z;cases z
    ·rw[h]at z;cases z
   ·exact .inl h
  ·exact .inr h
 refine⟨[],[],[.rol (ns.map D.int)],.bl M,S,.cons (.rol c (jg ns)) .nil,.nil,e,λv H' mu' x r s=>?_⟩;cases r;rfl
theorem walk_m{l:PySem.W.OpenLaw}{q:cI}{b:List Str}{XP:(Str->Option cF)->cR->Prop}{e:cK->cR->Prop}{d:DefRec}{K:Params->Fg1}{m:FN}{k:Nat}{x:Str}(hn:l.most=some 63)(c:d.params.defaults=[])(hr:fb k callerA)(i:∀(w:cK) (h:cR),e w h->(K w.params).In h)(hm:∀ns:List Int,ns.length<=63 -> ∃S,m [.rol (ns.map D.int)] []=some (.bl true,S))(F:∀(w:cK) (mg:Str->Option cF) (g:cH) (h:cR),(K w.params).In h->h.Ns cM mg->mg d.name=some (.ref g) ->
   ∃fd:cS,(∀(s:cG) (u:cF),BindsTo s fd ⟨[u],[]⟩ [(x,u)]) /\ ∀base:cR,(K w.params).In base->base.Ns cM mg->k3 l.prog w (K w.params) mg base uh k g fd [x] (yF (K w.params) 1 m)):
  PySem.W.WalkO q b XP e l.row.toRowW d [] (λf vs=>PySem.call f vs):=
 L2.Bq (n:=63) (k:=k) (x:=x) (CX:=λ_=>uh) (sp:=λw=>yF (K w.params) 1 m) hn (by decide) c hr i F (λ_ H a ns j o p=>F1 hm H a ns j o p) λ_ _ _ _ _ z=>z
structure XE (X:Cx)(e:Expr)(m:FE):Prop where
 h:ME X e m
structure XT (X:Cx)(e:Expr)(m:FT):Prop where
 h:MT X e m
structure XW (X:Cx)(e:Expr)(m:FT):Prop where
 h:MW X e m
structure XA (X:Cx)(e:List Expr)(m:FA):Prop where
 h:MA X e m
structure XS (X:Cx)(e:cT)(m:FS):Prop where
 h:MS X e m
structure vw (X:Cx)(e:List cT)(m:FS):Prop where
 h:xS X e m
structure XI (X:Cx)(tg e:Expr)(m:FI):Prop where
 h:MI X tg e m
structure XG (X:Cx)(e:Expr)(m:FG):Prop where
 h:MG X e m
structure Je (X:Cx)(e:List Expr)(m:A6):Prop where
 h:II X e m
structure XO (X:Cx)(e:Option Expr)(m:FO):Prop where
 h:MO X e m
structure XF (X:Cx)(K:Fg1)(ifs:List Expr)(t:FT):Prop where
 h:lF X ifs (ui K t)
theorem dj{X:Cx}:XF X X.K [] dI:=⟨Cr⟩
theorem iK{X:Cx}{c:Expr}{t:FT}(h:XT X c t):XF X X.K [c] t:=⟨Cq h.h⟩
theorem wE{X:Cx}{sts:List cT}{b:FS}(a c:List Bool)(h:vw X sts b):vw X sts (nM a c b):=⟨zG a c h.h⟩
section
variable{pos:Pos}
theorem qK{i:Int}{j}:XE X (.Constant (.int i) j pos) (mC (.int i)):=⟨FM⟩
theorem dy{b:Bool}{j}:XE X (.Constant (.bool b) j pos) (mC (.bl b)):=⟨HQ⟩
theorem et{j}:XE X (.Constant .none j pos) (mC .non):=⟨FK⟩
theorem dt{x:Str}{j}:XE X (.Constant (.str x) j pos) (mC (.str x)):=⟨FD⟩
end
section
variable{pos:Pos}{e:Expr}{es:List Expr}{m:FE}{n:FA}
theorem qN:XA X [] cW:=⟨FR⟩
theorem qA(h:XE X e m)(ht:XA X es n)(hs:autoParam (cN (e::es) X.env=(J,eval e X.env)::cN es X.env) cu0):XA X (e::es) (cV m n):=⟨Cz (h:=h.h) (ht:=ht.h) (hs:=hs)⟩
end
section
variable{K:Fg1}{f:FN}{a b:FE}{σ:L2.St}{H:Hp}{Q:VK}
theorem qI{op:Operator}{x y:Expr}{pos:Pos}(ho:fy X (binaryOp op) (r2 X.K f))(hx:XE X x a)(hy:XE X y b):XE X (.BinOp x op y pos) (m2 f a b):=⟨HM (ho:=ho) (hx:=hx.h) (hy:=hy.h)⟩
theorem gv{op:UnaryOp}{x:Expr}{pos:Pos}(ho:GN X (unaryOp op) (λx H Q=>rN X.K f [x] H Q))(hx:XE X x a):XE X (.UnaryOp op x pos) (m1 f a):=⟨HL (ho:=ho) (hx:=hx.h)⟩
theorem Bg{op:CmpOp}{x y:Expr}{pos:Pos}(ho:fy X (compareOp op) (r2 X.K f))(hx:XE X x a)(hy:XE X y b)(hm:behindInMarks op y=J):XE X (.Compare x [op] [y] pos) (m2 f a b):=⟨FP (ho:=ho) (hx:=hx.h) (hy:=hy.h) (hm:=hm)⟩
theorem qJ{x y:Expr}{pos:Pos}(ho:DZ X (r2 X.K f))(hx:XE X x a)(hy:XE X y b)(hs:mW y):XE X (.Subscript x y pos) (m2 f a b):=⟨HN (ho:=ho) (hx:=hx.h) (hy:=hy.h) (hs:=hs)⟩
theorem qD {x:Str}{p pos:Pos}{e:Expr}{es:List Expr}{id:String}{a:FA}(hc:eh X (.builtin id) (rN X.K f))(hg:Gl X x)(hm:X.mg x=Y)(hv:bootBuiltins x=Z (.builtin id))(ha:XA X (e::es) a)(hn:autoParam (x≠"__name__") bu0)(hdb:autoParam ((x == ("__debug__":Str))=J) bu0)(he:autoParam (cN (e::es) X.env=(J,eval e X.env)::cN es X.env) cu0)(hpl:autoParam ((backTo pos (cN es X.env)).any (·.1)=J) cu0):XE X (.Call (.Name x p) (e::es) [] pos) (mN f a):=⟨zP (hc:=hc) (hg:=hg) (hm:=hm) (hv:=hv) (ha:=ha.h) (hn:=hn) (hdb:=hdb) (he:=he) (hpl:=hpl)⟩
theorem qE {x:Str}{p pos:Pos}{e:Expr}{es:List Expr}{T:String}{a:FA}(hc:eh X (.type T) (rN X.K f))(hg:Gl X x)(hm:X.mg x=Y)(hv:bootBuiltins x=Z (.type T))(ha:XA X (e::es) a)(hn:autoParam (x≠"__name__") bu0)(hdb:autoParam ((x == ("__debug__":Str))=J) bu0)(he:autoParam (cN (e::es) X.env=(J,eval e X.env)::cN es X.env) cu0)(hpl:autoParam ((backTo pos (cN es X.env)).any (·.1)=J) cu0):XE X (.Call (.Name x p) (e::es) [] pos) (mN f a):=⟨xa (hc:=hc) (hg:=hg) (hm:=hm) (hv:=hv) (ha:=ha.h) (hn:=hn) (hdb:=hdb) (he:=he) (hpl:=hpl)⟩
end
section
variable{x y c:Expr}{rest:List Expr}{pos:Pos}{a b:FT}{f g:FE}
theorem qX{op:CmpOp}{f:FN}{a b:FE}(ho:fy X (compareOp op) (r2 X.K f))(hx:XE X x a)(hy:XE X y b)(hm:behindInMarks op y=J):XT X (.Compare x [op] [y] pos) (mB (m2 f a b)):=⟨Fk (ho:=ho) (hx:=hx.h) (hy:=hy.h) (hm:=hm)⟩
theorem iI(ha:XT X x a):XW X (.BoolOp .And [x] pos) a:=⟨Cj (ha:=ha.h)⟩
theorem fz(ha:XT X x a):XW X (.BoolOp .Or [x] pos) a:=⟨Fh (ha:=ha.h)⟩
theorem j5(ha:XT X x a)(hb:XW X (.BoolOp .And (y::rest) pos) b):XW X (.BoolOp .And (x::y::rest) pos) (nN a b):=⟨Fi (ha:=ha.h) (hb:=hb.h)⟩
theorem f0(ha:XT X x a)(hb:XW X (.BoolOp .Or (y::rest) pos) b):XW X (.BoolOp .Or (x::y::rest) pos) (ms a b):=⟨HJ (ha:=ha.h) (hb:=hb.h)⟩
theorem ge(h:XW X x a):XT X x a:=⟨JL (h:=h.h)⟩
theorem eD(ha:XT X x a):XT X (.UnaryOp .Not x pos) (fE a):=⟨Fj (ha:=ha.h)⟩
theorem gj{op}(h:XE X x f):XE X (.BoolOp op [x] pos) f:=⟨FH (h:=h.h)⟩
theorem gk(ha:XE X x f)(hb:XE X (.BoolOp .And (y::rest) pos) g):XE X (.BoolOp .And (x::y::rest) pos) (fY f g):=⟨FQ (ha:=ha.h) (hb:=hb.h)⟩
theorem pV(ha:XE X x f):XE X (.UnaryOp .Not x pos) (lZ f):=⟨FJ (ha:=ha.h)⟩
theorem iL(hc:XT X c a)(hx:XE X x f)(hy:XE X y g):XE X (.IfExp c x y pos) (zT a f g):=⟨HP (hc:=hc.h) (hx:=hx.h) (hy:=hy.h)⟩
end
section
variable{x y z:Expr}{pos:Pos}{f g:FN}{a b c:FE}{op op':CmpOp}
theorem wG(ho:fy X (compareOp op) (r2 X.K f))(ho':fy X (compareOp op') (r2 X.K g))(hx:XE X x a)(hy:XE X y b)(hz:XE X z c)(hm:autoParam (lastMarks [op,op'] [y,z]=J) zn._auto_1):XE X (.Compare x [op,op'] [y,z] pos) (FX f g a b c):=⟨zO (ho:=ho) (ho':=ho') (hx:=hx.h) (hy:=hy.h) (hz:=hz.h) (hm:=hm)⟩
end
section
variable{pos:Pos}{e c:Expr}{st:cT}{rest as bs:List cT}{a b:FS}{m:FE}{t:FT}
theorem qQ:vw X [] iC:=⟨Cm⟩
theorem qF(h1:XS X st a)(h2:vw X rest b):vw X (st::rest) (c7 a b):=⟨zI (h1:=h1.h) (h2:=h2.h)⟩
theorem qG(h1:XS X st a):vw X [st] a:=⟨Ck (h1:=h1.h)⟩
theorem pT:XS X (.Continue pos) JM:=⟨sX⟩
theorem mX(h:XE X e m)(hs:autoParam (swapsWith e Y pos.line X.env=pure J) cu0):XS X (.Expr e pos) (fw m):=⟨Cn (h:=h.h) (hs:=hs)⟩
theorem qU(h:XE X e m):XS X (.Return (Z e) pos) (dD m):=⟨Fn (h:=h.h)⟩
theorem qV(hc:XT X c t)(ha:vw X as a)(hb:vw X bs b):XS X (.If c as bs pos) (ew t a b):=⟨HK (hc:=hc.h) (ha:=ha.h) (hb:=hb.h)⟩
end
section
variable{pos:Pos}
theorem qO(i:Nat){x:Str}(hN:X.N.Nodup)(hi:X.N[i]?=Z x)(hx:uf X.env.scope x)(hf:autoParam (X.fn x=M\/X.env.scope.names.lookup x=Z .local) au0):XG X (.Name x pos) (gN i):=⟨Cv (i:=i) (hN:=hN) (hi:=hi) (hx:=hx) (hf:=hf)⟩
theorem fA:Je X [] iq:=⟨Cu⟩
theorem dm{e:Expr}{es:List Expr}{g:FG}{a:A6}(h1:XG X e g)(h2:Je X es a)(hs:autoParam ((assignEach (e::es) X.env).map (·.2)=assign e X.env::(assignEach es X.env).map (·.2)) cu0):Je X (e::es) (eH g a):=⟨zK (h1:=h1.h) (h2:=h2.h) (hs:=hs)⟩
theorem gi{es:List Expr}{k:Nat}{a:A6}{n:Nat}(hc:X.calm=M)(h:Je X es a)(hn:autoParam ((assignEach es X.env).length=n) cu0)(hst:autoParam ((assignEach es X.env).findIdx? (·.1)=Y) cu0):XG X (.Tuple es k pos) (gT n a):=⟨Fx (hc:=hc) (h:=h.h) (hn:=hn) (hst:=hst)⟩
theorem mH{o i:Expr}{a b:FE}{f:FN}(ho:XE X o a)(hi:XE X i b)(hs:vz X (rU X.K f))(ha:autoParam (∀ v,assign (.Subscript o i pos) X.env v=(do
   let ov<-holding [v] (eval o X.env)
   let iv<-holding [v,ov] (eval i X.env)
   standAt pos
   holding [v,ov,iv] (setItem ov iv v)
   release [v,ov,iv] [])) du0):XG X (.Subscript o i pos) (gS f a b):=⟨Fy (ho:=ho.h) (hi:=hi.h) (hs:=hs) (ha:=ha)⟩
theorem qR{tg e:Expr}{m:FE}{g:FG}(he:XE X e m)(hg:XG X tg g)(hs:autoParam (swapsWithSole [tg] e pos.line X.env=pure J) cu0)(hw:autoParam (swappedStores [tg] e X.env=pure Y) cu0)(h1:autoParam ((assignEach [tg] X.env).map (·.2)=[assign tg X.env]) cu0):XS X (.Assign [tg] e pos) (de m g):=⟨Fq (he:=he.h) (hg:=hg.h) (hs:=hs) (hw:=hw) (h1:=h1)⟩
theorem qY(i:Nat){x:Str}{e:Expr}{m:FE}{pos':Pos}(hN:X.N.Nodup)(hi:X.N[i]?=Z x)(hx:uf X.env.scope x)(he:XE X e m)(hs:autoParam (swapsWith e (Z (.Name x pos')) pos.line X.env=pure J) cu0)(hf:autoParam (X.fn x=M\/X.env.scope.names.lookup x=Z .local) au0):XS X (.Assign [.Name x pos'] e pos) (de m (gN i)):=⟨Fm (i:=i) (hN:=hN) (hi:=hi) (hx:=hx) (he:=he.h) (hs:=hs) (hf:=hf)⟩
theorem Bf(i:Nat){x:Str}{e:Expr}{m:FE}{op:Operator}{f:FN}{pos':Pos}(hN:X.N.Nodup)(hi:X.N[i]?=Z x)(hx:uf X.env.scope x)(he:XE X e m)(ho:Jg X op (r2 X.K f))(hf:autoParam (X.fn x=M\/X.env.scope.names.lookup x=Z .local) au0):XS X (.AugAssign (.Name x pos') op e pos) (CC i f m):=⟨Fp (i:=i) (hN:=hN) (hi:=hi) (hx:=hx) (he:=he.h) (ho:=ho) (hf:=hf)⟩
end
section
theorem k6{X:Cx}{pos:Pos}(n:Nat){c:Expr}{a:List cT}{t:FT}{b:FS}(hp:PassesOwn (model X.prog X.w) X.A X.env X.xe)(hc:XT X c t)(hb:vw X a b):XS X (.While c a [] pos) (vF t b n):=⟨zJ (n:=n) (hp:=hp) (hc:=hc.h) (hb:=hb.h)⟩
theorem qW{X:Cx}{pos:Pos}{tg iter:Expr}{a:List cT}{m:FI}{g:FG}{b:FS}(hp:PassesOwn (model X.prog X.w) X.A X.env X.xe)(hc:X.calm=M)(hi:XI X tg iter m)(hg:XG X tg g)(hb:vw X a b)(hs:autoParam (∀x,foldedSetIterable iter X.env x=pure x) du0):XS X (.For tg iter a [] pos) (eM m g b):=⟨Fo (hp:=hp) (hc:=hc) (hi:=hi.h) (hg:=hg.h) (hb:=hb.h) (hs:=hs)⟩
end
section
variable{es:List Expr}{pos:Pos}{a:FA}
theorem cX{x1}(h:XA X es a):XE X (.Tuple es x1 pos) (c3 a):=⟨FC (h:=h.h)⟩
theorem dk(h:XA X es a):XE X (.List es pos) (d8 a):=⟨FL (h:=h.h)⟩
end
section
variable{tg:Expr}
theorem qd{e:Expr}{m:FE}(h:XE X e m):XI X tg e (ej m):=⟨Fw (h:=h.h)⟩
theorem ur {a:Expr}{m:FA}{p pos:Pos}(hg:Gl X "range")(hm:X.mg "range"=Y)(ha:XA X [a] m)(hs:autoParam (cN [a] X.env=[(J,eval a X.env)]) cu0):XI X tg (.Call (.Name "range" p) [a] [] pos) (uj m):=⟨w5 (hg:=hg) (hm:=hm) (ha:=ha.h) (hs:=hs)⟩
theorem jL {a b:Expr}{m:FA}{p pos:Pos}(hg:Gl X "range")(hm:X.mg "range"=Y)(ha:XA X [a,b] m)(hs:autoParam (cN [a,b] X.env=[(J,eval a X.env),(J,eval b X.env)]) cu0)(hs2:autoParam (cN [b] X.env=[(J,eval b X.env)]) cu0):XI X tg (.Call (.Name "range" p) [a,b] [] pos) (DL m):=⟨w4 (hg:=hg) (hm:=hm) (ha:=ha.h) (hs:=hs) (hs2:=hs2)⟩
end
section
variable{tg:Expr}
variable{elts:List Expr}{k:Nat}{tpos:Pos}
theorem ya {a:Expr}{m:FA}{p pos:Pos}(hg:Gl X "enumerate")(hm:X.mg "enumerate"=Y)(ha:XA X [a] m)(hs:autoParam (cN [a] X.env=[(J,eval a X.env)]) cu0):XI X (.Tuple elts k tpos) (.Call (.Name "enumerate" p) [a] [] pos) (CS m):=⟨Ct (hg:=hg) (hm:=hm) (ha:=ha.h) (hs:=hs)⟩
theorem pU {a b:Expr}{m:FA}{p pos:Pos}(hg:Gl X "zip")(hm:X.mg "zip"=Y)(ha:XA X [a,b] m)(hs:autoParam (cN [a,b] X.env=[(J,eval a X.env),(J,eval b X.env)]) cu0)(hs2:autoParam (cN [b] X.env=[(J,eval b X.env)]) cu0):XI X (.Tuple elts k tpos) (.Call (.Name "zip" p) [a,b] [] pos) (H9 m):=⟨Fv (hg:=hg) (hm:=hm) (ha:=ha.h) (hs:=hs) (hs2:=hs2)⟩
end
section
variable{ag:List (cH×Obj)}{σ:L2.St}{H:Hp}{s:cG}{mu:List cH}{S:cZ}{K:Fg1}
theorem ut (T:Ty){e:Expr}{m:FE}{nm:Str}{p p2 pos:Pos}(hg:Gl X "isinstance")(hm:X.mg "isinstance"=Y)(hg2:Gl X nm)(hm2:X.mg nm=Y)(hv2:bootBuiltins nm=Z (.type T.nm))(h:XE X e m)(hn:autoParam (nm≠"__name__") bu0)(hd:autoParam ((nm == ("__debug__":Str))=J) bu0)(hs1:autoParam (cN [e,.Name nm p2] X.env=(J,eval e X.env)::cN [.Name nm p2] X.env) cu0)(hs2:autoParam (cN [.Name nm p2] X.env=(J,eval (.Name nm p2) X.env)::cN [] X.env) cu0)(hpl:autoParam ((backTo pos (cN [.Name nm p2] X.env)).any (·.1)=J) cu0):XE X (.Call (.Name "isinstance" p) [e,.Name nm p2] [] pos) (iY T m):=⟨w9 (T:=T) (hg:=hg) (hm:=hm) (hg2:=hg2) (hm2:=hm2) (hv2:=hv2) (h:=h.h) (hn:=hn) (hd:=hd) (hs1:=hs1) (hs2:=hs2) (hpl:=hpl)⟩
end
theorem fU:XO X Y gC:=⟨Cp⟩
theorem fT{e:Expr}{m:FE}(h:XE X e m):XO X (Z e) (gf m):=⟨Co (h:=h.h)⟩
theorem jM {a:Expr}{m:FA}{d p2 b c:Pos}(hc:X.calm=M)(hg:Gl X "range")(hm:X.mg "range"=Y)(hg2:Gl X "list")(hm2:X.mg "list"=Y)(ha:XA X [a] m)(hs:autoParam (cN [a] X.env=[(J,eval a X.env)]) cu0)(hs2:autoParam (cN [.Call (.Name "range" d) [a] [] b] X.env=[(J,eval (.Call (.Name "range" d) [a] [] b) X.env)]) cu0):XE X (.Call (.Name "list" p2) [.Call (.Name "range" d) [a] [] b] [] c) (u5 m):=⟨w8 (hc:=hc) (hg:=hg) (hm:=hm) (hg2:=hg2) (hm2:=hm2) (ha:=ha.h) (hs:=hs) (hs2:=hs2)⟩
theorem qe {o e:Expr}{es:List Expr}{m:FE}{a:FA}{f:FN}{name:Str}{apos cpos:Pos}{id:String}(slot:Slot "list" name id)(hty:typeOf (.builtin id)=pure (.type "method_descriptor"))(hm:GO X id (λx xs H Q=>rN X.K f (x::xs) H Q))(ho:XE X o m)(ha:XA X (e::es) a)(hbase:autoParam (attributeBase o name X.env (eval o X.env)=eval o X.env) cu0)(hfew:autoParam (((backTo cpos (cN (e::es) X.env)).all (λx=> !x.1)&&(backToKw cpos (keywordEach [] X.env)).all (λx=>x.1.isSome)&&decide ((e::es).length+([]:List Keyword).length+(if([]:List Keyword).isEmpty then 0 else 1)<30))=M) cu0)(hline:autoParam ((apos.endLine == cpos.line)=M) cu0)(hs:autoParam (cN (e::es) X.env=(J,eval e X.env)::cN es X.env) cu0)(hplain:autoParam ((backTo cpos (cN es X.env)).any (·.1)=J) cu0):XE X (.Call (.Attribute o name apos) (e::es) [] cpos) (u4 f m a):=⟨zN (slot:=slot) (hty:=hty) (hm:=hm) (ho:=ho.h) (ha:=ha.h) (hbase:=hbase) (hfew:=hfew) (hline:=hline) (hs:=hs) (hplain:=hplain)⟩
theorem Kk (i:Nat){x:Str}{pos:Pos}(hN:autoParam (X.N[i]?=Z x) cu0)(hv:autoParam (Vis X.env.scope x) au0)(hd:autoParam ((x == ("__debug__":Str))=J) bu0)(hcd:autoParam ((x == ("__classdict__":Str))=J) bu0):XE X (.Name x pos) (mV i):=⟨mv (i:=i) (hN:=hN) (hv:=hv) (hd:=hd) (hcd:=hcd)⟩
section
theorem qH {X:Cx}{k k' n:Nat}{x:Str}{m:FN}{p pos:Pos}{e:Expr}{es:List Expr}{a:FA}(h:d0 X.prog X.w X.K X.mg X.base k x n m)(hr:fb k' X.A)(hk:k<=k')(hg:Gl X x)(ha:XA X (e::es) a)(hdb:autoParam ((x == ("__debug__":Str))=J) bu0)(he:autoParam (cN (e::es) X.env=(J,eval e X.env)::cN es X.env) cu0)(hpl:autoParam ((backTo pos (cN es X.env)).any (·.1)=J) cu0):XE X (.Call (.Name x p) (e::es) [] pos) (mN (cY n m) a):=⟨FF (h:=h) (hr:=hr) (hk:=hk) (hg:=hg) (ha:=ha.h) (hdb:=hdb) (he:=he) (hpl:=hpl)⟩
theorem rZ {X:Cx}{x:Str}{d:D}{pos:Pos}(h:CGl X.K X.mg x d)(hg:Gl X x)(hd:autoParam ((x == ("__debug__":Str))=J) bu0):XE X (.Name x pos) (mC d):=⟨Cw (h:=h) (hg:=hg) (hd:=hd)⟩
end
structure Jf (X:Cx)(K:Fg1)(tg:Expr)(ifs:List Expr)(elt:Expr)(g:FG)(t:FT)(e:FE):Prop where
 g:XG X tg g
 t:XF X K ifs t
 e:XE X elt e
structure KC (X:Cx)(K:Fg1)(tg:Expr)(ifs:List Expr)(tg2 iter2:Expr)(ifs2:List Expr)(elt:Expr)(g:FG)(t:FT)(m2:FI)(g2:FG)(t2:FT)(e:FE):Prop where
 g:XG X tg g
 t:XF X K ifs t
 i2:XI X tg2 iter2 m2
 g2:XG X tg2 g2
 t2:XF X K ifs2 t2
 e:XE X elt e
theorem Be{P:cI}{w:cK}{K:Fg1}{mg:Str->Option cF}{base:cR}{x c:Str}{st:cT}{f:cH}{fd:cS}{N ps:List Str}{k n:Nat}{b:FS}(F:xZ K x c st f fd)(hb:jK K fd ps [])(hm:mg x=some (.ref f))(S:fS N ps (dv st))(hn:ps.length=n)(e:∀(d:cF) (A:cJ) (a:List Env) (s:cG) (H:Hp) (E:XK),fb k (A.deeper (envOfC c (dv st) s.heap.objs.size f d)) ->
   vw (mD uh P w K mg base N c (dv st) f d A a s H E).nox (eK st) b):d0 P w K mg base (k+1) x n (fG N.length b):=
 E1 F hb hm S hn λd A a s H E g=>(e d A a s H E g).h
theorem D0{P:cI}{w:cK}{K:Fg1}{mg:Str->Option cF}{base:cR}{x c:Str}{st:cT}{f:cH}{fd:cS}{N ps:List Str}{k n:Nat}{b:FS}(F:xZ K x c st f fd)(S:fS N ps (dv st))(hn:ps.length=n)(e:∀(d:cF) (A:cJ) (a:List Env) (s:cG) (H:Hp) (E:XK),fb k (A.deeper (envOfC c (dv st) s.heap.objs.size f d)) ->
   vw (mD uh P w K mg base N c (dv st) f d A a s H E).nox (eK st) b):k3 P w K mg base uh (k+1) f fd ps (yF K n (fG N.length b)):=by
 subst hn;exact Ik F S λd A a s H E g=>(e d A a s H E g).h
abbrev FV:=Ev->cZ->Option (List D×Ev×cZ)
noncomputable def en (c:List (Nat×List D))(g:FG)(t:FT)(b:FV):List D->FV
 |[]=>λr S=>if pc S c=true then some ([],r,S)else none
 |d::ds=>λr S=>if pc S c=true then(g d r S).bind λp=>(t p.1 p.2).bind λk=>if k.1=true then(b p.1 k.2).bind λq=>(en c g t b ds q.2.1 q.2.2).map λz=>(q.1++z.1,z.2)else en c g t b ds p.1 k.2 else none
noncomputable def dA (m:FE):FV:=λr S=>(m r S).map λq=>([q.1],r,q.2)
def tF(m:FI)(g:FG)(t:FT)(b:FV):FV:=λr S=>(m r S).bind λp=>en p.1.chk g t b p.1.items r p.2
noncomputable def dN (k:Nat)(keep:List Nat)(m:FI)(g:FG)(t:FT)(b:FV):FE:=λr S=>(m r S).bind λp=>
 (en p.1.chk g t b p.1.items (kK k keep r) p.2).bind λq=>if q.1.length<=cO then some (.ref q.2.2.length,q.2.2++[.lst q.1])else none
section
variable{K:Fg1}{H H' H1:Hp}{mu mu' mu1:List cH}{S:cZ}{a:cH}
theorem Ext.aside(x:Ext mu mu' H H'):Ext (a::mu) (a::mu') H H' where
 pre:=bR.mpr ⟨O,x.pre⟩
 old:=λb o h n=>x.old b o h λz=>n (mC1 _ z)
 tup:=x.tup
 frz:=x.frz
 new:=λb h=>by
  rcases aD.mp h with h|h
  ·exact .inl (by rw[h];exact mS1)
  ·rcases x.new b h with q|q
   ·exact .inl (mC1 _ q)
   ·exact .inr q
theorem Ext.inner(x:Ext (a::mu) (a::mu') H H'):pS mu mu' H H':=⟨(bR.mp x.pre).2,x.tup,x.frz⟩
theorem Ext.held{o:HO}(x:Ext mu mu' H H')(ha:H a=Z o)(hn:a∉mu):H' a=Z o/\a∉mu':=by
 refine⟨x.old a o ha hn,λz=>?_⟩;rcases x.new a z with q|q
 ·exact hn q
 ·rw[ha]at q;cases q
theorem eI.exw{r:Ev}{σ:L2.St}(e:pS mu mu' H H')(h:eI K H mu r σ):eI K H' mu' r σ:=⟨h.len,λi d q=>by
 obtain⟨v,b,a⟩:=h.val i d q;exact⟨v,b,a.exw e⟩⟩
theorem ObR.exw{b:cH}(e:pS mu mu' H H')(h:∀o,H b=Z o->H' b=Z o):∀{o:Ob},ObR K H mu b o->ObR K H' mu' b o
 | .lst _,⟨vs,q,r⟩=>⟨vs,h _ q,r.exw e⟩
 | .dct _,⟨ws,q,r⟩=>⟨ws,h _ q,Paired.mapP r λ_ _ z=>⟨z.1,z.2.exw e⟩⟩
 | .dcT _,⟨ws,q,r,l⟩=>⟨ws,h _ q,Paired.mapP r λ_ _ ⟨z,d,k,v,a,r⟩=>⟨z,d,k.exw e,v,a,r.exw e⟩,l⟩
 | .iset _,q=>⟨h _ q.1,q.2⟩
 | .dcF _,⟨ws,⟨o,u,f,c⟩,r,l⟩=>⟨ws,⟨o,u,h _ f,c⟩,Paired.mapP r λ_ _ ⟨z,d,k,v,a,r⟩=>⟨z,d,k.exw e,v,a,r.exw e⟩,l⟩
 | .tst _,⟨ws,q,r⟩=>⟨ws,h _ q,Paired.mapP r λ_ _ ⟨z,d,k,v,a,r⟩=>⟨z,d,k.exw e,v,a,r.exw e⟩⟩
theorem Sim.aside{u:HO}(s:Sim K H mu S)(e:pS mu mu H (upd H a u))(hn:a∉mu):Sim K (upd H a u) mu S:=
 ⟨s.len,s.nd,λk o b h1 h2=>(s.ob k o b h1 h2).exw e λo' q=>by rw[c5 (λz=>hn (by rw[<- z];exact gM1 h2))];exact q⟩
end
inductive Eg (K:Fg1)(a:cH)(m:FV)(E:gJ)(σ:L2.St)(H:Hp):Prop
 |mk (r:Ev) (mu:List cH) (S:cZ) (acc:List D) (vs:List V) (xs:List D) (r':Ev) (S':cZ):H a=some (.lst vs)->a∉mu->db K H mu acc vs->eI K H mu r σ->Sim K H mu S->m r S=some (xs,r',S')->vs.length+xs.length<=cO ->
 (∀ σ' H' mu' vs',Ext (a::mu) (a::mu') H H'->H' a=some (.lst vs')->a∉mu'->db K H' mu' (acc++xs) vs'->eI K H' mu' r' σ'->Sim K H' mu' S'->E.nx σ' H')->Eg K a m E σ H
theorem i6{K:Fg1}{a:cH}{m:FE}{E:gJ}{σ:L2.St}{H:Hp}(h:Eg K a (dA m) E σ H):nh a (tM K m) E σ H:=by
 obtain⟨r,mu,S,j,vs,xs,w,u,k,g,p,i,q,f,l,hc⟩:=h;obtain⟨⟨d,o⟩,n,f⟩:=oM1.mp f;cases f;refine⟨r,mu,S,d,o,i,q,n,λv H1 mu1 e s t=>?_⟩;obtain⟨c,b⟩:=e.held k g;have put:Ext (a::mu1) (a::mu1) H1 (upd H1 a (.lst (vs++[v]))):=Ext.put c trivial mS1;refine⟨vs,c,l,?_⟩;exact hc σ _ mu1 (vs++[v]) (e.aside.trans put) di b (((p.ext e).append (.cons s .nil)).exw put.inner) ((i.ext e).exw put.inner) (t.aside put.inner b)
inductive Kh (K:Fg1)(a:cH)(mu2:List cH)(H:Hp)(c:List (Nat×List D))(g:FG)(t:FT)(b:FV)(r':Ev)(S':cZ)(tot:List D)(L:List D)(σ':L2.St)(H':Hp):Prop
 |mk (r3:Ev) (mu3:List cH) (S3:cZ) (acc3:List D) (vs3:List V) (xs3:List D):Ext (a::mu2) (a::mu3) H H'->H' a=some (.lst vs3)->a∉mu3->db K H' mu3 acc3 vs3->eI K H' mu3 r3 σ'->Sim K H' mu3 S3->en c g t b L r3 S3=some (xs3,r',S')->acc3++xs3=tot->vs3.length+xs3.length<=cO->Kh K a mu2 H c g t b r' S' tot L σ' H'
theorem nO{K:Fg1}{a:cH}{j:It}{am:A5}{g:FG}{t:FT}{b:FV}{tb:TS}{D:gJ}(hb:∀ E σ H,Eg K a b E σ H->tb E σ H){mu1 e:List cH}{H1 H:Hp}{r I:Ev}{S N:cZ}{σ:L2.St}{acc xs:List Mi.D}{vs:List V}(hJ:ItR K j am mu1 H1)(x:pS mu1 e H1 H)(ha:H a=Z (.lst vs))(W:a∉e)(hr:db K H e acc vs)(he:eI K H e r σ)(hs:Sim K H e S)(hm:en am.chk g t b am.items r S=Z (xs,I,N))(hl:vs.length+xs.length<=cO)(hc:∀l H' mu' A,Ext (a::e) (a::mu') H H'->H' a=Z (.lst A)->a∉mu'->db K H' mu' (acc++xs) A->eI K H' mu' I l->Sim K H' mu' N->D.nx l H'):oQ j (xW K g) (ui K t) tb D σ H:=by
 refine⟨λi k l H'=>k=(am.items.drop i).length/\Kh K a e H am.chk g t b I N (acc++xs) (am.items.drop i) l H',
  ⟨_,O,r,e,S,acc,vs,xs,.refl _ _,ha,W,hr,he,hs,hm,O,hl⟩,?_⟩
 rintro i k R aq ⟨rfl,r3,m,S3,f,vs3,xs3,G,w,B,v,z,T,c,q,h⟩;cases hd0:am.items.drop i with
 |nil=>
  left;rw[hd0,en]at c;dsimp only at c;split at c
  ·rename_i ok;cases c;refine⟨(hJ i aq m _ (x.trans G.inner) T ok).2 (bx.mp hd0),hc R aq m vs3 G w B ?_ z T⟩;rw[<- q,aK];exact v
  ·cases c
 |cons d ds=>
  right;rw[hd0]at c;obtain⟨hi,hd⟩:=i7 hd0;rw[en]at c;dsimp only at c;split at c
  ·rename_i ok;obtain⟨⟨ao,S4⟩,e4,c⟩:=oB1.mp c;obtain⟨⟨k5,S5⟩,e5,c⟩:=oB1.mp c;obtain⟨go,yl⟩:=(hJ i aq m _ (x.trans G.inner) T ok).1 d hi;refine⟨go,Kh K a e H am.chk g t b I N (acc++xs) ds,?_,λy H4 yy=>?_⟩
   ·intro l H' h6;exact⟨ds.length,bw _,(congrArg List.length hd).symm,hd.symm ▸ h6⟩
   ·obtain⟨L,s4,q4⟩:=yl y H4 yy;obtain⟨U,hn4⟩:=L.held w B;refine⟨r3,m,S3,d,ao,S4,z.ext L,s4,q4,e4,fun σ5 H5 Q x5 p s5=>?_⟩;obtain⟨X,hn5⟩:=x5.held U hn4;refine⟨ao,Q,S4,k5,S5,p,s5,e5,λH6 n u s6=>?_⟩;obtain⟨C,s⟩:=u.held X hn5;have xx:=((G.trans L.aside).trans x5.aside).trans u.aside;have o:db K H6 n f vs3:=((v.ext L).ext x5).ext u;cases k5 with
    |true=>
     obtain⟨⟨q1,r7,S7⟩,e7,c⟩:=oB1.mp c;obtain⟨⟨z1,r8,S8⟩,e8,c⟩:=oM1.mp c;cases c;refine hb _ _ _ ⟨ao,n,S5,f,vs3,q1,r7,S7,C,s,o,p.ext u,s6,e7,?_,fun σ8 H8 au vs8 x8 ha8 P F wq s8=>⟨r7,au,S7,f++q1,vs8,z1,xx.trans x8,ha8,P,F,wq,s8,e8,?_,?_⟩⟩
     ·rw[lA1]at h;dsimp only at h;lia
     ·rw[<- q,bB]
     ·have:=F.length;have h3:=o.length;rw[lA1]at this h;dsimp only at h;lia
    |false=>exact⟨ao,n,S5,f,vs3,xs3,xx,C,s,o,p.ext u,s6,c,q,h⟩
  ·cases c
theorem sT{K:Fg1}{a:cH}{m:FI}{g:FG}{t:FT}{b:FV}{tb:TS}(hb:∀E σ H,Eg K a b E σ H->tb E σ H){E:gJ}{σ:L2.St}{H:Hp}(h:Eg K a (tF m g t b) E σ H):vL (Eh K m) (xW K g) (ui K t) tb E σ H:=by
 obtain⟨r,mu,S,q,vs,xs,A,B,x,d,u,n,o,e,y,hc⟩:=h;obtain⟨⟨am,s⟩,z,e⟩:=oB1.mp e;refine⟨r,mu,S,am,s,n,o,z,λj H1 mu1 c w p=>?_⟩;obtain⟨k,i⟩:=c.held x d;exact nO hb w (Ext.refl _ _).w k i (u.ext c) (n.ext c) p e y λl H' mu' f v=>hc l H' mu' f (c.aside.trans v)
theorem kU{K:Fg1}{k:Nat}{keep:List Nat}{m:FI}{g:FG}{t:FT}{b:FV}{tb:cH->TS}(hb:∀ a E σ H,Eg K a b E σ H->tb a E σ H){σ:L2.St}{H:Hp}{Q:VK}(h:tM K (dN k keep m g t b) σ H Q):
  vN k keep (Eh K m) (xW K g) (ui K t) tb σ H Q:=by
 obtain⟨r,mu,S,d,aq,L,au,f,hc⟩:=h;obtain⟨⟨am,R⟩,W,f⟩:=oB1.mp f;obtain⟨⟨xs,r2,ao⟩,T,f⟩:=oB1.mp f;dsimp only at f;split at f
 ·rename_i V;cases f;refine ⟨r,mu,S,am,R,L,au,W,fun j H1 mu1 G U I p i=>?_⟩;have w:Ext mu1 mu1 H1 (upd H1 p (.lst [])):=Ext.fresh i;refine nO (hb p) U w.w di (I.notin i) .nil ((Ai k keep (L.ext G)).ext w) (I.fresh i) T (by simpa using V) fun X H' mu' l v A x D P s'=>?_;have y:Ext mu1 (mu'++[p]) H1 H':=by
   refine⟨((bR.mp v.pre).2).trans (br _ _),λb o e n=>?_,λb ys e=>v.tup b ys (w.tup b ys e),λb o u e=>v.frz b o u (w.frz b o u e),λb B=>?_⟩
   ·have N:b≠p:=dJ e i;exact v.old b o (by rw [c5 N];exact e) fun z=>by
     rcases aD.mp z with z|z
     ·exact N z
     ·exact n z
   ·rcases aE.mp B with z|z
    ·rcases v.new b (mC1 _ z)with q|q
     ·rcases aD.mp q with q|q
      ·exact .inr (by rw[q];exact i)
      ·exact .inl q
     ·by_cases s:b=p
      ·exact .inr (by rw[s];exact i)
      ·rw[c5 s]at q;exact .inr q
    ·have:b=p:=by simpa using z
     exact .inr (by rw[this];exact i)
  refine hc _ H' (mu'++[p]) (G.trans y) (.ref (gb s'.len p)) ⟨by rw[lA1,lA1,s'.len];rfl,?_,λn o b h1 h2=>?_⟩
  ·rw[bu];refine⟨s'.nd,by simp,λb hb c hc e=>?_⟩;have:c=p:=by simpa using hc
   subst this;subst e;exact x hb
  ·by_cases F:n<ao.length
   ·rw[gL1 F]at h1;rw[gL1 (by rw[s'.len];exact F)]at h2;exact(s'.ob n o b h1 h2).mor [p]
   ·have C:n=ao.length:=by
     have:=(gE1.mp h1).1;rw[lA1]at this;simp at this;lia
    subst C;rw[gR1 (nR1 _)]at h1;rw[<- s'.len,gR1 (nR1 _)]at h2;simp at h1 h2;subst h1;subst h2;exact⟨l,A,(by simpa using D:db K H' mu' xs l).mor [p]⟩
 ·cases f
theorem qZ{elt tg iter:Expr}{ifs:List Expr}{scope:cU}{pos:Pos}{T:List Str}{keep:List Nat}{i:List (Str×cH)}{m:FI}{g:FG}{t:FT}{e:FE}(hc:X.calm=M)(C:Bb X scope T keep)(d:gI X.env.cells scope.names []=Z i)(hi:XI X tg iter m)(hb:∀s H b,Jf (cxC X scope i T keep s H b) X.K tg ifs elt g t e)(hs:autoParam (∀x,foldedSetIterable iter X.env x=pure x) du0):XE X (.ListComp elt [⟨tg,iter,ifs,0⟩] scope pos) (dN T.length keep m g t (dA e)):=
 ⟨d3 (qo (emit:=l7 elt) (tb:=λp=>nh p (tM X.K e)) hc (λit c f=>uC elt tg iter ifs scope pos it c f) C d hi.h (λs H b p=>⟨(hb s H b).g.h,(hb s H b).t.h,kn (hb s H b).e.h p⟩) hs)
  fun σ H Q h=>kU (λa E σ H q=>i6 q) h⟩
theorem wK{elt tg iter tg2 iter2:Expr}{ifs ifs2:List Expr}{scope:cU}{pos:Pos}{T:List Str}{keep:List Nat}{k:List (Str×cH)}{m m2:FI}{g f:FG}{t i:FT}{e:FE}(hc:X.calm=true)(C:Bb X scope T keep)(j:gI X.env.cells scope.names []=some k)(hi:XI X tg iter m)(hb:∀s H b,KC (cxC X scope k T keep s H b) X.K tg ifs tg2 iter2 ifs2 elt g t m2 f i e)(hs:autoParam (∀x,foldedSetIterable iter X.env x=pure x) du0)(hs2:∀c x,foldedSetIterable iter2 c x=pure x:=by intro _ _;rfl):
  XE X (.ListComp elt [⟨tg,iter,ifs,0⟩,⟨tg2,iter2,ifs2,0⟩] scope pos) (dN T.length keep m g t (tF m2 f i (dA e))):=
 ⟨d3 (qo (emit:=oh (.ListComp elt [⟨tg,iter,ifs,0⟩,⟨tg2,iter2,ifs2,0⟩] scope pos) iter2) (tb:=fun p=>vL (Eh X.K m2) (xW X.K f) (ui X.K i) (nh p (tM X.K e))) hc (fun it d c=>yq elt tg iter tg2 iter2 ifs ifs2 scope pos it d c) C j hi.h
   (λs H b p=>⟨(hb s H b).g.h,(hb s H b).t.h,vV (X:=cxC X scope k T keep s H b) O hc (hb s H b).i2.h (hb s H b).g2.h (hb s H b).t2.h (kn (hb s H b).e.h p) (hs2 _)⟩) hs)
  fun σ H Q h=>kU (λa E σ H q=>sT (λ_ _ _ z=>i6 z) q) h⟩
theorem hE{elt tg iter:Expr}{ifs:List Expr}{scope:cU}{pos b l:Pos}{y:Str}(i:Nat){T:List Str}{keep:List Nat}{n:List (Str×cH)}{m:FI}{g:FG}{t:FT}{e:FE}(hc:X.calm=M)(C:Bb X scope T keep)(f:gI X.env.cells scope.names []=Z n)(hi:XI X tg iter m)(hb:∀s H c,Jf (cxC X scope n T keep s H c) X.K tg ifs elt g t e)(hN:X.N.Nodup)(hy:X.N[i]?=Z y)(hx:uf X.env.scope y)(j:autoParam (swapsWith (.ListComp elt [⟨tg,iter,ifs,0⟩] scope pos) (Z (.Name y l)) b.line X.env=pure M) cu0)(hf:autoParam (X.fn y=M\/X.env.scope.names.lookup y=Z .local) au0)(hs:autoParam (∀x,foldedSetIterable iter X.env x=pure x) du0):XS X (.Assign [.Name y l] (.ListComp elt [⟨tg,iter,ifs,0⟩] scope pos) b) (de (dN T.length keep m g t (dA e)) (gN i)):=
 ⟨ga (vW (emit:=l7 elt) (tb:=λp=>nh p (tM X.K e)) hc j (λit d k=>uC elt tg iter ifs scope pos it d k) C f hi.h (λs H c p=>⟨(hb s H c).g.h,(hb s H c).t.h,kn (hb s H c).e.h p⟩) hN hy hx hf hs)
  λE σ H h=>AX (fun σ H Q q=>kU (λa E σ H q=>i6 q) q) h⟩
theorem wH{elt tg iter tg2 iter2:Expr}{ifs ifs2:List Expr}{scope:cU}{pos c r:Pos}{y:Str}(i:Nat){T:List Str}{keep:List Nat}{o:List (Str×cH)}{m m2:FI}{g j:FG}{t k:FT}{e:FE}(hc:X.calm=true)(C:Bb X scope T keep)(l:gI X.env.cells scope.names []=some o)(hi:XI X tg iter m)(hb:∀s H b,KC (cxC X scope o T keep s H b) X.K tg ifs tg2 iter2 ifs2 elt g t m2 j k e)(hN:X.N.Nodup)(hy:X.N[i]?=some y)(hx:uf X.env.scope y)(n:autoParam (swapsWith (.ListComp elt [⟨tg,iter,ifs,0⟩,⟨tg2,iter2,ifs2,0⟩] scope pos) (some (.Name y r)) c.line X.env=pure true) cu0)(hf:autoParam (X.fn y=true\/X.env.scope.names.lookup y=some .local) au0)(hs:autoParam (∀x,foldedSetIterable iter X.env x=pure x) du0)(hs2:autoParam (∀d x,foldedSetIterable iter2 d x=pure x) wK._auto_1):
  XS X (.Assign [.Name y r] (.ListComp elt [⟨tg,iter,ifs,0⟩,⟨tg2,iter2,ifs2,0⟩] scope pos) c) (de (dN T.length keep m g t (tF m2 j k (dA e))) (gN i)):=
 ⟨ga (vW (emit:=oh (.ListComp elt [⟨tg,iter,ifs,0⟩,⟨tg2,iter2,ifs2,0⟩] scope pos) iter2) (tb:=fun p=>vL (Eh X.K m2) (xW X.K j) (ui X.K k) (nh p (tM X.K e))) hc n (fun it f d=>yq elt tg iter tg2 iter2 ifs ifs2 scope pos it f d) C l hi.h
   (λs H b p=>⟨(hb s H b).g.h,(hb s H b).t.h,vV (X:=cxC X scope o T keep s H b) O hc (hb s H b).i2.h (hb s H b).g2.h (hb s H b).t2.h (kn (hb s H b).e.h p) (hs2 _)⟩) hN hy hx hf hs)
  λE σ H h=>AX (fun σ H Q q=>kU (λa E σ H q=>sT (λ_ _ _ z=>i6 z) q) q) h⟩
noncomputable def xh:D->Option Key
 | .int i=>Z (.inl i)
 | .str x=>Z (.inr x)
 |_=>Y
noncomputable def dH{κ:Type}[DecidableEq κ](kvs:List (κ×D))(k:κ):Option D:=(kvs.find? λp=>decide (p.1=k)).map (·.2)
noncomputable def gz{κ:Type}[DecidableEq κ](kvs:List (κ×D))(k:κ)(d:D):List (κ×D):=
 if(kvs.any λp=>decide (p.1=k))=M then kvs.map (λp=>if p.1=k then(p.1,d)else p)else kvs++[(k,d)]
section
variable{K:Fg1}{H:Hp}{mu:List cH}
theorem kI{d:D}{v:V}{k:Key}(r:d9 K H mu d v)(h:xh d=Z k):v=kV k:=by
 cases r with
 |int i=>cases h;rfl
 |str x=>cases h;rfl
 |_=>cases h
end
section
variable{κ:Type} [DecidableEq κ] {K:Fg1}{H:Hp}{mu:List cH}
theorem KR.length:∀{ks:List (κ×D)} {ws:List (κ×V)},KR K H mu ks ws->ks.length=ws.length:=λh=>Paired.length h
theorem KR.look{k:κ}:∀ {ks:List (κ×D)} {ws:List (κ×V)},KR K H mu ks ws ->
  (∀d,dH ks k=Z d -> ∃v,ib ws k=Z v/\d9 K H mu d v)/\(dH ks k=Y->ib ws k=Y):=by
 intro ks ws h
 induction h with
 |nil=>exact⟨λd h=>by simp[dH]at h,λ_=>rfl⟩
 | @cons p q ks ws r t ih=>
  obtain⟨b,c⟩:=p;obtain⟨j,f⟩:=q;obtain⟨e,r⟩:=r;dsimp only at e r;subst e;obtain⟨h1,h2⟩:=ih;by_cases a:b=k
  ·subst a;refine⟨λd h=>?_,λh=>?_⟩
   ·have:c=d:=by simpa[dH]using h
    subst this;exact⟨f,by simp[ib],r⟩
   ·simp[dH]at h
  ·have g:dH ((b,c)::ks) k=dH ks k:=by simp[dH,aW,a]
   have i:ib ((b,f)::ws) k=ib ws k:=by simp[ib,aW,a]
   rw[g,i];exact⟨h1,h2⟩
theorem KR.any{k:κ}:∀{ks:List (κ×D)} {ws:List (κ×V)},KR K H mu ks ws->(ks.any λp=>decide (p.1=k))=ws.any λp=>decide (p.1=k):=by
 intro ks ws h
 induction h with
 |nil=>rfl
 |cons r t ih=>rw[aX,aX,ih,r.1]
theorem KR.repl{k:κ}{d:D}{v:V}(q:d9 K H mu d v):∀ {ks:List (κ×D)} {ws:List (κ×V)},KR K H mu ks ws ->
  KR K H mu (ks.map λp=>if p.1=k then(p.1,d)else p) (ws.map λp=>if p.1=k then(p.1,v)else p):=by
 intro ks ws h
 induction h with
 |nil=>exact .nil
 | @cons a b ks ws r t ih=>
  refine .cons ?_ ih;obtain⟨e,r⟩:=r;dsimp only;by_cases h:a.1=k
  ·rw[ak h,ak (e ▸ h)];exact⟨e,q⟩
  ·rw[aj h,aj (e ▸ h)];exact⟨e,r⟩
theorem KR.snoc{k:κ}{d:D}{v:V}(q:d9 K H mu d v):∀{ks:List (κ×D)} {ws:List (κ×V)},KR K H mu ks ws->KR K H mu (ks++[(k,d)]) (ws++[(k,v)]):=by
 intro ks ws h
 induction h with
 |nil=>exact .cons ⟨O,q⟩ .nil
 |cons r t ih=>exact .cons r ih
theorem KR.put{k:κ}{d:D}{v:V}(q:d9 K H mu d v){ks:List (κ×D)}{ws:List (κ×V)}(h:KR K H mu ks ws):KR K H mu (gz ks k d) (hW ws k v):=by
 unfold gz hW;rw[h.any];split
 ·exact h.repl q
 ·exact h.snoc q
end
def Ao:G2:=λd e S=>match e with
 | .ref n=>match S[n]? with
  |some (.dct kvs)=>(xh d).map λk=>(.bl (dH kvs k).isSome,S)
  |_=>I7 d e S
 |_=>I7 d e S
def kO:G2:=λd e S=>match e with
 | .ref n=>match S[n]? with
  |some (.dct kvs)=>(xh d).map λk=>(.bl (!(dH kvs k).isSome),S)
  |_=>ro d e S
 |_=>ro d e S
def nW:G2:=λd e S=>match d with
 | .ref n=>match S[n]? with
  |some (.dct kvs)=>(xh e).bind λk=>(dH kvs k).map λx=>(x,S)
  |_=>A8 d e S
 |_=>A8 d e S
def l5:G3:=λo i v S=>match o with
 | .ref n=>match S[n]? with
  |some (.dct kvs)=>(xh i).bind λk=>if kvs.length<cO then Z (.non,S.set n (.dct (gz kvs k v)))else Y
  |_=>jV o i v S
 |_=>jV o i v S
theorem nP{K:Fg1}{H:Hp}{mu:List cH}{S:cZ}(hs:Sim K H mu S){n:Nat}{a:cH}{kvs:List (Key×D)}{k:Key}{y:V}(hn:mu[n]? = some a)(he:S[n]? = some (.dct kvs))(hy:y=kV k):
  ∃o:Option V,oP H a y o/\(∀d,dH kvs k=Z d -> ∃v,o=Z v/\d9 K H mu d v)/\(dH kvs k=Y->o=Y)/\o.isSome=(dH kvs k).isSome:=by
 obtain⟨ws,b,c⟩:=hs.dct he hn;subst hy;obtain⟨h1,h2⟩:=c.look (k:=k);refine⟨ib ws k,oP.k b,h1,h2,?_⟩;cases e:dH kvs k with
 |none=>rw[h2 e];rfl
 |some d=>obtain⟨v,f,_⟩:=h1 d e;rw[f];rfl
theorem HH(m:X.A.units+64<cLine):fy X (compareOp .In) (r2 X.K (b2 Ao)):=by
 intro ag s σ H x y u w Q I j i h;obtain⟨mu,S,d,e,r,f,l,b,c,a,hc⟩:=oX h;have back:I7 d e S=Z (r,f)->cP (model X.prog X.w) X.A (compareOp .In u w) (EP X ag σ Q) X.xe s:=λa=>JJ m ag s σ H x y u w Q I j i ⟨mu,S,[d,e],r,f,.cons l (.cons b .nil),c,a,hc⟩;unfold Ao at a;split at a
 ·rename_i n;split at a
  ·rename_i kvs p;obtain⟨k,v,a⟩:=oM1.mp a;cases a;cases b with
   |ref t=>
    cases i;obtain⟨o,g,_,_,hi⟩:=nP c t p (kI l v);exact JZ (by lia) I g j λs' q=>⟨.bl o.isSome,H,q,O,by rw[hi];exact hc.now (.bl _) c⟩
  ·exact back a
 ·exact back a
theorem zy(m:X.A.units+64<cLine):fy X (compareOp .NotIn) (r2 X.K (b2 kO)):=by
 intro ag s σ H x y u w Q I j i h;obtain⟨mu,S,d,e,r,f,l,b,c,a,hc⟩:=oX h;have back:ro d e S=Z (r,f)->cP (model X.prog X.w) X.A (compareOp .NotIn u w) (EP X ag σ Q) X.xe s:=λa=>Ce m ag s σ H x y u w Q I j i ⟨mu,S,[d,e],r,f,.cons l (.cons b .nil),c,a,hc⟩;unfold kO at a;split at a
 ·rename_i n;split at a
  ·rename_i kvs p;obtain⟨k,v,a⟩:=oM1.mp a;cases a;cases b with
   |ref t=>
    cases i;obtain⟨o,g,_,_,hi⟩:=nP c t p (kI l v);exact C6 (by lia) I g j λs' q=>⟨.bl (!o.isSome),H,q,O,by rw[hi];exact hc.now (.bl _) c⟩
  ·exact back a
 ·exact back a
theorem GP(P:X.A.units+64<cLine):DZ X (r2 X.K (b2 nW)):=by
 intro value b ag s σ H x y v u Q I B w h m;obtain⟨mu,S,d,e,r,C,A,j,p,c,hc⟩:=oX h;have back:A8 d e S=Z (r,C)->cP (model X.prog X.w) X.A (subscriptTail value b v u) (EP X ag σ Q) X.xe s:=λc=>Ji value b ag s σ H x y v u Q I B w ⟨mu,S,[d,e],r,C,.cons A (.cons j .nil),p,c,hc⟩ m;unfold nW at c;split at c
 ·rename_i n;split at c
  ·rename_i kvs L;obtain⟨k,D,c⟩:=oB1.mp c;obtain⟨z,N,c⟩:=oM1.mp c;cases c;cases A with
   | @ref _ a F=>
    cases B;obtain⟨o,g,h1,_,_⟩:=nP p F L (kI j D);obtain⟨ao,am,K⟩:=h1 _ N;subst am;have t:=tN I g;unfold subscriptTail;refine wB1 ?_;rw[getitemInPython_of_ne t.not_modules];refine wB1 (wpAny_specialOf t PySem.F.slot_dict_getitem.lookup ?_);have i:cP (model X.prog X.w) X.A (subscripted b J (.ref a) u) (λr f=>cP (model X.prog X.w) X.A (letTemporaryGo value (.ref a) r >>= λ_=>pure r) (EP X ag σ Q) X.xe f) X.xe s:=by
     rw[m];exact wpAny_operating (wpAny_mono (xA (by lia) I g w λG E au q=>(⟨ao,H,au,q,hc.now K p⟩:EP X ag σ Q G E)) (λr f l=>wB1 (wpAny_letTemporaryGo (wP1 l))) λ_ _ x=>x)
    first
     |exact wP1 (wB1 i)
     |exact wB1 i
     |exact i
  ·exact back c
 ·exact back c
theorem Em(L:X.A.units+64<cLine):vz X (rU X.K (b3 l5)):=by
 intro ag s σ H o i v q y u Q I w r t h;obtain⟨mu,S,ds,d,x,E,b,a,hc⟩:=id h;cases E with
 |cons j G=>cases G with
  |cons l C=>cases C with
   |cons p B=>
    cases B;rename_i f m z;dsimp only[b3]at a;have back:jV f m z S=Z (d,x)->cP (model X.prog X.w) X.A (setItem q y u) (λ_ s'=>∃H',Inv X ag σ H' s'/\Q H') X.xe s:=λa=>Hh ag s σ H o i v q y u Q I w r t ⟨mu,S,[f,m,z],d,x,.cons j (.cons l (.cons p .nil)),b,a,hc⟩;unfold l5 at a;split at a
    ·rename_i n;split at a
     ·rename_i kvs D;obtain⟨k,A,a⟩:=oB1.mp a;split at a
      ·rename_i am;cases a;cases j with
       |ref c=>
        cases w;obtain⟨ws,e,g⟩:=b.dct D c;have K:=kI l A;subst K;refine xz (by lia) I (xV.k e (by rw[<- g.length];exact am)) r t λs' F=>⟨_,F,?_⟩;have put:Ext mu mu H (upd H _ (.dK (hW ws k v))):=Ext.put e trivial (gM1 c);exact hc _ mu put (b.put c e trivial ⟨_,di,(g.put p).ext put⟩)
      ·cases a
     ·exact back a
    ·exact back a
def Ih:G2:=λd e S=>match e with
 | .non=>Z (.bl (pv d),S)
 | .bl b=>match d with
  | .bl c=>Z (.bl (c == b),S)
  |_=>Y
 |_=>Y
def fh:G2:=λd e S=>match e with
 | .non=>Z (.bl (!pv d),S)
 | .bl b=>match d with
  | .bl c=>Z (.bl (!(c == b)),S)
  |_=>Y
 |_=>Y
theorem HF:fy X (compareOp .Is) (r2 X.K (b2 Ih)):=by
 intro ag s σ H x y u w Q I j i h;obtain⟨mu,S,d,e,r,l,k,a,g,f,hc⟩:=oX h;cases e with
 |non=>exact HG ag s σ H x y u w Q I j i ⟨mu,S,[d,.non],r,l,.cons k (.cons a .nil),g,f,hc⟩
 |bl b=>
  cases d with
  |bl c=>
   cases f;cases k;cases a;cases j;cases i;exact is_bool ⟨.bl (c == b),H,I,O,hc.now (.bl _) g⟩
  |_=>cases f
 |_=>cases f
theorem gB:fy X (compareOp .IsNot) (r2 X.K (b2 fh)):=by
 intro ag s σ H x y u w Q I j i h;obtain⟨mu,S,d,e,r,l,k,a,g,f,hc⟩:=oX h;cases e with
 |non=>exact Fe ag s σ H x y u w Q I j i ⟨mu,S,[d,.non],r,l,.cons k (.cons a .nil),g,f,hc⟩
 |bl b=>
  cases d with
  |bl c=>
   cases f;cases k;cases a;cases j;cases i;exact isnot_bool ⟨.bl (!(c == b)),H,I,O,hc.now (.bl _) g⟩
  |_=>cases f
 |_=>cases f
noncomputable def pj:FE:=λ_ S=>Z (.ref S.length,S++[.dct []])
theorem mY{pos:Pos}:XE X (.Dict [] [] pos) pj:=⟨d3 zl <| by
 rintro σ H Q ⟨r,mu,S,d,f,e,b,c,hc⟩ p a;cases c;exact hc _ _ (mu++[p]) (Ext.new_ a) (.ref (gb b.len p)) (b.new a ⟨[],di,.nil⟩)⟩
noncomputable def FU:List (FE×FE)->Ev->cZ->Option (List (D×D)×cZ)
 |[],_,S=>Z ([],S)
 |(a,b)::l,r,S=>(a r S).bind λp=>(b r p.2).bind λq=>(FU l r q.2).map λt=>((p.1,q.1)::t.1,t.2)
def Ac:List (D×D)->Option (List (Key×D))
 |[]=>Z []
 |(k,d)::l=>(xh k).bind λk=>(Ac l).map λt=>(k,d)::t
def zU(l:List (FE×FE)):FE:=λr S=>(FU l r S).bind λp=>(Ac p.1).bind λkvs=>if kvs.length<=15 then Z (.ref p.2.length,p.2++[.dct (kvs.foldl (λacc kv=>gz acc kv.1 kv.2) [])])else Y
structure XP (X:Cx)(pos:Pos)(ks:List (Option Expr))(vs:List Expr)(l:List (FE×FE)):Prop where
 h:IG X pos ks vs (l.map λp=>(tM X.K p.1,tM X.K p.2))
theorem vC{pos:Pos}:XP X pos [] [] []:=⟨BU⟩
theorem iJ{pos:Pos}{k v:Expr}{ks:List (Option Expr)}{vs:List Expr}{a b:FE}{l:List (FE×FE)}(hk:XE X k a)(hv:XE X v b)(t:XP X pos ks vs l):XP X pos (Z k::ks) (v::vs) ((a,b)::l):=⟨za hk.h hv.h t.h⟩
theorem y3{K:Fg1}{σ:L2.St}:∀ {l:List (FE×FE)} {r:Ev} {mu:List cH} {H:Hp} {S e:cZ} {ps:List (D×D)} {Q:List (V×V)->Hp->Prop},eI K H mu r σ->Sim K H mu S->FU l r S=some (ps,e) ->
  (∀vs H' mu',Ext mu mu' H H'->Paired (λ(p:D×D) (q:V×V)=>d9 K H' mu' p.1 q.1/\d9 K H' mu' p.2 q.2) ps vs->Sim K H' mu' e->Q vs H')->p9 (l.map λp=>(tM K p.1,tM K p.2)) σ H Q
 |[],r,mu,H,S,e,ps,Q,he,hs,c,hc=>by cases c;exact hc [] H mu (.refl _ _) .nil hs
 |(a,b)::l,r,mu,H,S,e,ps,Q,he,hs,c,hc=>by
  obtain⟨⟨d,i⟩,x,c⟩:=oB1.mp c;obtain⟨⟨o,m⟩,n,c⟩:=oB1.mp c;obtain⟨⟨t,B⟩,z,c⟩:=oM1.mp c;cases c;refine⟨r,mu,S,d,i,he,hs,x,λv H1 mu1 g j k=>⟨r,mu1,i,o,m,he.ext g,k,n,λC H2 y x2 r2 A=>?_⟩⟩;refine y3 ((he.ext g).ext x2) A z λvs w h f u s=>hc _ w h ((g.trans x2).trans f) (.cons ⟨(j.ext x2).ext f,r2.ext f⟩ u) s
theorem Ab{K:Fg1}{H:Hp}{mu:List cH}:∀ {ps:List (D×D)} {vs:List (V×V)} {kvs:List (Key×D)},Paired (fun (p:D×D) (q:V×V)=>d9 K H mu p.1 q.1/\d9 K H mu p.2 q.2) ps vs->Ac ps=some kvs ->
  ∃ws:List (Key×V),vs=ws.map (λc=>(kV c.1,c.2))/\KR K H mu kvs ws:=by
 intro ps vs kvs g h
 induction g generalizing kvs with
 |nil=>cases h;exact⟨[],O,.nil⟩
 | @cons a b ps vs q t ih=>
  obtain⟨k,d⟩:=a;obtain⟨m,f⟩:=b;obtain⟨i,j,h⟩:=oB1.mp h;obtain⟨rest,l,h⟩:=oM1.mp h;cases h;obtain⟨ws,e,r⟩:=ih l;have:=kI q.1 j;dsimp only at this;subst this;exact⟨(i,f)::ws,by rw[mP1,<- e],.cons ⟨O,q.2⟩ r⟩
theorem zL{K:Fg1}{H:Hp}{mu:List cH}:∀{kvs:List (Key×D)} {ws:List (Key×V)} {acc:List (Key×D)} {acw:List (Key×V)},KR K H mu kvs ws->KR K H mu acc acw->KR K H mu (kvs.foldl (λacc c=>gz acc c.1 c.2) acc) (il acw ws):=by
 intro kvs ws acc acw f h
 induction f generalizing acc acw with
 |nil=>exact h
 | @cons a b kvs ws r t ih=>
  obtain⟨k,d⟩:=a;obtain⟨g,v⟩:=b;obtain⟨e,r⟩:=r;dsimp only at e r;subst e;show KR K H mu (kvs.foldl _ (gz acc k d)) (il (hW acw k v) ws);exact ih (h.put r)
theorem r6{pos:Pos}{ks:List (Option Expr)}{vs:List Expr}{l:List (FE×FE)}(h:XP X pos ks vs l)(v:autoParam (ks.all (·.isSome)=M) cu0)(au:autoParam (ks.length=vs.length) cu0)(ao:ks≠[]:=by(intro z;cases z))(x:autoParam (ks.length<=15) bu0):XE X (.Dict ks vs pos) (zU l):=
 ⟨d3 (B3 h.h v au ao x) <| by
  rintro σ H Q ⟨r,mu,S,d,T,K,E,f,hc⟩ p g;obtain⟨⟨ps,F⟩,P,f⟩:=oB1.mp f;obtain⟨kvs,L,f⟩:=oB1.mp f;dsimp only at f;split at f
  ·rename_i t;cases f;have w:Ext mu mu H (upd H p (.dK [])):=Ext.fresh g;refine y3 (K.ext w) (E.fresh g) P fun vs H1 mu1 i am j=>?_;obtain ⟨k,m⟩:=i.held (a:=p) (o:=.dK []) di (E.notin g);obtain ⟨ws,I,rk⟩:=Ab am L;refine ⟨k,ws,I,by rw [<- rk.length];exact t,?_⟩;have put:Ext (p::mu1) (p::mu1) H1 (upd H1 p (.dK (il [] ws))):=Ext.put k trivial mS1;have R:=j.aside put.inner m;have y:Ext mu (mu1++[p]) H (upd H1 p (.dK (il [] ws))):=by
    refine⟨i.pre.trans (br _ _),λb o e n=>?_,λb ys e=>put.tup b ys (i.tup b ys (w.tup b ys e)),λb o u e=>put.frz b o u (i.frz b o u (w.frz b o u e)),λb A=>?_⟩
    ·have G:b≠p:=dJ e g;rw[c5 G];exact i.old b o (by rw[c5 G];exact e) n
    ·rcases aE.mp A with z|z
     ·rcases i.new b z with q|q
      ·exact .inl q
      ·by_cases s:b=p
       ·exact .inr (by rw[s];exact g)
       ·rw[c5 s]at q;exact .inr q
     ·have:b=p:=by simpa using z
      exact .inr (by rw[this];exact g)
   have B:=zL rk (acc:=[]) (acw:=[]) .nil;refine hc _ _ (mu1++[p]) y (.ref (gb j.len p)) ⟨by rw[lA1,lA1,j.len];rfl,?_,λn o b h1 h2=>?_⟩
   ·rw[bu];refine⟨j.nd,by simp,λb N c hc e=>?_⟩;have:c=p:=by simpa using hc
    subst this;subst e;exact m N
   ·by_cases D:n<F.length
    ·rw[gL1 D]at h1;rw[gL1 (by rw[j.len];exact D)]at h2;exact(R.ob n o b h1 h2).mor [p]
    ·have C:n=F.length:=by
      have:=(gE1.mp h1).1;rw[lA1]at this;simp at this;lia
     subst C;rw[gR1 (nR1 _)]at h1;rw[<- j.len,gR1 (nR1 _)]at h2;simp at h1 h2;subst h1;subst h2;exact⟨_,di,KR.mor [p] (Paired.mapP B λ_ _ z=>⟨z.1,z.2.exw put.inner⟩)⟩
  ·cases f⟩
section
variable{K:Fg1}{H H':Hp}{mu mu':List cH}{S:cZ}
end
theorem j6{X:Cx}(i j:Nat){x y:Str}{a b:Expr}{m:FA}{k l pt pos:Pos}{kt k2 pt2}(hc:X.calm=true)(hN:X.N.Nodup)(hi:X.N[i]? = some x)(q:X.N[j]? = some y)(n:i≠j)(hx:X.env.scope.names.lookup x=some .local)(hy:X.env.scope.names.lookup y=some .local)(ha:XA X [a,b] m)(hw:autoParam (swappedStores [.Tuple [.Name x k,.Name y l] kt pt] (.Tuple [a,b] k2 pt2) X.env=pure (some [x,y])) cu0)(hs:autoParam (swapsWithSole [.Tuple [.Name x k,.Name y l] kt pt] (.Tuple [a,b] k2 pt2) pos.line X.env=pure false) cu0):
  XS X (.Assign [.Tuple [.Name x k,.Name y l] kt pt] (.Tuple [a,b] k2 pt2) pos) (de (c3 m) (gT 2 (eH (gN i) (eH (gN j) iq)))):=
 ⟨ga (EF hc hN hi q n hx hy ha.h hw hs) <| by
  rintro E σ H ⟨r,mu,S,f,B,C,p,hs,h,hc⟩;obtain⟨⟨d,z⟩,e,h⟩:=oB1.mp h;obtain⟨⟨r2,w⟩,c,h⟩:=oB1.mp h;cases h;obtain⟨⟨ds,A⟩,v,e⟩:=oB1.mp e;dsimp only at e;split at e
  ·cases e;refine⟨r,mu,S,ds,_,p,hs,v,λvs H1 mu1 o g u=>?_⟩;dsimp only at c;rw[gT]at c;split at c
   ·cases g with
    |nil=>cases c
    |cons s g=>cases g with
     |nil=>cases c
     |cons t g=>cases g with
      |nil=>
       cases c;exact⟨_,_,O,hc _ H1 mu1 o (((p.ext o).set s).set t) u⟩
      |cons _ _=>cases c
   ·cases c
  ·cases e⟩
noncomputable def Ap:G2:=λd e S=>match d,e with
 | .int i,.int j=>Z (.int (i+j),S)
 |_,_=>Y
theorem CO{X:Cx}:Jg X .Add (r2 X.K (b2 Ap)):=by
 intro ag s σ H x y v u Q I g f h;obtain⟨mu,S,d,e,r,l,k,b,c,a,hc⟩:=oX h;unfold Ap at a;split at a
 ·rename_i i j;cases a;cases k;cases b;exact CP ag s σ H _ _ v u Q I g f ⟨i,j,O,O,hc.now (.int _) c⟩
 ·cases a
theorem rY {X:Cx}{k k':Nat}{x:Str}{m:FN}{p pos:Pos}(h:d0 X.prog X.w X.K X.mg X.base k x 0 m)(hr:fb k' X.A)(hk:k<=k')(hg:Gl X x)(hdb:autoParam ((x == ("__debug__":Str))=J) bu0):XE X (.Call (.Name x p) [] [] pos) (mN (cY 0 m) cW):=by
 obtain⟨f,fd,ps,F,b,e,o⟩:=h;refine⟨d3 (zo (E:=E0) F (hr.mono hk) hg o e b .nil DC hdb) fun σ H Q h=>?_⟩;obtain⟨r,mu,S,ds,u,t,n,i,hc⟩:=v9 h;cases i;have q:=hc [] H mu (.refl _ _) .nil n;show yF X.K 0 m ([]++[]) H Q E0;obtain⟨d,g,c,j,l,h1,h2,a,s⟩:=q;unfold cY at a;split at a
 ·rename_i v;exact⟨O,tU ⟨d,g,c,j,l,h1,h2,a,s⟩⟩
 ·cases a
end Mi
namespace HT
open PySem PySem.Spec PyProof.Rows
variable{prog:cI}{w:cK}{A:cJ}{E:cF->cG->Prop}{s:cG}
theorem ju{t sl:cH}{items:Array cF}{f e:cF}{lo hi:Option Int}{Q:cF->cG->Prop}(ht:IsTup s.heap t items)(hs:s.heap.IsSliceOf sl f e .none)(pl:IsPart f lo)(g:IsPart e hi)(hw:sIx items.size 0 lo=0/\sIx items.size items.size hi=items.size)(h:Q (.ref t) s):cP (model prog w) A (getItem (.ref t) (.ref sl)) Q E s:=by
 obtain⟨i,c,d,j⟩:=id hs;have b:s.TypeIs (.ref sl) "slice":=⟨i,c,d⟩;unfold getItem
 try with_reducible refine wpAny_holding ?_
 first|refine wB1 (wP1 ?_)|skip
 refine wB1 (wpAny_sequenceKey ht.typeIs (by decide) ?_);refine wB1 (wpAny_callSpecial?_slot (name:=Str.ofString "__getitem__") ht.typeIs PyProof.Rows.slot_tuple_getitem
  (wE1 PyProof.Rows.slot_tuple_getitem ht.typeIs entry_tuple_getitem ?_ (args_tuple_getitem _ _)))
 show cP _ _ (Builtin.Tuple.tupleItemsOf (.ref t) >>= _) _ _ s;refine wB1 (tupleItemsOf_ ht ?_);refine wB1 (wpAny_typeOf b ?_);rw[ak (by decide)];refine wB1 (hL hs pl g ?_);have a:((((sIx items.size 0 lo:Nat):Int) == 0&&(1:Int) == 1&&(sIx items.size items.size hi-sIx items.size 0 lo) == items.size)=M):=by
  rw[hw.1,hw.2];simp
 show cP _ _ (if(((sIx items.size 0 lo:Nat):Int) == 0&&(1:Int) == 1&&(sIx items.size items.size hi-sIx items.size 0 lo) == items.size)=M then _ else _) _ _ s;rw[ak a];refine wB1 ?_;unfold Builtin.Tuple.tupleIsExact;refine wB1 (wpAny_typeOf ht.typeIs (wP1 ?_));rw[ak (by decide)]
 first
  |exact wB1 (wpAny_rule (wP1 ⟨_,rfl,wP1 h⟩))
  |exact wB1 (wpAny_rule (wB1 (wP1 ⟨_,rfl,wP1 h⟩)))
end HT
namespace Mi
open PySem PySem.Spec PyProof.Rows L2
def JC(K:Fg1):V->Option Int->Option Int->Hp->VK->Prop:=λx lo hi H Q=>∃a xs,x = .ref a/\jv K H a xs/\(HT.sIx xs.length 0 lo=0/\HT.sIx xs.length xs.length hi=xs.length)/\Q (.ref a) H
variable{X:Cx}
theorem By:Ba X (JC X.K):=by
 intro ag s σ H x v n l lo hi k Q I j f pl e h;obtain⟨a,xs,rfl,g,i,q⟩:=h;cases j;obtain⟨c,r,d,m⟩:=I.tuple g;have b:c.toArray.size=xs.length:=by rw[sT1];exact r.length.symm
 refine⟨"tuple",_,PyProof.Rows.slot_tuple_getitem.lookup,d.typeIs,?_⟩;exact HT.ju d f pl e (by rw[b];exact i) ⟨.ref a,H,I,O,q⟩
def yJ(S:cZ)(d:D)(lo hi:Option Int):Option (D×cZ):=(dw S d).map λp=>if p.1=M then(.ref S.length,S++[.lst (Mi.ol p.2 lo hi)])else(.tup (Mi.ol p.2 lo hi),S)
def kF(m:FE)(lo hi:FO):FE:=λr S=>(m r S).bind λp=>(lo r p.2).bind λa=>(hi r a.2).bind λb=>yJ b.2 p.1 a.1 b.1
theorem xB{xs:List D}{lo hi:Option Int}(h:HT.sIx xs.length 0 lo=0/\HT.sIx xs.length xs.length hi=xs.length):Mi.ol xs lo hi=xs:=by
 unfold Mi.ol;rw[h.1,h.2,List.drop_zero,Nat.sub_zero,bS]
theorem eP{e:Expr}{lo hi:Option Expr}{m:FE}{a b:FO}{pos p2:Pos}(h:XE X e m)(K:XO X lo a)(G:XO X hi b):XE X (.Subscript e (.Slice lo hi Y p2) pos) (kF m a b):=
 ⟨d3 (zj (Ba.or By (Ba.or Ek Bz)) h.h K.h G.h) <| by
  rintro σ H Q ⟨r,mu,S,d,P,s,D,f,hc⟩;obtain⟨⟨B,A⟩,L,f⟩:=oB1.mp f;obtain⟨⟨l,z⟩,I,f⟩:=oB1.mp f;obtain⟨⟨n,am⟩,ao,f⟩:=oB1.mp f;refine⟨r,mu,S,B,A,s,D,L,λv H1 mu1 o E F=>?_⟩;refine⟨r,mu1,A,l,z,s.ext o,F,I,λH2 u x2 N=>?_⟩;refine⟨r,u,z,n,am,(s.ext o).ext x2,N,ao,λau g y j=>?_⟩;obtain⟨⟨k,xs⟩,C,f⟩:=oM1.mp f;have w:=(o.trans x2).trans y;obtain⟨c,vs,rfl,q,t⟩:=dh ((E.ext x2).ext y) j C;cases k with
  |true=>
   cases f;right;right;exact⟨c,vs,O,q,λp i=>hc _ _ (g++[p]) (w.trans (Ext.new_ i)) (.ref (gb j.len p)) (j.newL (wr t l n) i)⟩
  |false=>
   simp only[bF1,if_false]at f;cases f;by_cases x:HT.sIx xs.length 0 l=0/\HT.sIx xs.length xs.length n=xs.length
   ·left;rw[xB x]at hc;exact⟨c,vs,O,q,by rw[<- t.length];exact x,hc _ _ g w (.tup q t) j⟩
   ·right;left;exact⟨c,vs,O,q,by rw[<- t.length];exact x,λp i=>hc _ _ g (w.trans (Ext.fresh i)) (.tup (jv.of di) ((wr t l n).ext (Ext.fresh i))) (j.fresh i)⟩⟩
mutual
inductive fZ (h:cR):TK->cF->Prop
 |non:fZ h .non .none
 |int (i t):fZ h (.int i) (.int i t)
 |tup {a o items n xs}:h.get? a=some o->o.cls = .type "tuple"->o.data = .seq items n->gH h xs items.toList->fZ h (.tup xs) (.ref a)
inductive gH (h:cR):List TK->List cF->Prop
 |nil:gH h [] []
 |cons {k v ks vs}:fZ h k v->gH h ks vs->gH h (k::ks) (v::vs)
end
section
variable{prog:cI}{w:cK}{A:cJ}{E:cF->cG->Prop}{s:cG}
theorem sC{Q:Int->cG->Prop}(h:Q 0xFCA86420 {s with toks:=s.toks+1}):cP (model prog w) A (pyHash .none) Q E s:=by
 have a:s.TypeIs .none "NoneType":=rfl;unfold pyHash
 first|unfold pyHashByItsType|skip
 have b:[Value.none].any Value.onHeap=J:=rfl;refine wB1 ?_;rw[cRoomFor,aj (by rw[b];exact aI)];refine wP1 ?_;refine wB1 (wpAny_specialOf a F.slot_NoneType_hash.lookup ?_);show cP _ _ (if(Z (Value.builtin "NoneType.__hash__") == Z Value.none)=M then _ else _) Q E s;rw[aj (by rw[beq_builtin_none];exact aI)];refine wB1 (wpAny_specialOf a F.slot_NoneType_hash.lookup ?_);show cP _ _ (callSpecialIfBoundUnlessNone? .none "__hash__" _ >>= _) Q E s;refine wB1 (wpAny_callSpecialIfBoundUnlessNone?_slot a F.slot_NoneType_hash (wE1 F.slot_NoneType_hash a F.entry_NoneType_hash (show cP _ _ (retInt 0xFCA86420) _ _ s from wpAny_ret_mkInt ?_) (F.args_NoneType_hash_1 _)));exact wP1 h
def rS(prog:cI)(w:cK)(k:TK):Prop:=∀{A:cJ} {E:cF->cG->Prop} {s:cG} {v:cF} {Q:Int->cG->Prop},A.units+k.dep<cLine->fZ s.heap k v->Q k.hash {s with toks:=s.toks+k.draws}->cP (model prog w) A (pyHash v) Q E s
theorem gH.split{h:cR}:∀{ks:List TK} {vs:List cF},gH h ks vs->ks.length=vs.length:=λa=>a.rec (motive_1:=λ_ _ _=>True) (motive_2:=λks vs _=>ks.length=vs.length) trivial (λ_ _=>trivial) (λ_ _ _ _ _=>trivial) O (λ_ _ _ ih=>congrArg (· + 1) ih)
theorem Ak{xs:List TK}(all:∀k∈xs,rS prog w k):rS prog w (.tup xs):=by
 intro A E s v Q u t h;cases t with
 | @tup a o l n _ q hc r hi=>
  have g:s.TypeIs (.ref a) "tuple":=⟨o,q,hc⟩;rw[TK.dep]at u;unfold pyHash
  first|unfold pyHashByItsType|skip
  first|refine wB1 (wpAny_cRoomFor_or (.inr (by lia)) ?_)|skip
  refine wB1 (wpAny_specialOf g F.slot_tuple_hash.lookup ?_);show cP _ _ (if(Z (Value.builtin "tuple.__hash__") == Z Value.none)=M then _ else _) Q E s;rw[aj (by rw[beq_builtin_none];exact aI)];refine wB1 (wpAny_specialOf g F.slot_tuple_hash.lookup ?_);show cP _ _ (callSpecialIfBoundUnlessNone? (.ref a) "__hash__" _ >>= _) Q E s;refine wB1 (wpAny_callSpecialIfBoundUnlessNone?_slot g F.slot_tuple_hash (wE1 F.slot_tuple_hash g F.entry_tuple_hash ?_ (F.args_tuple_hash_1 _)));show cP _ _ (Builtin.Tuple.tupleItemsOf (.ref a) >>= _) _ _ s;refine wB1 (wpAny_tupleItemsOf q r ?_);refine wB1 ?_;rw[<- Array.forIn_toList];refine wpAny_forIn_list _
   (λrest (b:Array Int) s'=>∃done c,xs=done++c/\gH s.heap c rest/\b.toList=TK.hashes done/\s'={s with toks:=s.toks+TK.drawsAll done})
   _ ?_ ?_ _ _ ⟨[],xs,O,hi,O,O⟩
  ·rintro x rest b s' ⟨done,c,e,m,j,rfl⟩;cases m with
   | @cons k _ f _ h1 d=>
    have p:k∈xs:=by rw[e];simp
    refine wB1 (all k p (show A.in1.units+k.dep<cLine by have:=TK.dep_mem p;rw[show A.in1.units=A.units+1 from rfl];lia) h1 ?_)
    first
     |exact wP1 ⟨done++[k],f,by simp[e],d,by rw[TK.hashes_app];simp[j,TK.hashes],by rw[TK.draws_app];simp[TK.drawsAll,bh]⟩
     |exact wB1 (wP1 (wP1 ⟨done++[k],f,by simp[e],d,by rw[TK.hashes_app];simp[j,TK.hashes],by rw[TK.draws_app];simp[TK.drawsAll,bh]⟩))
  ·rintro b s' ⟨done,c,e,m,j,rfl⟩;cases m;rw[aK]at e;subst e;show cP _ _ (retInt (Builtin.Tuple.tupleHashOf b.toList)) _ _ _;rw[j];refine wpAny_ret_mkInt ?_;show cP _ _ (if(decide (-(2:Int)^63<=Builtin.Tuple.tupleHashOf (TK.hashes xs))&&decide (Builtin.Tuple.tupleHashOf (TK.hashes xs)<2^63))=M then _ else _) Q E _;rw[TK.hash,TK.draws]at h;unfold reduceHash at h;by_cases i:(decide (-(2:Int)^63<=Builtin.Tuple.tupleHashOf (TK.hashes xs))&&decide (Builtin.Tuple.tupleHashOf (TK.hashes xs)<2^63))=M
   ·rw[ak i];rw[ak i]at h;exact wP1 (by simpa[bh]using h)
   ·rw[aj i];rw[aj i]at h;exact wB1 (wpAny_rule (wP1 (by simpa[bh]using h)))
mutual
theorem wh:∀k:TK,rS prog w k
 | .non=>λb a h=>by cases a;exact sC h
 | .int i=>λb a h=>by cases a;exact wpAny_pyHash_int h
 | .tup xs=>Ak (tw xs)
theorem tw:∀ks:List TK,∀k∈ks,rS prog w k
 |[],k,h=>by simp at h
 |x::xs,k,h=>by
  by_cases e:k=x
  ·rw[e];exact wh x
  ·exact tw xs k ((aD.mp h).resolve_left e)
end
end
theorem fZ.inj{h:cR}:∀ {k k':TK} {v:cF},fZ h k v->fZ h k' v->k=k':=fun j=>j.rec (motive_1:=fun k v _=>∀ k',fZ h k' v->k=k') (motive_2:=fun k v _=>∀ k',gH h k' v->k=k')
  (λk' g=>by cases g;rfl) (λ_ _ k' g=>by cases g;rfl)
  (λf l e n ih k' g=>by
   cases g with
   |tup c m d i=>
    rw[f]at c;cases c;rw[e]at d;cases d;rw[ih _ i])
  (λk' g=>by cases g;rfl) (λ_ _ a b k' g=>by cases g with|cons r' t'=>rw[a _ r',b _ t']) _
theorem fZ.keeps{h h':cR}{d:cH}{o:Obj}{es ep}(ho:h.get? d=some o)(hd:o.data = .dict es ep)(hs:Heap.SameBut d h h'):∀ {k:TK} {v:cF},fZ h k v->fZ h' k v:=fun g=>g.rec (motive_1:=fun k v _=>fZ h' k v) (motive_2:=fun k v _=>gH h' k v) .non .int
  (λ{a} _ _ _ _ e f c _ ih=>.tup ((hs.2 a (λz=>by subst z;rw[e]at ho;cases ho;rw[c]at hd;cases hd)).trans e) f c ih) .nil (λ_ _ a b=>.cons a b)
theorem gH.at{h:cR}:∀{ks:List TK} {vs:List cF} (j:Nat) (h1:j<ks.length) (h2:j<vs.length),gH h ks vs->fZ h ks[j] vs[j]
 |_::_,_::_,0,_,_,.cons r _=>r
 |_::ks,_::vs,j+1,h1,h2,.cons _ t=>gH.at j (by simpa using h1) (by simpa using h2) t
theorem AY{xs ys:List TK}(b:xs.length=ys.length):((af (min xs.length ys.length)).all λj=>decide (xs[j]?=ys[j]?))=decide (xs=ys):=by
 by_cases h:xs=ys
 ·subst h;simp
 ·rw[ai h,List.all_eq_false];have:∃j,xs[j]? ≠ ys[j]?:=Classical.byContradiction λz=>h (List.ext_getElem? λj=>Classical.byContradiction λq=>z ⟨j,q⟩);obtain⟨j,a⟩:=this;refine⟨j,?_,by simpa using a⟩;rw[aA,b,Nat.min_self];apply Classical.byContradiction;intro c;exact a (by rw[bT (by lia),bT (by lia)])
theorem Im:∀(n:Nat) {k k':TK} {A:cJ} {s:cG} {u v:cF},k.dep<=n->A.units+n<cLine->fZ s.heap k u->fZ s.heap k' v->SeqAt.EqAt A s u v (decide (k=k')):=by
 intro n
 induction n with
 |zero=>
  intro k k' A s u v G U r g;cases r with
  |tup _ _ _ _=>simp[TK.dep]at G
  |non=>
   cases g with
   |non=>simpa using SeqAt.EqAt.same (A:=A) (s:=s) Value.none
   |int i t=>simpa[uo]using jX (A:=A) (s:=s) (y:=.non) (x:=.int i) O ⟨t,O⟩ O O
   |tup e c d t=>simpa using(eJ (A:=A) (s:=s) (b:=J) (v:=.non) (u:=.none) ⟨_,e,c,_,d⟩ O O (by lia)).2.1
  |int i t=>
   cases g with
   |non=>simpa[uo]using jX (A:=A) (s:=s) (y:=.int i) (x:=.non) ⟨t,O⟩ O O O
   |int j H=>
    have:=jX (A:=A) (s:=s) (y:=.int i) (x:=.int j) ⟨t,O⟩ ⟨H,O⟩ O O;have e:uo (.int i) (.int j)=decide (TK.int i=TK.int j):=by
     by_cases h:i=j
     ·subst h;simp[uo]
     ·rw[ai (λz=>h (by injection z))];simp[uo,h]
    rw[e]at this;exact this
   |tup e c d q=>simpa using(eJ (A:=A) (s:=s) (b:=J) (v:=.int i) (u:=.int i t) ⟨_,e,c,_,d⟩ ⟨t,O⟩ O (by lia)).2.1
 |succ n ih=>
  intro k k' A s u v G U r g;cases r with
  |non=>
   cases g with
   |non=>simpa using SeqAt.EqAt.same (A:=A) (s:=s) Value.none
   |int i t=>simpa[uo]using jX (A:=A) (s:=s) (y:=.non) (x:=.int i) O ⟨t,O⟩ O O
   |tup e c d t=>simpa using(eJ (A:=A) (s:=s) (b:=J) (v:=.non) (u:=.none) ⟨_,e,c,_,d⟩ O O (by lia)).2.1
  |int i t=>
   cases g with
   |non=>simpa[uo]using jX (A:=A) (s:=s) (y:=.int i) (x:=.non) ⟨t,O⟩ O O O
   |int j H=>
    have:=jX (A:=A) (s:=s) (y:=.int i) (x:=.int j) ⟨t,O⟩ ⟨H,O⟩ O O;have e:uo (.int i) (.int j)=decide (TK.int i=TK.int j):=by
     by_cases h:i=j
     ·subst h;simp[uo]
     ·rw[ai (λz=>h (by injection z))];simp[uo,h]
    rw[e]at this;exact this
   |tup e c d q=>simpa using(eJ (A:=A) (s:=s) (b:=J) (v:=.int i) (u:=.int i t) ⟨_,e,c,_,d⟩ ⟨t,O⟩ O (by lia)).2.1
  | @tup a o f m xs w p l F=>
   cases g with
   |non=>simpa using(eJ (A:=A) (s:=s) (b:=J) (v:=.non) (u:=.none) ⟨_,w,p,_,l⟩ O O (by lia)).1
   |int i t=>simpa using(eJ (A:=A) (s:=s) (b:=J) (v:=.int i) (u:=.int i t) ⟨_,w,p,_,l⟩ ⟨t,O⟩ O (by lia)).1
   | @tup a2 R items2 m2 ys K N L D=>
    by_cases P:a=a2
    ·subst P;have:TK.tup xs=TK.tup ys:=fZ.inj (.tup w p l F) (.tup K N L D);rw[ah this];exact .same _
    ·refine .of_refs P ?_;have am:=F.split;have ao:=D.split;have I:=SeqAt.RcAt.tuples (A:=A) (s:=s) (e:=fun j=>decide (xs[j]? = ys[j]?)) ⟨o,w,p,m,l⟩ ⟨R,K,N,m2,L⟩ (by lia) (fun j h1 h2=>by
      have E:j<xs.length:=by rw[am];simpa using h1
      have au:j<ys.length:=by rw[ao];simpa using h2
      rw[TK.dep]at G;have V:=TK.dep_mem (bO E);have q:=ih (k:=xs[j]) (k':=ys[j]) (A:=A.in1) (s:=s) (by lia) (by show A.units+1+n<cLine;lia) (F.at j E (by simpa using h1)) (D.at j au (by simpa using h2));have e:decide (xs[j]?=ys[j]?)=decide (xs[j]=ys[j]):=by
       rw[gG1 E,gG1 au];simp
      rw[e];simpa using q)
     have S:f.size=xs.length:=by rw[am];simp
     have Q:items2.size=ys.length:=by rw[ao];simp
     rw[S,Q]at I;have C:((af (min xs.length ys.length)).all (λj=>decide (xs[j]?=ys[j]?))&&xs.length == ys.length)=decide (TK.tup xs=TK.tup ys):=by
      by_cases B:xs.length=ys.length
      ·rw[AY B,B,beq_self_eq_true,bH];by_cases h:xs=ys
       ·subst h;simp
       ·rw[ai h,ai (λz=>h (by injection z))]
      ·have T:(xs.length == ys.length)=J:=by simpa using B
       rw[T,bU,ai (λz=>B (by injection z with z;rw[z]))]
     rw[C]at I;exact I
theorem yW{prog:cI}{w:cK}:∀(n:Nat) {k:TK} {A:cJ} {E:cF->cG->Prop} {s:cG} {v:cF} {Q:Bool->cG->Prop},k.dep<=n->fZ s.heap k v->Q M s->cP (model prog w) A (eqIsQuiet n v) Q E s:=by
 intro n
 induction n with
 |zero=>
  intro k A E s v Q c r h;cases r with
  |non=>rw[eqIsQuiet_byValue 0 O];exact wP1 h
  |int i t=>rw[eqIsQuiet_byValue 0 O];exact wP1 h
  |tup _ _ _ _=>simp[TK.dep]at c
 |succ n ih=>
  intro k A E s v Q c r h;cases r with
  |non=>rw[eqIsQuiet_byValue _ O];exact wP1 h
  |int i t=>rw[eqIsQuiet_byValue _ O];exact wP1 h
  | @tup a o b m xs g p j z=>
   have f:s.TypeIs (.ref a) "tuple":=⟨o,g,p⟩;rw[TK.dep]at c;unfold eqIsQuiet;refine wB1 (wpAny_specialOf f F.slot_tuple_eq.lookup ?_);show cP _ _ (isInstance (.ref a) (.type "tuple") >>= _) _ _ s;refine wB1 (wpAny_isInstance f isSubtype_tuple_tuple ?_);simp only[bV,bF1,if_false];refine wB1 (wpAny_seqItems g j ?_);refine wB1 ?_;show cP _ _ (forIn b _ _) _ _ s;rw[<- Array.forIn_toList];refine wpAny_forIn_list _ (λrest r s'=>r.1=Y/\s'=s /\ ∃ks,gH s.heap ks rest/\TK.depAll ks<=n) _ ?_ ?_ _ _ ⟨O,O,xs,z,by lia⟩
   ·rintro v rest r s' ⟨e,rfl,ks,l,q⟩;cases l with
    | @cons u _ d _ x y=>
     rw[TK.depAll]at q;refine wB1 (ih (k:=u) (by lia) x ?_);simp only[bV,bF1,if_false];exact wP1 ⟨O,O,d,y,by lia⟩
   ·rintro⟨B,r2⟩ s' ⟨e,rfl,_⟩;simp only at e;subst e;exact wP1 h
def iO(prog:cI)(w:cK):HeapKind prog w TK where
 is:=λh k a=>fZ h k (.ref a)/\k.dep<=8
 hash:=TK.hash
 draws:=TK.draws
 room:=λA=>A.units+8<cLine
 inj:=λhx hy=>hx.1.inj hy.1
 keeps:=λx ho hd hs=>⟨x.1.keeps ho hd hs,x.2⟩
 pyHash:=λhu hk h=>wh _ (by have:=hk.2;omega) hk.1 h
 eqBool:=λhu hx hy h=>Im 8 hx.2 hu hx.1 hy.1 _ _ _ _ h
 quiet:=λhk h=>yW 8 hk.2 hk.1 h
section
open PySem.MeetsSeq PySem.MeetsSeq2 PySem.MeetsSeq3 PySem.SeqRoads2
end
mutual
noncomputable def kD:D->Option TK
 | .non=>Z .non
 | .int i=>Z (.int i)
 | .tup xs=>(Ad xs).map .tup
 |_=>Y
noncomputable def Ad:List D->Option (List TK)
 |[]=>Z []
 |x::xs=>(kD x).bind λk=>(Ad xs).map (k :: ·)
end
def keyT:D->Option TK
 | .tup xs=>(Ad xs).bind λks=>if(TK.tup ks).dep<=8 then Z (.tup ks)else Y
 |_=>Y
mutual
theorem H0:∀{d:D} {k:TK},kD d=Z k->tkD k=d
 | .non,k,h=>by cases h;rfl
 | .int i,k,h=>by cases h;rfl
 | .tup xs,k,h=>by
  rw[kD]at h;obtain⟨ks,e,h⟩:=oM1.mp h;subst h;rw[tkD,u6 e]
 | .bl _,k,h=>by simp[kD]at h
 | .str _,k,h=>by simp[kD]at h
 | .rol _,k,h=>by simp[kD]at h
 | .fn _,k,h=>by simp[kD]at h
 | .ref _,k,h=>by simp[kD]at h
theorem u6:∀{ds:List D} {ks:List TK},Ad ds=Z ks->j9 ks=ds
 |[],ks,h=>by cases h;rfl
 |x::xs,ks,h=>by
  rw[Ad]at h;obtain⟨k,b,h⟩:=oB1.mp h;obtain⟨t,a,h⟩:=oM1.mp h;subst h;rw[j9,H0 b,u6 a]
end
theorem ri{d:D}{k:TK}(h:keyT d=Z k):tkD k=d/\k.dep<=8 /\ ∃xs,k = .tup xs:=by
 cases d with
 |tup xs=>
  rw[keyT]at h;obtain⟨ks,e,h⟩:=oB1.mp h;split at h
  ·rename_i a;cases h;exact⟨by rw[tkD,u6 e],a,ks,O⟩
  ·cases h
 |_=>cases h
section
variable{ag:List (cH×Obj)}{σ:L2.St}{H:Hp}{s:cG}{mu:List cH}
mutual
theorem vJ(I:Inv X ag σ H s):∀(k:TK) {v:V} {u:cF},d9 X.K H mu (tkD k) v->dn v u->fZ s.heap k u
 | .non,v,u,r,q=>by
  rw[tkD]at r;cases r;cases q;exact .non
 | .int i,v,u,r,q=>by
  rw[tkD]at r;cases r;obtain⟨t,rfl⟩:=q;exact .int i t
 | .tup xs,v,u,r,q=>by
  rw[tkD]at r;cases r with
  |tup h t=>
   cases q;obtain⟨d,c,⟨o,a,b,n,e⟩,_⟩:=I.tuple h;exact .tup a b e (by simpa using yw I xs t c)
theorem yw(I:Inv X ag σ H s):∀(ks:List TK) {vs:List V} {us:List cF},db X.K H mu (j9 ks) vs->dF vs us->gH s.heap ks us
 |[],vs,us,r,q=>by rw[j9]at r;cases r;cases q;exact .nil
 |k::ks,vs,us,r,q=>by
  rw[j9]at r;cases r with
  |cons r t=>cases q with
   |cons q p=>exact .cons (vJ I k r q) (yw I ks t p)
end
theorem uN{α β γ δ:Type}{F:α->β->Prop}{G:γ->δ->Prop}{f:α->γ}{g:β->δ}:∀{l₁:List α} {l₂:List β},Paired F l₁ l₂->(∀a b,F a b->G (f a) (g b))->Paired G (l₁.map f) (l₂.map g):=by
 intro a b h g
 induction h with
 |nil=>exact .nil
 |cons r t ih=>exact .cons (g _ _ r) ih
theorem uO{α β:Type}{F:α->β->Prop}:∀{l₁ f:List α} {l₂ e:List β},Paired F l₁ l₂->Paired F f e->Paired F (l₁++f) (l₂++e):=by
 intro a b c d h g
 induction h with
 |nil=>exact g
 |cons r t ih=>exact .cons r ih
theorem KT.length{K:Fg1}:∀{ks:List (TK×D)} {ws:List (TK×cH×cF)},KT K H mu ks ws->ks.length=ws.length:=λh=>Paired.length h
theorem KT.mem{K:Fg1}:∀{ks:List (TK×D)} {ws:List (TK×cH×cF)},KT K H mu ks ws -> ∀x∈ws,x.1.dep<=8/\d9 K H mu (tkD x.1) (.ref x.2.1):=by
 intro ks ws a x h
 induction a with
 |nil=>cases h
 |cons r t ih=>
  rcases aD.mp h with e|e
  ·subst e;rw[<- r.1];exact⟨r.2.1,r.2.2.1⟩
  ·exact ih e
theorem KT.look{K:Fg1}{k:TK}:∀ {ks:List (TK×D)} {ws:List (TK×cH×cF)},KT K H mu ks ws ->
  (∀d,dH ks k=Z d -> ∃p v,atKey ws k=Z p/\dn v p.2/\d9 K H mu d v)/\(atKey ws k).isSome=(dH ks k).isSome:=by
 intro ks ws h
 induction h with
 |nil=>exact⟨λd h=>by simp[dH]at h,O⟩
 | @cons p j ks ws r t ih=>
  obtain⟨b,c⟩:=p;obtain⟨l,a2,e⟩:=j;obtain⟨z,d,q,v,f,r⟩:=r;dsimp only at z q f r;subst z;obtain⟨h1,h2⟩:=ih;by_cases a:b=k
  ·subst a;refine⟨λd h=>?_,by simp[atKey,dH]⟩;have:c=d:=by simpa[dH]using h
   subst this;exact⟨(a2,e),v,by simp[atKey],f,r⟩
  ·have g:dH ((b,c)::ks) k=dH ks k:=by simp[dH,aW,a]
   have i:atKey ((b,a2,e)::ws) k=atKey ws k:=by simp[atKey,aW,a]
   rw[g,i];exact⟨h1,h2⟩
theorem KT.put{K:Fg1}{k:TK}{d:D}{v:V}{a:cH}{u:cF}(hk:k.dep<=8)(j:d9 K H mu (tkD k) (.ref a))(f:dn v u)(q:d9 K H mu d v){ks:List (TK×D)}{ws:List (TK×cH×cF)}(h:KT K H mu ks ws):KT K H mu (gz ks k d) (storedH ws k a u):=by
 unfold gz storedH;have e:(ks.any λp=>decide (p.1=k))=(atKey ws k).isSome:=by
  rw[h.look.2];unfold dH;rw[a0,bM,List.find?_isSome,bN]
 rw[e];split
 ·clear e;refine uN h λp w ⟨z,d',g,i,c,l⟩=>?_;unfold putAt;by_cases b:p.1=k
  ·rw[ak b,ak (by rw[<- z];exact b)];exact⟨z,d',g,v,f,q⟩
  ·rw[aj b,aj (by rw[<- z];exact b)];exact⟨z,d',g,i,c,l⟩
 ·exact uO h (.cons ⟨O,hk,j,v,f,q⟩ .nil)
theorem pG(I:Inv X ag σ H s){a:cH}{xs:List (TK×cH×cF)}{kvs:List (TK×D)}(e:H a=Z (.ext (d5 a xs)))(h:KT X.K H mu kvs xs):(a == sysModules)=J/\s.heap.DictOfH (iO X.prog X.w) a xs:=by
 obtain⟨⟨h1,h2,o,es,ep,c,g,d,f⟩,_⟩:=(show dZ X.prog X.w H s.heap a (.ext (d5 a xs))from I.hok a _ e);exact⟨h1,o,es,ep,c,g,d,f,λx b=>⟨vJ I _ (h.mem x b).2 O,(h.mem x b).1⟩,h2⟩
theorem mO{h:cR}{a:cH}{xs:List (TK×cH×cF)}(hd:(a == sysModules)=J)(hm:h.DictOfH (iO X.prog X.w) a xs):dZ X.prog X.w H h a (.ext (d5 a xs)):=by
 obtain⟨o,es,ep,d,l,g,i,n,j⟩:=hm;refine⟨⟨hd,j,o,es,ep,d,l,g,i⟩,⟨o,d⟩,λp m ⟨a1,a2,o',c,b,b3,f,k,e⟩ st=>⟨a1,a2,o',c,b,st _ b3,f,k,e⟩⟩
end
def my:G2:=λd e S=>match e with
 | .ref n=>match S[n]? with
  |some (.dcT kvs)=>(keyT d).map λk=>(.bl (dH kvs k).isSome,S)
  |_=>Ao d e S
 |_=>Ao d e S
def mL:G2:=λd e S=>match e with
 | .ref n=>match S[n]? with
  |some (.dcT kvs)=>(keyT d).map λk=>(.bl (!(dH kvs k).isSome),S)
  |_=>kO d e S
 |_=>kO d e S
def da:G2:=λd e S=>match d with
 | .ref n=>match S[n]? with
  |some (.dcT kvs)=>(keyT e).bind λk=>(dH kvs k).map λx=>(x,S)
  |some (.dcF kvs)=>(keyT e).bind λk=>(dH kvs k).map λx=>(x,S)
  |_=>nW d e S
 |_=>nW d e S
def i4:G3:=λo i v S=>match o with
 | .ref n=>match S[n]? with
  |some (.dcT kvs)=>(keyT i).bind λk=>if kvs.length<cO then Z (.non,S.set n (.dcT (gz kvs k v)))else Y
  |some (.dct [])=>match keyT i with
   |some k=>Z (.non,S.set n (.dcT [(k,v)]))
   |none=>l5 o i v S
  |_=>l5 o i v S
 |_=>l5 o i v S
theorem l0{κ:Type}[DecidableEq κ](kvs:List (κ×D))(k:κ)(d:D):(gz kvs k d).length<=kvs.length+1:=by
 unfold gz;split
 ·rw[lM1];lia
 ·simp
theorem tI{h:cR}{a:cH}(f:h.DictOf (ez X.prog X.w) a []):h.DictOfH (iO X.prog X.w) a []:=by
 obtain⟨o,es,ep,h1,h2,c,_,b,_⟩:=f;have e:es.toList=[]:=by
  generalize es.toList=l at b;cases b;rfl
 exact⟨o,es,ep,h1,h2,c,e,(λx d=>by simp at d),bj⟩
theorem kj{A:cJ}(a:A.units+64<cLine):(iO X.prog X.w).room A.in1:=by
 show A.units+1+8<cLine;lia
theorem lv{ag:List (cH×Obj)}{σ:L2.St}{H:Hp}{s:cG}{mu:List cH}(I:Inv X ag σ H s){d:D}{v:V}{u:cF}{k:TK}(r:d9 X.K H mu d v)(q:dn v u)(h:keyT d=some k):
  ∃a,u = .ref a/\v = .ref a/\d9 X.K H mu (tkD k) (.ref a)/\k.dep<=8/\(iO X.prog X.w).is s.heap k a:=by
 obtain⟨e,b,xs,ex⟩:=ri h;subst e;have is:=vJ I k r q;subst ex;cases id is with
 | @tup a _ _ _ _ _ _ _ _=>
  rw[tkD]at r;cases r with
  |tup h1 h2=>
   cases q;exact⟨a,O,O,by rw[tkD];exact .tup h1 h2,b,is,b⟩
theorem nL(j:X.A.units+64<cLine):fy X (compareOp .In) (r2 X.K (b2 my)):=by
 intro ag s σ H x y u w Q I m l h;obtain⟨mu,S,d,e,r,i,o,c,f,b,hc⟩:=oX h;have back:Ao d e S=Z (r,i)->cP (model X.prog X.w) X.A (compareOp .In u w) (EP X ag σ Q) X.xe s:=λb=>HH j ag s σ H x y u w Q I m l ⟨mu,S,[d,e],r,i,.cons o (.cons c .nil),f,b,hc⟩;unfold my at b;split at b
 ·rename_i n;split at b
  ·rename_i kvs t;obtain⟨k,A,b⟩:=oM1.mp b;cases b;cases c with
   |ref v=>
    cases l;obtain⟨xs,z,g,_⟩:=f.dcT t v;obtain⟨p,q⟩:=pG I z g;obtain⟨a,rfl,rfl,_,_,hi⟩:=lv I o m A;refine wpAny_in_heap (kj j) hi p q ?_;exact⟨.bl (atKey xs k).isSome,H,I.tok _,O,by rw[g.look.2];exact hc.now (.bl _) f⟩
  ·exact back b
 ·exact back b
theorem sP(j:X.A.units+64<cLine):fy X (compareOp .NotIn) (r2 X.K (b2 mL)):=by
 intro ag s σ H x y u w Q I m l h;obtain⟨mu,S,d,e,r,i,o,c,f,b,hc⟩:=oX h;have back:kO d e S=Z (r,i)->cP (model X.prog X.w) X.A (compareOp .NotIn u w) (EP X ag σ Q) X.xe s:=λb=>zy j ag s σ H x y u w Q I m l ⟨mu,S,[d,e],r,i,.cons o (.cons c .nil),f,b,hc⟩;unfold mL at b;split at b
 ·rename_i n;split at b
  ·rename_i kvs t;obtain⟨k,A,b⟩:=oM1.mp b;cases b;cases c with
   |ref v=>
    cases l;obtain⟨xs,z,g,_⟩:=f.dcT t v;obtain⟨p,q⟩:=pG I z g;obtain⟨a,rfl,rfl,_,_,hi⟩:=lv I o m A;refine wpAny_notIn_heap (kj j) hi p q ?_;exact⟨.bl (!(atKey xs k).isSome),H,I.tok _,O,by rw[g.look.2];exact hc.now (.bl _) f⟩
  ·exact back b
 ·exact back b
theorem Gh{ag:List (cH×Obj)}{σ:L2.St}{H:Hp}{s:cG}{mu:List cH}(I:Inv X ag σ H s){a:cH}{xs:List (TK×cH×cF)}{kvs:List (TK×D)}(e:∃o u,H a=Z (.frz o u)/\wC a xs o)(h:KT X.K H mu kvs xs):(a == sysModules)=J/\s.heap.DictOfH (iO X.prog X.w) a xs:=by
 obtain⟨o,u,e,h1,h2,g,es,ep,d,f⟩:=e;obtain⟨c,_⟩:=(show dZ X.prog X.w H s.heap a (.frz o u)from I.hok a _ e);exact⟨h1,o,es,ep,c,g,d,f,λx b=>⟨vJ I _ (h.mem x b).2 O,(h.mem x b).1⟩,h2⟩
theorem qP(K:X.A.units+64<cLine):DZ X (r2 X.K (b2 da)):=by
 intro value c ag s σ H x y v u Q I B G h q;obtain⟨mu,S,d,e,r,E,w,m,t,f,hc⟩:=oX h;have back:nW d e S=Z (r,E)->cP (model X.prog X.w) X.A (subscriptTail value c v u) (EP X ag σ Q) X.xe s:=λf=>GP K value c ag s σ H x y v u Q I B G ⟨mu,S,[d,e],r,E,.cons w (.cons m .nil),t,f,hc⟩ q;have g:∀kvs a xs,v = .ref a->KT X.K H mu kvs xs->s.heap.DictOfH (iO X.prog X.w) a xs->((keyT e).bind λk=>(dH kvs k).map λx=>(x,S))=Z (r,E)->cP (model X.prog X.w) X.A (subscriptTail value c v u) (EP X ag σ Q) X.xe s:=λkvs a xs N j am f=>by
  obtain⟨k,L,f⟩:=oB1.mp f;obtain⟨z,R,f⟩:=oM1.mp f;cases f;subst N;obtain⟨b,rfl,rfl,_,_,hi⟩:=lv I m G L;obtain⟨p,P,ep,au,ao⟩:=j.look.1 _ R;have F:=am.typeIs;unfold subscriptTail;refine wB1 ?_;rw[getitemInPython_of_ne F.not_modules];refine wB1 (wpAny_specialOf F PySem.F.slot_dict_getitem.lookup ?_);have l:cP (model X.prog X.w) X.A (subscripted c J (.ref a) (.ref b)) (λr i=>cP (model X.prog X.w) X.A (letTemporaryGo value (.ref a) r >>= λ_=>pure r) (EP X ag σ Q) X.xe i) X.xe s:=by
   rw[q];exact wpAny_operating (wpAny_mono (wpAny_getItem_heap (kj K) hi am ep (show EP X ag σ Q p.2 _ from⟨P,H,I.tok _,au,hc.now ao t⟩)) (λr i o=>wB1 (wpAny_letTemporaryGo (wP1 o))) λ_ _ x=>x)
  first
   |exact wP1 (wB1 l)
   |exact wB1 l
   |exact l
 unfold da at f;split at f
 ·rename_i n;split at f
  ·rename_i kvs C;cases w with
   | @ref _ a A=>
    cases B;obtain⟨xs,D,j,_⟩:=t.dcT C A;exact g kvs a xs O j (pG I D j).2 f
  ·rename_i kvs C;cases w with
   | @ref _ a A=>
    cases B;obtain⟨xs,D,j,_⟩:=(show ObR X.K H mu a (.dcF kvs)from t.ob n _ a C A);exact g kvs a xs O j (Gh I D j).2 f
  ·exact back f
 ·exact back f
theorem qi(K:X.A.units+64<cLine):vz X (rU X.K (b3 i4)):=by
 intro ag s σ H o i v P T u Q I G E t h;obtain⟨mu,S,ds,d,R,W,l,a,hc⟩:=id h;cases W with
 |cons B wq=>cases wq with
  |cons C V=>cases V with
   |cons p U=>
    cases U;rename_i N au L;dsimp only[b3]at a;have back:l5 N au L S=Z (d,R)->cP (model X.prog X.w) X.A (setItem P T u) (λ_ s'=>∃H',Inv X ag σ H' s'/\Q H') X.xe s:=λa=>Em K ag s σ H o i v P T u Q I G E t ⟨mu,S,[N,au,L],d,R,.cons B (.cons C (.cons p .nil)),l,a,hc⟩;unfold i4 at a;split at a
    ·rename_i n;split at a
     ·rename_i kvs F;obtain⟨k,A,a⟩:=oB1.mp a;split at a
      ·rename_i hl;cases a;cases B with
       | @ref _ m f=>
        cases G;obtain⟨xs,w,j,aq⟩:=l.dcT F f;obtain⟨am,D⟩:=pG I w j;obtain⟨b,rfl,rfl,rk,r,hi⟩:=lv I C E A;refine wpAny_setItem_heap (hsz:=aq) (kj K) hi D λh' e c=>?_;have g:∃q,h'.get? _=Z q:=let ⟨q,_,_,g,_⟩:=e;⟨q,g⟩
        have put:Ext mu mu H (upd H m (.ext (d5 m (storedH xs k b u)))):=Ext.put w trivial (gM1 f);refine⟨_,jm I (by rw[w];exact True.intro) c g (mO am e),hc _ mu put (l.put f w trivial ⟨_,di,((j.put r rk t p).ext put),?_⟩)⟩;rw[<- (j.put r rk t p).length];have:=l0 kvs k L;lia
      ·cases a
     ·rename_i F;split at a
      ·rename_i k A;cases a;cases B with
       | @ref _ m f=>
        cases G;obtain⟨ws,x,j⟩:=l.dct F f;cases j;obtain⟨z,am,vs,ao,D⟩:=AH I.hok x;cases ao;obtain⟨b,rfl,rfl,rk,r,hi⟩:=lv I C E A;have y:s.heap.DictOfH (iO X.prog X.w) _ []:=tI D;refine wpAny_setItem_heap (hsz:=bf _) (kj K) hi y λh' e c=>?_;have g:∃q,h'.get? _=Z q:=let ⟨q,_,_,g,_⟩:=e;⟨q,g⟩
        have put:Ext mu mu H (upd H m (.ext (d5 m (storedH [] k b u)))):=Ext.put x trivial (gM1 f);exact⟨_,jm I (by rw[x];exact True.intro) c g (mO am e),hc _ mu put (l.put f x trivial ⟨_,di,KT.ext put (.cons ⟨O,r,rk,v,t,p⟩ .nil),(show 1<=cO by decide)⟩)⟩
      ·exact back a
     ·exact back a
    ·exact back a
def uD(S:cZ)(d:D):Option Bool:=match d with
 | .non=>Z J
 | .bl b=>Z b
 | .int i=>Z (i != 0)
 | .str y=>if y.length<=cO then Z ((y.length:Int) != 0)else Y
 | .ref n=>match S[n]? with
  |some (.dct kvs)=>Z (!kvs.isEmpty)
  |_=>(dw S d).map λp=> !p.2.isEmpty
 |_=>(dw S d).map λp=> !p.2.isEmpty
noncomputable def jT (m:FE):FT:=λr S=>(m r S).bind λp=>(uD p.2 p.1).map λb=>(b,p.2)
section
variable{K:Fg1}{H:Hp}{mu:List cH}{S:cZ}
theorem qh{d:D}{v:V}{b:Bool}(r:d9 K H mu d v)(s:Sim K H mu S)(h:((dw S d).map λp=> !p.2.isEmpty)=Z b):Dr K v H b:=by
 obtain⟨⟨k,xs⟩,e,h⟩:=oM1.mp h;obtain⟨a,vs,rfl,q,t⟩:=dh r s e;have z:(!xs.isEmpty) = !vs.isEmpty:=by cases t<;>rfl
 dsimp only at h;rw[z]at h;cases k
 ·exact .inr (.inl ⟨vs,q,h.symm⟩)
 ·exact .inl ⟨vs,q,h.symm⟩
theorem Ed{d:D}{v:V}{b:Bool}(r:d9 K H mu d v)(s:Sim K H mu S)(h:uD S d=Z b):Dr K v H b:=by
 cases d with
 |non=>cases r;cases h;rfl
 |bl k=>cases r;cases h;rfl
 |int i=>cases r;cases h;rfl
 |str y=>
  rw[uD]at h;split at h
  ·rename_i c;cases r;cases h;exact⟨c,O⟩
  ·cases h
 |tup xs=>exact qh r s h
 |rol xs=>exact qh r s h
 |fn x=>cases h
 |ref n=>
  rw[uD]at h;split at h
  ·rename_i kvs e;cases h;cases r with
   |ref f=>
    obtain⟨ws,g,a⟩:=s.dct e f;refine .inr (.inr ⟨ws,g,?_⟩);cases a<;>rfl
  ·exact qh r s h
end
theorem ea{X:Cx}{x:Expr}{f:FE}(h:XE X x f)(he:autoParam (∀a,isTrue x X.env a=(do let v<-a;standAt x.pos;holding [v] (truthy v))) du0):XT X x (jT f):=
 ⟨uK (y0 h.h he) <| by
  rintro σ H Q ⟨r,mu,S,b,m,he,i,c,hc⟩;obtain⟨⟨l,n⟩,e,c⟩:=oB1.mp c;obtain⟨b1,g,c⟩:=oM1.mp c;cases c;exact⟨r,mu,S,_,_,he,i,e,λv H1 mu1 k j d=>⟨_,Ed j d g,hc H1 mu1 k d⟩⟩⟩
section
variable{ag:List (cH×Obj)}{σ:L2.St}{H:Hp}{s:cG}{mu:List cH}
end
noncomputable def va:List D->Option (List Int)
 |[]=>Z []
 | .int i::ds=>(va ds).map λis=>i::is
 |_=>Y
noncomputable def ddI(ns:List Int):List Int:=ns.foldl step_dedup []
theorem xl{K:Fg1}{H:Hp}{mu:List cH}:∀{ds:List D} {vs:List V} {us:List cF} {ns:List Int},db K H mu ds vs->dF vs us->va ds=Z ns->IntsAre us ns/\ns.length=ds.length:=by
 intro ds vs us ns b a h
 induction b using db.ind generalizing us ns with
 |hn=>cases h;cases a;exact⟨.nil,O⟩
 | @hc d v ds vs r t ih=>
  cases d with
  |int i=>
   obtain⟨c,e,h⟩:=oM1.mp h;cases h;cases r;cases a with
   |cons r a=>
    obtain⟨g,f⟩:=ih a e;obtain⟨tk,rfl⟩:=r;exact⟨.cons _ _ g,by rw[lC1,lC1,f]⟩
  |_=>cases h
@[elab_as_elim] theorem Kz {P:List cF->Prop}{us:List cF}(l:us.length=0)(f:P []):P us:=by
 cases us with
 |nil=>exact f
 |cons _ _=>cases l
@[elab_as_elim] theorem Kx {P:List cF->Prop}{us:List cF}(l:us.length=1)(f:∀a,P [a]):P us:=by
 cases us with
 |nil=>cases l
 |cons a us=>exact Kz (P:=λus=>P (a::us)) (Nat.succ.inj l) (f a)
@[elab_as_elim] theorem Kw {P:List cF->Prop}{us:List cF}(l:us.length=2)(f:∀a b,P [a,b]):P us:=by
 cases us with
 |nil=>cases l
 |cons a us=>exact Kx (P:=λus=>P (a::us)) (Nat.succ.inj l) (f a)
@[elab_as_elim] theorem Kv {P:List cF->Prop}{us:List cF}(l:us.length=3)(f:∀a b c,P [a,b,c]):P us:=by
 cases us with
 |nil=>cases l
 |cons a us=>exact Kw (P:=λus=>P (a::us)) (Nat.succ.inj l) (f a)
@[elab_as_elim] theorem Ku {P:List cF->Prop}{us:List cF}(l:us.length=4)(f:∀a b c d,P [a,b,c,d]):P us:=by
 cases us with
 |nil=>cases l
 |cons a us=>exact Kv (P:=λus=>P (a::us)) (Nat.succ.inj l) (f a)
@[elab_as_elim] theorem Le {P:List cF->Prop}{us:List cF}(l:us.length=5)(f:∀a b c d e,P [a,b,c,d,e]):P us:=by
 cases us with
 |nil=>cases l
 |cons a us=>exact Ku (P:=λus=>P (a::us)) (Nat.succ.inj l) (f a)
end Mi
namespace HT
open PySem PySem.Spec PyProof.Rows
variable{prog:cI}{w:cK}{A:cJ}{E:cF->cG->Prop}{s:cG}
end HT
namespace Mi
open PySem PySem.Spec PyProof.Rows L2
section
variable{X:Cx}
end
end Mi
namespace HT
open PySem PySem.Spec PyProof.Rows
section
variable{prog:cI}{w:cK}{A:cJ}{R:Result->cG->Prop}{I ax L:cH}{xs:Array cF}
end
section
variable{prog:cI}{w:cK}{A:cJ}{E:cF->cG->Prop}{s:cG}
end
end HT
namespace Mi
open PySem PySem.Spec PyProof.Rows L2
variable{X:Cx}
section
variable{elt tg iter tg2 iter2 tg3 iter3:Expr}{ifs ifs2 ifs3:List Expr}{scope:cU}{pos:Pos}
end
noncomputable def xn(a:Int):List Int->List Int
 |[]=>[a]
 |b::l=>if a<=b then a::b::l else b::xn a l
def hI:List Int->List Int
 |[]=>[]
 |a::l=>xn a (hI l)
theorem lw(a:Int):∀l:List Int,(xn a l).Perm (a::l)
 |[]=>.refl _
 |b::l=>by
  rw[xn];split
  ·exact .refl _
  ·exact((lw a l).cons b).trans (.swap _ _ _)
theorem fi:∀l:List Int,(hI l).Perm l
 |[]=>.refl _
 |a::l=>(lw a _).trans ((fi l).cons a)
theorem wg{a:Int}:∀{l:List Int},l.Pairwise (· <= ·)->(xn a l).Pairwise (· <= ·)
 |[],_=>List.pairwise_singleton _ _
 |b::l,h=>by
  rw[bW]at h;rw[xn];split
  ·rename_i d;rw [bW,bW];exact ⟨fun x c=>by
    rcases aD.mp c with z|z
    ·lia
    ·have:=h.1 x z;lia,h.1,h.2⟩
  ·rename_i d;rw[bW];refine⟨λx c=>?_,wg h.2⟩;rcases aD.mp ((lw a l).mem_iff.mp c)with z|z
   ·lia
   ·exact h.1 x z
theorem nj:∀l:List Int,(hI l).Pairwise (· <= ·)
 |[]=>.nil
 |a::l=>wg (nj l)
theorem qk:∀{a b:List Int},a.Perm b->a.Pairwise (· <= ·)->b.Pairwise (· <= ·)->a=b
 |[],b,p,_,_=>(List.nil_perm.mp p).symm
 |x::a,[],p,_,_=>absurd p.length_eq (by simp)
 |x::a,y::b,p,h1,h2=>by
  rw[bW]at h1 h2;have e:x=y:=by
   have f:=p.mem_iff.mp (mS1 (a:=x) (l:=a));have d:=p.mem_iff.mpr (mS1 (a:=y) (l:=b));rcases aD.mp f with z|z
   ·exact z
   ·rcases aD.mp d with c|c
    ·exact c.symm
    ·have:=h2.1 x z;have:=h1.1 y c;lia
  subst e;rw[qk (List.perm_cons x |>.mp p) h1.2 h2.2]
noncomputable def kJ:List D->Option (List Int)
 |[]=>Z []
 | .int i::l=>(kJ l).map λt=>i::t
 |_=>Y
def jl:G1:=λd S=>match d with
 | .ref n=>match S[n]? with
  |some (.lst xs)=>(kJ xs).bind λns=>if ns.length<64 then Z (.ref S.length,S++[.lst ((hI ns).map D.int)])else Y
  |_=>Y
 |_=>Y
theorem px{K:Fg1}{H:Hp}{mu:List cH}:∀{ds:List D} {vs:List V} {us:List cF} {ns:List Int},db K H mu ds vs->dF vs us->kJ ds=Z ns->IntsAre us ns:=by
 intro ds
 induction ds with
 |nil=>intro vs us ns r v h;cases r;cases v;cases h;exact .nil
 |cons d ds ih=>
  intro vs us ns r v h;cases r with
  |cons b t=>
   cases v with
   |cons c a=>
    cases b
    case int i=>
     obtain⟨m,e,h⟩:=oM1.mp h;subst h;obtain⟨tk,rfl⟩:=c;exact .cons i tk (ih t a e)
    all_goals cases h
theorem pz:∀{us:List cF} {ns:List Int},IntsAre us ns->dF (ns.map V.int) us:=by
 intro us ns h
 induction h with
 |nil=>exact .nil
 |cons i t _ ih=>exact .cons ⟨t,O⟩ ih
theorem xm:∀{ds:List D} {ns:List Int},kJ ds=Z ns->ns.length=ds.length:=by
 intro ds
 induction ds with
 |nil=>intro ns h;cases h;rfl
 |cons d ds ih=>
  intro ns h;cases d with
  |int i=>
   obtain⟨m,e,h⟩:=oM1.mp h;subst h;rw[lC1,lC1,ih e]
  |_=>cases h
theorem tW:eh X (.builtin "sorted") (rN X.K (b1 jl)):=by
 intro ag s σ H xs K Q I r h;obtain⟨x,mu,S,d,E,G,rfl,A,j,c,hc⟩:=yS h;cases d with
 |ref n=>
  dsimp only[jl]at c;split at c
  ·rename_i ds C;obtain⟨ns,y,c⟩:=oB1.mp c;split at c
   ·rename_i am;cases c;have e:dw S (.ref n)=Z (M,ds):=by simp only[dw,C]
    obtain⟨a,vs,rfl,q,t⟩:=dh A j e;obtain⟨u,rfl,r2⟩:=gL r;cases r2;obtain⟨f,v,D,F⟩:=I.list q;have B:=px t v y;have w:f.length=ns.length:=by
     rw[<- v.length,<- t.length,xm y]
    refine sorted_ints D.isList B (by lia) λout l k z p=>?_;have i:l=hI ns:=qk (z.trans (fi ns).symm) p (nj ns);subst i;obtain⟨ep,m⟩:=sortedAll_at s.heap f out;have g:=I.hok.fresh (aU s.heap.objs.size);refine⟨.ref (s.heap.objs.size+1),_,I.laid (t':=s.toks) (o:=.lst ((hI ns).map V.int)) (λb L q=>sortedAll_old q) (aU _) ?_,O,hc _ _ (mu++[_]) (Ext.new_ g) (.ref (gb j.len _)) (j.newL (jg _) g)⟩;refine⟨?_,out.toList,ep,pz k,by rw[bX];exact m⟩;rw[lM1,(fi ns).length_eq,sizeLine_eq];lia
   ·cases c
  ·cases c
 |_=>cases c
theorem k7(n:Nat):∀ns:List Int,D.unds n (ns.map D.int)=M
 |[]=>rfl
 |_::ns=>by rw[mP1,D.unds,k7 n ns];rfl
theorem CT{n:Nat}{d:D}{S:cZ}(h:S.length=n):gc n (d,S)=(d,S):=by
 unfold gc;split
 ·rw[show(d,S).2=S from rfl,<- h,bS]
 ·rfl
theorem xE{n:Nat}{f:FN}{ds:List D}{S S1:cZ}{d:D}(h:f ds []=Z (d,S1))(hn:ds.length=n)(a:D.unds 0 ds=M)(hd:d.und 0=M):cY n f ds S=Z (d,S):=by
 unfold cY pJ;rw[ak hn,ak a,h,oP1,ak hd]
theorem kW{n:Nat}{f:FN}{ds:List D}{S S1:cZ}{d:D}(h:f ds []=Z (d,S1))(hn:ds.length=n)(a:D.unds 0 ds=M)(hd:d.und 0=J):cY n f ds S=Z (d.sh S.length,S++S1.map (Ob.sh S.length)):=by
 unfold cY pJ;rw[ak hn,ak a,h,oP1,aj (by dsimp only;rw[hd];decide)]
theorem pH{n:Nat}{f:FN}{ds:List D}{S S1:cZ}{d:D}(h:f ds S=Z (d,S1))(hn:ds.length=n)(a:D.unds 0 ds=J):cY n f ds S=Z (gc S.length (d,S1)):=by
 unfold cY pJ;rw[ak hn,aj (by rw[a];decide),h,oP1]
theorem xH{n:Nat}{f:FN}{ds:List D}{S S1:cZ}{d:D}(h:f ds S=Z (d,S1))(hn:ds.length=n)(a:D.unds 0 ds=J)(b:S1.length=S.length):cY n f ds S=Z (d,S1):=by
 rw[pH h hn a,CT b]
theorem ph{i j:Int}(h1: -(2^64)<i)(h2:i<2^64):ef i j=M:=by
 unfold ef;simp only[Bool.or_eq_true,bA1,al];exact .inl (.inl ⟨h1,h2⟩)
theorem sU{i j:Int}(h1: -(2^64)<j)(h2:j<2^64):ef i j=M:=by
 unfold ef;simp only[Bool.or_eq_true,bA1,al];exact .inl (.inr ⟨h1,h2⟩)
theorem fO{S:cZ}{n:Nat}{xs:List D}(h:S[n]?=Z (.lst xs)):pc S [(n,xs)]=M:=by
 rw[pc,h];simp[D.sames_refl,pc]
noncomputable def gY(n:Nat):Nat->List D
 |0=>[]
 |k+1=>.ref n::gY (n+1) k
open Classical in
noncomputable def Kq(ws:List cF)(x:cF):Nat:=ws.findIdx λy=>decide (y=x)
def kR(ws:List cF)(xs:Array Keyed)(i:Nat):Nat:=(xs[i]?.map λp=>Kq ws p.1).getD 0
def Up(ws:List cF)(xs:Array Keyed)(k:Nat):Prop:=∀i j,i<j->j<k->kR ws xs i<kR ws xs j
section
variable{prog:cI}{w:cK}{A:cJ}{E:cF->cG->Prop}{s:cG}{κ:SortKind}{ws:List cF}{a₀:Array Keyed}
end
section
variable{prog:cI}{w:cK}{A:cJ}{E:cF->cG->Prop}{s:cG}
end
section
variable{prog:cI}{w:cK}{A:cJ}{E:cF->cG->Prop}{R:Result->cG->Prop}
end
section
variable{prog:cI}{w:cK}{A:cJ}{E:cF->cG->Prop}{s:cG}
end
mutual
theorem ym{n:Nat}:∀k:TK,(tkD k).und n=M
 | .non=>rfl
 | .int _=>rfl
 | .tup xs=>by rw[tkD,D.und];exact vH xs
theorem vH{n:Nat}:∀ks:List TK,D.unds n (j9 ks)=M
 |[]=>rfl
 |k::ks=>by rw[j9,D.unds,ym k,vH ks];rfl
end
structure Pr where
 k:TK
 d:D
 ka:cH
 u:cF
 vv:V
 a:cH
def Pr.Ok(K:Fg1)(H:Hp)(mu:List cH)(h:cR)(lo:Nat)(y:Pr):Prop:=lo<=y.a/\d9 K H mu (tkD y.k) (.ref y.ka)/\dn y.vv y.u/\d9 K H mu y.d y.vv/\h.get? y.a=Z {cls:=.type "tuple",data:=.seq #[.ref y.ka,y.u]}
abbrev xT(h:cR)(it d:cH)(i n ep:Nat):Prop:=h.get? it=Z {cls:=.type "dict_keyiterator",dict:=Y,data:=.fields #[.ref d,.int i 0,.int n 0,.int ep 0],slots:= #[]}
section
variable{prog:cI}{w:cK}{A:cJ}{E:cF->cG->Prop}{s:cG}
theorem CD{it d:cH}{i ep:Nat}{es:Array DictEntry}{o:Obj}{Q:Option cF->cG->Prop}(f:xT s.heap it d i es.size ep)(hd:s.heap.get? d=Z o)(j:o.data = .dict es ep)(hi:i<es.size)(q:∀h',xT h' it d (i+1) es.size ep->Heap.SameBut it s.heap h'->Q (Z es[i].key) {s with heap:=h'}):cP (model prog w) A (pyNext (.ref it)) Q E s:=by
 have h:s.TypeIs (.ref it) "dict_keyiterator":=⟨_,f,O⟩;unfold pyNext;refine wB1 (wpAny_attempt (wpAny_callSpecial?_slot (name:=Str.ofString "__next__") h PySem.F.slot_dict_keyiterator_next
  (wE1 PySem.F.slot_dict_keyiterator_next h PySem.F.entry_dict_keyiterator_next ?_ (PySem.F.args_dict_keyiterator_next_1 _))))
 refine wB1 (wP1 (wB1 (wB1 (wB1 (wpAny_typeNameOfWhole_keyiter h (wP1 ?_))))));refine wB1 (wpAny_fieldsOf f O ?_);have k:Builtin.Dict_items.ownsTuple "dict_keyiterator"=J:=by decide
 simp only[k,bF1,if_false];show cP _ _ (if(Value.ref d == Value.none)=M then _ else _) _ _ s;rw[aj (show¬ ((Value.ref d == Value.none)=M)from aI)];refine wB1 (wP1 (wB1 (wpAny_dictEntries hd j ?_)));rw[aj (by simp)];refine wB1 (wP1 (wB1 (wpAny_dictEpoch hd j ?_)));rw[aj (by simp)];refine wP1 ?_;simp only[show¬ ((i:Int)<0)from by lia,if_false,Int.toNat_natCast,aG1 hi];refine wB1 (wB1 (wpAny_typeNameOfWhole_keyiter h (wP1 ?_)));refine wB1 (wpAny_isOneOf_keyiter h ?_);show cP _ _ (setField (.ref it) 1 (rawInt ((i:Int)+1)) >>= _) _ _ s;refine wB1 (wS1 f (by simp) λb a c=>?_);replace a:xT b it d (i+1) es.size ep:=by
  have e:((i+1:Nat):Int)=(i:Int)+1:=by lia
  unfold xT;rw[e];simpa[rawInt]using a
 have g:Shared.TypeIs {s with heap:=b} (.ref it) "dict_keyiterator":=⟨_,a,O⟩;refine wB1 (wpAny_holding (wB1 (wpAny_isOneOf_keyiter g ?_)));show cP _ _ (pure es[i].key) _ _ _;exact wP1 (wP1 ⟨_,O,wP1 (q b a c)⟩)
theorem F2{it d:cH}{i ep:Nat}{es:Array DictEntry}{o:Obj}{Q:Option cF->cG->Prop}(n:A.handled=Y)(f:xT s.heap it d i es.size ep)(hd:s.heap.get? d=Z o)(g:o.data = .dict es ep)(hi:es.size<=i)(q:∀h',(∀b o,b≠it->s.heap.get? b=Z o->h'.get? b=Z o)->Q Y {s with heap:=h'}):cP (model prog w) A (pyNext (.ref it)) Q E s:=by
 have j:s.TypeIs (.ref it) "dict_keyiterator":=⟨_,f,O⟩;unfold pyNext;refine wB1 (wpAny_attempt (wpAny_callSpecial?_slot (name:=Str.ofString "__next__") j PySem.F.slot_dict_keyiterator_next
  (wE1 PySem.F.slot_dict_keyiterator_next j PySem.F.entry_dict_keyiterator_next ?_ (PySem.F.args_dict_keyiterator_next_1 _))))
 refine wB1 (wP1 (wB1 (wB1 (wB1 (wpAny_typeNameOfWhole_keyiter j (wP1 ?_))))));refine wB1 (wpAny_fieldsOf f O ?_);have h:Builtin.Dict_items.ownsTuple "dict_keyiterator"=J:=by decide
 simp only[h,bF1,if_false];show cP _ _ (if(Value.ref d == Value.none)=M then _ else _) _ _ s;rw[aj (show¬ ((Value.ref d == Value.none)=M)from aI)];refine wB1 (wP1 (wB1 (wpAny_dictEntries hd g ?_)));rw[aj (by simp)];refine wB1 (wP1 (wB1 (wpAny_dictEpoch hd g ?_)));rw[aj (by simp)];refine wP1 ?_;simp only[show¬ ((i:Int)<0)from by lia,if_false,Int.toNat_natCast,bY hi];refine wB1 (wB1 (wpAny_typeNameOfWhole_keyiter j (wP1 ?_)));show cP _ _ (setField (.ref it) 0 .none >>= _) _ _ s;refine wB1 (wS1 f (by simp) λl k c=>?_);show cP _ _ (newExc (.type "StopIteration") [] >>= _) _ _ _;refine wB1 ?_;simp only[newExc,newTuple];refine wB1 (wO1 ?_ (by size_fits));refine wB1 (m:=firstArgMember _ _) (wpAny_of_eq (a:=Value.none) (by first|rfl|(simp only[firstArgMember];rfl)) ?_);refine wO1 ?_ (by size_fits);simp only[raiseNew];refine wB1 (wpAny_handled ?_);rw[show A.in1.handled=Y from n];refine wB1 (wP1 (wpAny_throw ?_));refine wB1 (wpAny_isInstance (T:="StopIteration") (b:=M) ⟨_,hS1 _ O,O⟩ isSubtype_stop ?_);exact wP1 (q _ λb o p e=>hP1 _ (hP1 _ (c.extBut b o p e)))
theorem CF {d:cH}{es:Array DictEntry}{ep:Nat}{o:Obj}{Q:cF->cG->Prop}(hm:(d == sysModules)=false)(hd:s.heap.get? d=some o)(hc:o.cls = .type "dict")(a:o.data = .dict es ep)(hn:es.size<=cO)
  (q:Q (.ref s.heap.objs.size) {s with heap:=s.heap.push {cls:=.type "dict_keyiterator",data:=.fields #[.ref d,.int 0 0,.int es.size 0,.int ep 0]}}):cP (model prog w) A (pyIter (.ref d)) Q E s:=by
 have b:s.TypeIs (.ref d) "dict":=⟨o,hd,hc⟩;refine wpAny_pyIter_slot b PySem.F.slot_dict_iter (wE1 PySem.F.slot_dict_iter b PySem.F.entry_dict_iter ?_ (PySem.F.args_dict_iter_1 _));unfold Builtin.«dict.__iter__»;refine wB1 ?_;unfold Builtin.Dict.dictSlotNone;refine wB1 (wpAny_notOrdered_dict b ?_);show cP _ _ (pure (Value.ref d)) _ _ s;refine wP1 ?_;show cP _ _ (Builtin.Dict.showsAll d >>= _) _ _ s;unfold Builtin.Dict.showsAll;rw[aj (by rw[hm];exact aI)];refine wB1 (wP1 (wB1 (wpAny_dictEntries hd a (wB1 (wpAny_dictEpoch hd a (wB1 ?_))))));refine wO1 (wP1 ⟨_,O,"dict_keyiterator",_,⟨_,hS1 _ O,O⟩,PySem.F.slot_dict_keyiterator_next.lookup,?_⟩);simpa[rawInt]using q
end
section
variable{prog:cI}{w:cK}{A:cJ}{E:cF->cG->Prop}{R:Result->cG->Prop}
end
theorem KT.keys{K:Fg1}{H:Hp}{mu:List cH}:∀{ks:List (TK×D)} {ws:List (TK×cH×cF)},KT K H mu ks ws->db K H mu (ks.map λp=>tkD p.1) (ws.map λx=>V.ref x.2.1)
 |_,_,.nil=>.nil
 |_,_,.cons ⟨z,d,k,_⟩ t=>.cons k (KT.keys t)
def NF(X:Cx)(a:cH):Prop:=(∀xs,X.H₀ a≠Z (.tup xs))/\(∀o v,X.H₀ a≠Z (.frz o v)) /\ ∀ps,X.H₀ a≠Z (.tbl ps)
section
variable{ag:List (cH×Obj)}{σ:L2.St}{H:Hp}{s:cG}{a:cH}{u v:HO}
theorem tt(I:Inv X ag σ H s)(e:H a=Z u)(d:NF X a)(h1:∀c,u ≠ .own c)(h2:∀xs,u ≠ .tup xs)(new:dZ X.prog X.w H s.heap a v):Inv X ag σ (upd H a v) s:=by
 have ne:∀{b:cH},H b=Y->b≠a:=λ{b} z=>by rintro rfl;rw[e]at z;cases z
 have h:∀b c,H b=Z (.own c)->upd H a v b=Z (.own c):=λb c z=>by
  rw[c5 (by rintro rfl;rw[e]at z;cases z;exact h1 _ O)];exact z
 have f:∀b xs,H b=Z (.tup xs)->upd H a v b=Z (.tup xs):=λb xs z=>by
  rw[c5 (by rintro rfl;rw[e]at z;cases z;exact h2 _ O)];exact z
 refine⟨I.ok,I.os,I.bare,⟨I.base.keep,I.base.slot,λb o q n l=>?_,I.base.there,λb xs q=>?_,λb o w q=>?_,λb ps q=>?_⟩,I.loc,I.cell,?_,λx c q=>?_,λp i=>?_,λb w q=>?_,I.len⟩
 ·have z:=I.base.free b o q n l;rw[c5 (ne z)];exact z
 ·rw[c5 (by rintro rfl;exact d.1 _ q)];exact I.base.tups b xs q
 ·rw[c5 (by rintro rfl;exact d.2.1 _ _ q)];exact I.base.frzs b o w q
 ·rw[c5 (by rintro rfl;exact d.2.2 _ q)];exact I.base.tbls b ps q
 ·rw[c5 (ne I.free)];exact I.free
 ·rw[c5 (ne (I.freeC x c q))];exact I.freeC x c q
 ·obtain⟨j,p2,k⟩:=I.pin p i;exact⟨j,by rw[c5 (ne p2)];exact p2,k⟩
 ·by_cases g:b=a
  ·subst g;rw[di]at q;cases q;exact new.stay (λc o _ z=>z) (λc z=>h c _ z) λc xs z=>f c xs z
  ·rw[c5 g]at q;exact(I.hok b w q).stay (λc o _ z=>z) (λc z=>h c _ z) λc xs z=>f c xs z
end
inductive xU (a:cH):List (TK×cH×cF)->HO->Prop
 |ext (xs:List (TK×cH×cF)):xU a xs (.ext (d5 a xs))
 |dK:xU a [] (.dK [])
noncomputable def ItD(a:cH)(o:Obj)(xs:List (TK×cH×cF)):It:=
 ⟨λi H=>(∃u,H a=Z (.frz o u))/\i<xs.length,λi H x H'=>H'=H /\ ∃q,xs[i]?=Z q/\x = .ref q.2.1,λi H=>(∃u,H a=Z (.frz o u))/\xs.length<=i⟩
theorem wR{P:cI}{w:cK}{K:Fg1}{tg:Expr}{a it:cH}{o:Obj}{xs:List (TK×cH×cF)}{es:Array DictEntry}{ep:Nat}(hd:o.data = .dict es ep)(c:es.toList=xs.map fun x=>(⟨x.1.hash,.ref x.2.1,x.2.2⟩:DictEntry)):
  rP P w K tg (ItD a o xs) [it] it (λi h=>xT h it a i es.size ep) where
 mem:=by simp
 obj:=λi h st b d=>by
  have e:b=it:=by simpa using d
  subst e;exact⟨_,st,λv z=>by cases z⟩
 keep:=λi h h' st k=>k it (by simp) _ st
 item:=by
  intro X p B A hc i ag s σ H E I f st g;subst p B A;obtain⟨⟨u,t⟩,hi⟩:=g;obtain⟨l,_⟩:=(show dZ X.prog X.w H s.heap a (.frz o u)from I.hok a _ t);have n:es.size=xs.length:=by rw[<- aH,c,lM1]
  obtain⟨y,m,F,j,q,r⟩:=f it (by simp);refine CD st l hd (by omega) λh' st' am=>?_;have D:Inv X ag σ H {s with heap:=h'}:=I.turned (t':=s.toks) (λb o d e=>(am.2 b d).trans e) y m j q r;have C:es[i].key = .ref (xs[i]).2.1:=by
   have:es.toList[i]?=(xs.map λx=>(⟨x.1.hash,.ref x.2.1,x.2.2⟩:DictEntry))[i]?:=by rw[c]
   rw[aT1,aG1 (by omega),gP1,gG1 hi]at this;have:=Option.some.inj this;rw[this]
  refine⟨_,O,wl (s:={s with heap:=h'}) st' O O (by decide) ⟨.ref (xs[i]).2.1,H,D,C,⟨O,_,gG1 hi,O⟩,st',λb d=>(f b d).1⟩⟩
 done:=by
  intro X p B A hc i ag s σ H E I f st g;subst p B A;obtain⟨⟨u,t⟩,hi⟩:=g;obtain⟨l,_⟩:=(show dZ X.prog X.w H s.heap a (.frz o u)from I.hok a _ t);have n:es.size=xs.length:=by rw[<- aH,c,lM1]
  obtain⟨y,m,F,j,q,r⟩:=f it (by simp);exact F2 (I.ok.hd hc) st l hd (by omega) λh' G=>⟨O,I.turned (t':=s.toks) (λb o d e=>G b o d e) y m j q r⟩
 self:=λ_ _ _ _ _ st h=>wpAny_pyIter_keyiter ⟨_,st,O,O⟩ h
def Ig(X:Cx)(tl:TE):TI:=fun σ H R=>tl σ H λx H1=>∃a xs u,x = .ref a/\H1 a=Z u/\xU a xs u/\xs.length<=cO /\ ∀o,wC a xs o->NF X a->R (ItD a o xs) (upd H1 a (.frz o u))
theorem Gg{X:Cx}{ag:List (cH×Obj)}{σ:L2.St}{H:Hp}{s:cG}{a:cH}{u:HO}{xs:List (TK×cH×cF)}(I:Inv X ag σ H s)(e:H a=Z u)(h:xU a xs u):∃o,s.heap.get? a=Z o/\wC a xs o:=by
 cases h with
 |ext xs=>
  obtain⟨⟨h1,h2,o,es,ep,b,f,c,d⟩,_⟩:=(show dZ X.prog X.w H s.heap a (.ext (d5 a xs))from I.hok a _ e);exact⟨o,b,h1,h2,f,es,ep,c,d⟩
 |dK=>
  obtain⟨_,h1,vs,h2,b⟩:=(show dZ X.prog X.w H s.heap a (.dK [])from I.hok a _ e);cases h2;obtain⟨o,es,ep,b,f,c,d,_⟩:=tI b;exact⟨o,b,h1,bj,f,es,ep,c,d⟩
theorem Gf{X:Cx}{ag:List (cH×Obj)}{σ:L2.St}{H:Hp}{s:cG}{a:cH}{u:HO}{xs:List (TK×cH×cF)}(I:Inv X ag σ H s)(e:H a=Z u)(h:xU a xs u):NF X a:=by
 refine⟨λys q=>?_,λo v q=>?_,λps q=>?_⟩
 ·have:=I.base.tups a ys q;rw[e]at this;cases this;cases h
 ·have:=I.base.frzs a o v q;rw[e]at this;cases this;cases h
 ·obtain⟨m,z⟩:=I.base.tbls a ps q;rw[e]at z;cases z;cases h
theorem EM{X:Cx}{tg l:Expr}{tl:TE}(t:PE X l tl):PI X tg l (Ig X tl):=by
 intro ag s σ H R I h;refine eu (t ag s σ H _ I h) λv s1 ⟨x,H1,d,B,C⟩=>?_;obtain⟨a,xs,u,e,g,f,E,q⟩:=C;subst e;cases B;obtain⟨o,p,j⟩:=Gg d g f;have n:=Gf d g f;have q:=q o j n;obtain⟨A,D,w,es,ep,k,i⟩:=j;have r:es.size=xs.length:=by rw[<- aH,i,lM1]
 refine CF A p w.1 k (by lia) ?_;have m:Inv X ag σ (upd H1 a (.frz o u)) s1:=tt d g n (λc z=>by subst z;cases f) (λc z=>by subst z;cases f) ⟨p,d.hok a _ g⟩;refine⟨s1.heap.objs.size,[s1.heap.objs.size],_,_,_,O,m.kept (t':=s1.toks) λb o e=>hP1 _ e,wR k i,hS1 _ O,λb y=>?_,q⟩;have e:b=s1.heap.objs.size:=by simpa using y
 subst e;exact d.fpOk (nR1 _) (m.hok.fresh (nR1 _))
noncomputable def DG:Ob->Option (List (TK×D))
 | .dcT kvs=>Z kvs
 | .dct []=>Z []
 |_=>Y
def rv(k:Nat)(keep:List Nat)(m:FE)(g:FG)(t:FT)(b:FV):FE:=λr S=>(m r S).bind λp=>match p.1 with
 | .ref n=>(p.2[n]?).bind fun ob=>(DG ob).bind fun kvs=>(en [] g t b (kvs.map fun q=>tkD q.1) (kK k keep r) (p.2.set n (.dcF kvs))).bind fun q=>
   if q.1.length<=cO then Z (.ref q.2.2.length,q.2.2.set n ob++[.lst q.1])else Y
 |_=>Y
section
variable{K:Fg1}{H H':Hp}{mu mu':List cH}{S:cZ}{n:Nat}{a:cH}{o:Obj}{u:HO}
theorem ObR.exv{b:cH}(e:x0 mu mu' H H')(h:∀o,H b=Z o->H' b=Z o):∀{o:Ob},ObR K H mu b o->ObR K H' mu' b o
 | .lst _,⟨vs,q,r⟩=>⟨vs,h _ q,r.exv e⟩
 | .dct _,⟨ws,q,r⟩=>⟨ws,h _ q,Paired.mapP r λ_ _ z=>⟨z.1,z.2.exv e⟩⟩
 | .dcT _,⟨ws,q,r,l⟩=>⟨ws,h _ q,Paired.mapP r λ_ _ ⟨z,d,k,v,a,r⟩=>⟨z,d,k.exv e,v,a,r.exv e⟩,l⟩
 | .iset _,q=>⟨h _ q.1,q.2⟩
 | .dcF _,⟨ws,⟨o,u,f,c⟩,r,l⟩=>⟨ws,⟨o,u,h _ f,c⟩,Paired.mapP r λ_ _ ⟨z,d,k,v,a,r⟩=>⟨z,d,k.exv e,v,a,r.exv e⟩,l⟩
 | .tst _,⟨ws,q,r⟩=>⟨ws,h _ q,Paired.mapP r λ_ _ ⟨z,d,k,v,a,r⟩=>⟨z,d,k.exv e,v,a,r.exv e⟩⟩
theorem si(e:H a=Z (.frz o u))(h1:∀xs,u ≠ .tup xs)(h2:∀xs,u ≠ .lst xs):x0 mu mu H (upd H a u) where
 pre:=bi
 tup:=λb xs h=>by
  have ne:b≠a:=by
   rintro rfl;rcases h with h|⟨_,h⟩<;>(rw[e]at h;cases h)
   exact h1 _ O
  rcases h with h|⟨c,h⟩
  ·exact .inl (by rw[c5 ne];exact h)
  ·exact .inr ⟨c,by rw[c5 ne];exact h⟩
 frl:=λb c xs h=>by
  rw[c5 (by rintro rfl;rw[e]at h;cases h;exact h2 _ O)];exact h
theorem Sim.thaw(s:Sim K H mu S){d:Ob}(hn:mu[n]?=Z a)(x:x0 mu mu H (upd H a u))(ho:ObR K (upd H a u) mu a d):Sim K (upd H a u) mu (S.set n d):=by
 refine⟨by rw[aS];exact s.len,s.nd,λk o' b h1 h2=>?_⟩;by_cases c:n=k
 ·subst c;have f:n<S.length:=by
   have:=(gE1.mp h1).1
   rwa [aS]at this
  rw[aG f]at h1;cases h1;rw[hn]at h2;cases h2;exact ho
 ·rw [gS1 c] at h1;have ne:b≠a:=fun e=>by
   subst e;obtain⟨i,g⟩:=gE1.mp hn;obtain⟨j,h⟩:=gE1.mp h2;exact c ((List.getElem_inj s.nd).mp (g.trans h.symm))
  exact(s.ob k o' b h1 h2).exv x λd e=>by rw[c5 ne];exact e
theorem CL(s:Sim K H mu S){ob:Ob}{kvs:List (TK×D)}(h:S[n]? = some ob)(hk:DG ob=some kvs)(hn:mu[n]? = some a):
  ∃xs u,H a=Z u/\xU a xs u/\KT K H mu kvs xs/\xs.length<=cO /\ ∀H' mu',x0 mu mu' H H'->H' a=Z u->ObR K H' mu' a ob:=by
 cases ob with
 |dcT ks=>
  cases hk;obtain⟨xs,e,r,l⟩:=s.dcT h hn;exact⟨xs,_,e,.ext xs,r,l,λH' mu' x b=>⟨xs,b,Paired.mapP r λ_ _ ⟨z,d,k,v,c,r⟩=>⟨z,d,k.exv x,v,c,r.exv x⟩,l⟩⟩
 |dct ks=>
  cases ks with
  |nil=>
   cases hk;obtain⟨ws,e,r⟩:=s.dct h hn;cases r;exact⟨[],_,e,.dK,.nil,bf _,λH' mu' x b=>⟨[],b,.nil⟩⟩
  |cons _ _=>cases hk
 |_=>cases hk
end
theorem KT.keyOf{K:Fg1}{H:Hp}{mu:List cH}{ks:List (TK×D)}{ws:List (TK×cH×cF)}(h:KT K H mu ks ws){i:Nat}{d:D}(e:(ks.map λq=>tkD q.1)[i]?=Z d){q:TK×cH×cF}(c:ws[i]?=Z q):d9 K H mu d (.ref q.2.1):=by
 obtain⟨v,a,b⟩:=h.keys.get e;rw[gP1,c]at a;cases a;exact b
theorem AL{X:Cx}{K:Fg1}{k:Nat}{keep:List Nat}{m:FE}{g:FG}{t:FT}{b:FV}{tb:cH->TS}(hb:∀ a E σ H,Eg K a b E σ H->tb a E σ H){σ:L2.St}{H:Hp}{Q:VK}(h:tM K (rv k keep m g t b) σ H Q):
  vN k keep (Ig X (tM K m)) (xW K g) (ui K t) tb σ H (λv H'=>∃a o u,H' a=Z (.frz o u)/\(∀xs,u ≠ .tup xs)/\NF X a/\Q v (upd H' a u)):=by
 obtain⟨r,mu,S,d,S',he,hs,s,hc⟩:=h;obtain⟨⟨d1,S1⟩,e1,s⟩:=oB1.mp s;cases d1 with
 |ref n=>
  obtain⟨x,eo,s⟩:=oB1.mp s;obtain⟨kvs,ek,s⟩:=oB1.mp s;obtain⟨⟨ys,r2,I⟩,e2,s⟩:=oB1.mp s;dsimp only at s;split at s
  ·rename_i hl;cases s;refine⟨r,mu,S,.ref n,S1,he,hs,e1,λv H1 mu1 x1 r1 s1=>?_⟩;cases r1 with
   | @ref _ a D=>
   obtain⟨xs,u,P,A,B,hz,back⟩:=CL s1 eo ek D;refine⟨a,xs,u,O,P,A,hz,λo hO nf p f=>?_⟩;have mt:Mut (Z u):=by cases A<;>trivial
   have put:Ext mu1 mu1 H1 (upd H1 a (.frz o u)):=Ext.put P mt (gM1 D);have sf:Sim K (upd H1 a (.frz o u)) mu1 (S1.set n (.dcF kvs)):=s1.put D P mt ⟨xs,⟨o,u,di,hO⟩,KT.ext put B,hz⟩;have l:p≠a:=by rintro rfl;rw[di]at f;cases f
   have T:Ext mu1 mu1 (upd H1 a (.frz o u)) (upd (upd H1 a (.frz o u)) p (.lst [])):=Ext.fresh f;have hlen:kvs.length=xs.length:=by have:=B.keys.length;simpa using this
   have J1:ItR K (ItD a o xs) ⟨kvs.map λq=>tkD q.1,[]⟩ mu1 (upd H1 a (.frz o u)):=by
    intro i H2 mu2 I x2 s2 _;have hf:=x2.frz a o u di;refine⟨λd A=>?_,λh=>⟨⟨u,hf⟩,by rw[lM1]at h;lia⟩⟩;have hi:i<xs.length:=by have:=(gE1.mp A).1;rw[lM1]at this;lia
    refine⟨⟨⟨u,hf⟩,hi⟩,?_⟩;rintro y H3 ⟨rfl,q,eq,rfl⟩;exact⟨.refl _ _,s2,((KT.ext put B).keyOf A eq).exw x2⟩
   refine nO (hb p) J1 T.w di (sf.notin f) .nil ((Ai k keep (he.ext (x1.trans put))).ext T) (sf.fresh f) e2 (by simpa using hl) fun σ' H' mu' G L V U wq he' s'=>?_;have C:H' a=Z (.frz o u):=L.frz a o u (by rw[c5 l.symm];exact di);have h1:∀xs,u ≠ .tup xs:=λxs z=>by subst z;cases A
   have h2:∀xs,u ≠ .lst xs:=λxs z=>by subst z;cases A
   refine⟨a,o,u,C,h1,nf,?_⟩;have F:=(bR.mp L.pre).2;have na:mu'[n]?=Z a:=by
    obtain⟨t,rfl⟩:=F;rw[gL1 (gE1.mp D).1];exact D
   have ne1:∀{b:cH},H1 b=Y->b≠a:=λ{b} z=>by rintro rfl;rw[P]at z;cases z
   have y:Ext mu1 (mu'++[p]) H1 (upd H' a u):=by
    refine⟨F.trans (br _ _),λb w e nb=>?_,λb ys e=>?_,λb x w e=>?_,λb W=>?_⟩
    ·have R:b≠a:=λz=>nb (by rw[z];exact gM1 D);have bp:b≠p:=by rintro rfl;rw[c5 l,e]at f;cases f
     rw[c5 R];exact L.old b w (by rw[c5 bp,c5 R];exact e) λz=>by
      rcases aD.mp z with z|z
      ·exact bp z
      ·exact nb z
    ·exact(si (mu:=mu') C h1 h2).tup b ys (L.tup b ys (T.tup b ys (put.tup b ys e)))
    ·have R:b≠a:=by rintro rfl;rw[P]at e;cases e;cases A
     rw[c5 R];exact L.frz b x w (T.frz b x w (put.frz b x w e))
    ·rcases aE.mp W with z|z
     ·rcases L.new b (mC1 _ z)with q|q
      ·rcases aD.mp q with q|q
       ·exact .inr (by rw[q];rw[c5 l]at f;exact f)
       ·exact .inl q
      ·by_cases N:b=p
       ·exact .inr (by rw[N];rw[c5 l]at f;exact f)
       ·rw[c5 N]at q;by_cases au:b=a
        ·exact .inl (by rw[au];exact gM1 D)
        ·rw[c5 au]at q;exact .inr q
     ·have:b=p:=by simpa using z
      exact .inr (by rw[this];rw[c5 l]at f;exact f)
   have tx:=si (mu:=mu') C h1 h2;have am:Sim K (upd H' a u) mu' (I.set n x):=s'.thaw na tx (back _ _ ⟨F,y.tup,λb x w e=>y.frz b x _ e⟩ di);have ao:upd H' a u p=Z (.lst G):=by rw[c5 l];exact V
   refine hc _ _ (mu'++[p]) (x1.trans y) (by rw[show I.length=(I.set n x).length by simp];exact .ref (gb am.len p)) ⟨by rw[lA1,lA1,am.len];rfl,?_,λj w b h1 h2=>?_⟩
   ·rw[bu];refine⟨am.nd,by simp,λb hb c hc e=>?_⟩;have:c=p:=by simpa using hc
    subst this;subst e;exact U hb
   ·by_cases B:j<(I.set n x).length
    ·rw[gL1 B]at h1;rw[gL1 (by rw[am.len];exact B)]at h2;exact(am.ob j w b h1 h2).mor [p]
    ·have aq:j=(I.set n x).length:=by
      have:=(gE1.mp h1).1;rw[lA1]at this;simp at this B;simp;lia
     subst aq;rw[gR1 (nR1 _)]at h1;rw[<- am.len,gR1 (nR1 _)]at h2;simp at h1 h2;subst h1;subst h2;exact⟨G,ao,((by simpa using wq:db K H' mu' ys G).exv tx).mor [p]⟩
  ·cases s
 |_=>cases s
theorem wI{X:Cx}{elt tg iter:Expr}{ifs:List Expr}{scope:cU}{pos:Pos}{T:List Str}{keep:List Nat}{l:List (Str×cH)}{m:FE}{g:FG}{t:FT}{e:FE}(hc:X.calm=M)(C:Bb X scope T keep)(f:gI X.env.cells scope.names []=Z l)(hi:XE X iter m)(hb:∀s H b,Jf (cxC X scope l T keep s H b) X.K tg ifs elt g t e)(hs:autoParam (∀x,foldedSetIterable iter X.env x=pure x) du0):XE X (.ListComp elt [⟨tg,iter,ifs,0⟩] scope pos) (rv T.length keep m g t (dA e)):=by
 refine⟨λag s σ H Q I h=>?_⟩;have n:=qo (g:=xW X.K g) (ti:=ui X.K t) (emit:=l7 elt) (tb:=λp=>nh p (tM X.K e)) hc (λit d i=>uC elt tg iter ifs scope pos it d i) C f (EM (tg:=tg) hi.h) (λs H b p=>⟨(hb s H b).g.h,(hb s H b).t.h,kn (hb s H b).e.h p⟩) hs;refine wpAny_mono (n ag s σ H _ I (AL (λa E σ H q=>i6 q) h)) ?_ λ_ _ x=>x;rintro v y ⟨x,H2,j,r2,a,o,u,k,w,r,q⟩;exact⟨x,upd H2 a u,tt j k r (λc z=>by cases z) (λc z=>by cases z) (j.hok a _ k).2,r2,q⟩
theorem vy.lt{xs:Array Nat}(h:vy xs){a b u v:Nat}(e:a<b)(d:xs[a]?=Z u)(c:xs[b]?=Z v):u<v:=by
 rw[<- aT1]at d c;obtain⟨f,d⟩:=gE1.mp d;obtain⟨g,c⟩:=gE1.mp c;have:=List.pairwise_iff_getElem.mp h a b f g e;rw[d,c]at this;exact this
structure Bs (xs:Array Nat)(j i:Nat):Prop where
 le:i<=xs.size
 lo:∀k v,xs[k]?=some v->k<i->v<j
 hi:∀k v,xs[k]?=some v->i<=k->j<=v
theorem Bs.uniq{xs:Array Nat}{j i i':Nat}(h:Bs xs j i)(h':Bs xs j i'):i=i':=by
 rcases Nat.lt_trichotomy i i' with z|z|z
 ·have a:i<xs.size:=nL1 z h'.le;have e:=aG1 a;have:=h.hi _ _ e (nR1 _);have:=h'.lo _ _ e z;lia
 ·exact z
 ·have a:i'<xs.size:=nL1 z h.le;have e:=aG1 a;have:=h'.hi _ _ e (nR1 _);have:=h.lo _ _ e z;lia
theorem AT{xs:Array Nat}{j:Nat}(hr:vy xs):∀n lo hi:Nat,lo<=hi->hi<=xs.size->hi-lo<=n->(∀k v,xs[k]?=Z v->k<lo->v<j)->(∀k v,xs[k]?=Z v->hi<=k->j<=v)->Bs xs j (SetTable.below.go xs j n lo hi)
 |0,lo,hi,h1,h2,h,c,a=>by
  have:lo=hi:=by lia
  subst this;exact⟨h2,c,a⟩
 |n + 1,lo,hi,h1,h2,h,c,a=>by
  rw[SetTable.below.go];by_cases d:lo<hi
  ·rw[ak d];have f:(lo+hi)/2<xs.size:=by lia
   have b:=aG1 f;have i:xs.getD ((lo+hi)/2) j=xs[(lo+hi)/2]:=by simp[Array.getD,f]
   dsimp only;rw[i];by_cases hc:xs[(lo+hi)/2]<j
   ·rw[ak hc];refine AT hr n _ _ (by lia) h2 (by lia) (λk v e g=>?_) a;rcases bQ k ((lo+hi)/2)with z|z
    ·have:=hr.lt z e b;lia
    ·have:k=(lo+hi)/2:=by lia
     subst this;rw[b]at e;cases e;exact hc
   ·rw[aj hc];refine AT hr n _ _ (by lia) (by lia) (by lia) c λk v e g=>?_;rcases bQ ((lo+hi)/2) k with z|z
    ·have:=hr.lt z b e;lia
    ·have:k=(lo+hi)/2:=by lia
     subst this;rw[b]at e;cases e;lia
  ·rw[aj d];have:lo=hi:=by lia
   subst this;exact⟨h2,c,a⟩
theorem oo{xs:Array Nat}(hr:vy xs)(j:Nat):Bs xs j (SetTable.below xs j):=
 AT hr _ 0 _ (bf _) (nR1 _) (by lia) (λ_ _ _ h=>absurd h (bt _)) λk v e h=>by
  have:=(Array.getElem?_eq_some_iff.mp e).1;lia
theorem Ag{α:Type}(xs:Array α)(p:Nat)(x:α):(SetTable.insertAt xs p x).toList=xs.toList.take p++x::xs.toList.drop p:=by
 unfold SetTable.insertAt;rw[Array.toList_append,bZ,Array.toList_extract,Array.toList_extract];simp[List.extract_eq_drop_take];rw[b0 (by simp)]
theorem BE{xs:Array Nat}(hr:vy xs){j:Nat}(hn:xs[SetTable.below xs j]? ≠ Z j):vy (SetTable.insertAt xs (SetTable.below xs j) j):=by
 have b:=oo hr j;unfold vy;rw[Ag,b4,bW];have lo:∀v∈xs.toList.take (SetTable.below xs j),v<j:=λv g=>by
  obtain⟨k,d⟩:=bm g;rw[List.getElem?_take]at d;split at d
  ·rename_i h;exact b.lo k v (by rw[<- aT1];exact d) h
  ·cases d
 have hi:∀v∈xs.toList.drop (SetTable.below xs j),j<v:=λv g=>by
  obtain⟨k,d⟩:=bm g;rw[List.getElem?_drop,aT1]at d;have h1:=b.hi _ v d (bn _ _);rcases bQ j v with z|z
  ·exact z
  ·exfalso;have f:v=j:=by lia
   subst f;cases k with
   |zero=>exact hn d
   |succ k=>
    have l:SetTable.below xs v<xs.size:=by have:=(Array.getElem?_eq_some_iff.mp d).1;lia
    have e:=aG1 l;have:=b.hi _ _ e (nR1 _);have:=hr.lt (by lia) e d;lia
 refine⟨hr.sublist (aR _ _),⟨hi,hr.sublist (List.drop_sublist _ _)⟩,λa i c hc=>?_⟩;rcases aD.mp hc with z|z
 ·rw[z];exact lo a i
 ·exact bc (lo a i) (hi c z)
structure TS (l:Bool)(t:SetTable):Prop where
 up:vy t.place
 du:t.dummies = #[]
 ld:t.led=l
theorem sS{t:SetTable}(hd:t.dummies = #[])(j:Nat):SetTable.has t.dummies j=J:=by rw[hd];rfl
theorem oS{t:SetTable}(hd:t.dummies = #[]){f:Nat->Int}{h:Int}:∀(n:Nat) (p:SetTable.Probe) (j:Nat) (d:Option Nat),p.dummy=Y->SetTable.probe.go t f h n p=Z (.empty j d)->d=Y/\t.place[SetTable.below t.place j]? ≠ Z j
 |0,p,j,d,_,e=>by rw[SetTable.probe.go]at e;cases e
 |n+1,p,j,d,hp,e=>by
  have a:(t.advance p).dummy=Y:=by
   unfold SetTable.advance;split
   ·exact hp
   ·dsimp only;exact hp
  rw[SetTable.probe.go]at e;unfold SetTable.slot at e;dsimp only at e;rw[sS hd]at e;by_cases hc:(t.place[SetTable.below t.place p.j]? == Z p.j)=M
  ·rw[ak hc]at e;dsimp only at e;split at e
   ·cases e
   ·exact oS hd n _ j d a e
  ·rw[aj hc,aj (by decide)]at e;dsimp only at e;cases e;refine⟨hp,λz=>hc ?_⟩;rw[z];simp
theorem C2{t:SetTable}(hd:t.dummies = #[]){h:Int}{j:Nat}{b:Bool}(e:t.freeSlot h=Z (j,b)):t.place[SetTable.below t.place j]? ≠ Z j:=by
 unfold SetTable.freeSlot at e;split at e
 ·rename_i c d ep;obtain⟨rfl,a⟩:=oS hd _ _ _ _ O ep;cases e;exact a
 ·cases e
theorem j8{l:Bool}{t:SetTable}(h:TS l t)(n:Nat):TS l (t.standIn n):=by
 refine⟨?_,O,h.ld⟩;show(Array.range n).toList.Pairwise (· < ·);rw[Array.toList_range];exact b5
theorem GW{l:Bool}{t:SetTable}(h:TS l t)(n:Nat):TS l (t.orStandIn n):=by
 unfold SetTable.orStandIn;split
 ·exact h
 ·exact j8 h n
theorem Eb{l:Bool}{t:SetTable}(ht:TS l t)(es:Array (Int×cF))(h:Int)(x:cF):TS l (layNew t es h x).2.1:=by
 unfold layNew;split
 ·rename_i j b e;show TS l ((t.put j).1.orStandIn _);refine GW (t:=(t.put j).1) ⟨?_,?_,ht.ld⟩ _
  ·exact BE ht.up (C2 ht.du e)
  ·show(if SetTable.has t.dummies j=M then _ else t.dummies) = #[];rw[sS ht.du,aj (by decide)];exact ht.du
 ·exact j8 ht _
theorem rq{α:Type}(f:Nat->Option α):∀l:List Nat,((l.filterMap λj=>(f j).map (j,·)).map (·.1)).Sublist l
 |[]=>.slnil
 |a::l=>by
  rw[aC];cases f a with
  |none=>exact(rq f l).cons a
  |some x=>exact(rq f l).cons₂ a
theorem Bu{l p:Bool}{m d c:Nat}{hs:Array Int}{t:SetTable}{a:Array Nat}(e:SetTable.laid m d c l p hs=Z (t,a)):TS l t:=by
 unfold SetTable.laid at e;obtain⟨b,_,e⟩:=oB1.mp e;cases e;refine⟨?_,O,O⟩;unfold vy;dsimp only;exact List.pairwise_lt_range.sublist (by simpa using rq (λj=>b.getD j Y) (af (m+1)))
theorem yr{l:Bool}{t:SetTable}(ht:TS l t)(es:Array (Int×cF))(n:Nat):TS l (relayAll t es n).2.1:=by
 unfold relayAll;split
 ·rename_i b a e;dsimp only;split
  ·have:=Bu e;rw[ht.ld]at this;exact this
  ·exact j8 ht _
 ·exact j8 ht _
theorem yt(l:Bool):TS l (SetTable.fresh 0 0 l):=⟨List.Pairwise.nil,O,O⟩
theorem Dd{xs:Array Nat}(hr:vy xs){i:Nat}(hi:i<xs.size):SetTable.below xs (xs[i]+1)=i+1:=by
 refine(oo hr _).uniq ⟨hi,λk v e a=>?_,λk v e a=>?_⟩
 ·rcases bQ k i with z|z
  ·have:=hr.lt z e (aG1 hi);lia
  ·have:k=i:=by lia
   subst this;rw[aG1 hi]at e;cases e;lia
 ·have:=hr.lt (show i<k by lia) (aG1 hi) e;lia
theorem AS{xs:Array Nat}(hr:vy xs):SetTable.below xs 0=0:=
 (oo hr _).uniq ⟨bf _,λk v e a=>absurd a (bt _),λk v e a=>bf _⟩
noncomputable def JP(e:Int×cF):Int:=match e.2 with
 | .int k _=>k
 |_=>0
structure Els (es:Array (Int×cF))(ns:List Int):Prop where
 el:∀e∈es.toList,∃k t,e=(hashInt k,Value.int k t)
 pm:(es.toList.map JP).Perm ns
theorem Els.of{P:cI}{w:cK}{es:Array (Int×cF)}{ns:List Int}(h:Els es ns):ElemsOf (intKind P w) es.toList:=λe a=>by
 obtain⟨k,t,rfl⟩:=h.el e a;exact⟨⟨k,intKind_is _ _ _ _,O⟩,O⟩
theorem Els.size{es:Array (Int×cF)}{ns:List Int}(h:Els es ns):es.size=ns.length:=by
 have:=h.pm.length_eq;rw[lM1,aH]at this;exact this
theorem Els.perm{es fs:Array (Int×cF)}{ns:List Int}(h:Els es ns)(p:fs.toList.Perm es.toList):Els fs ns:=
 ⟨λe a=>h.el e (p.mem_iff.mp a),(p.map _).trans h.pm⟩
theorem Els.add{es fs:Array (Int×cF)}{ns:List Int}(h:Els es ns){k:Int}{t:Tok}(p:fs.toList.Perm (es.push (hashInt k,.int k t)).toList):Els fs (ns++[k]):=by
 rw[bZ]at p;refine⟨λe a=>?_,?_⟩
 ·rcases aE.mp (p.mem_iff.mp a)with z|z
  ·exact h.el e z
  ·simp at z;exact⟨k,t,z⟩
 ·refine(p.map _).trans ?_;rw[b6];exact h.pm.append (.refl _)
def jd(b:Bool)(p:cH)(ns:List Int)(h:cR):Prop:=∃es ep t l,h.get? p=Z (stO es ep t)/\Els es ns/\es.size<scanBound/\t.fits es.size=M/\TS l t/\(b=J->l=M)
section
variable{P:cI}{w:cK}{A:cJ}{E:cF->cG->Prop}{s:cG}{b:Bool}{p:cH}{ns:List Int}
theorem yY{es fs:Array (Int×cF)}{ep:Nat}{t u:SetTable}{h:cR}(e:h.get? p=Z (stO es ep t)):(h.update p (Obj.putSet fs u)).get? p=Z (stO fs (ep+1) u):=by
 have:=hW1 (Obj.putSet fs u) e (by rw[putSet_of fs u O];rfl);rw[putSet_of fs u O]at this;exact this
theorem gw{c:Bool}{Q:Unit->cG->Prop}(q:Q () s):cP (model P w) A (match c with
  |true=>rule "set.scan.the-table-gave-way"
  |false=>pure ()) Q E s:=by cases c<;>first|exact wP1 q|exact wpAny_rule q
theorem J8{k:Int}{tk:Tok}{Q:Bool->cG->Prop}(X:jd b p ns s.heap)(hr:ns.length+1<scanBound)(q:∀c h',Heap.SameBut p s.heap h'->jd b p (step_dedup ns k) h'->Q c {s with heap:=h'}):cP (model P w) A (setAddHashed p (.int k tk) (hashInt k)) Q E s:=by
 obtain⟨es,ep,t,l,h,a,T,H,N,K⟩:=X;have hz:=a.size;have el:ElemsOf (intKind P w) es.toList:=a.of;unfold setAddHashed setAddHashedIn;refine wpAny_holding (wB1 (wpAny_setState_of h O H ?_));dsimp only;rw[byScan_of (knd:=intKind P w) O T el,ak O];unfold setAddByScan;refine wB1 (wB1 (wpAny_rule (wB1 (wpAny_setScan_of (knd:=intKind P w) (k:=k) (intKind_is _ _ _ _) h O H el ?_))));cases hx:List.findIdx? (λe=>(intKind P w).is k e.2) es.toList with
 |some j=>
  obtain⟨au,g,_⟩:=List.findIdx?_eq_some_iff_getElem.mp hx;have B:k∈ns:=by
   refine a.pm.mem_iff.mp (b7.mpr ⟨_,bO au,?_⟩);obtain⟨k',aq,e⟩:=a.el _ (bO au);rw[e]at g ⊢;exact((intKind P w).inj _ _ _ g (intKind_is P w k' aq)).symm
  have am:step_dedup ns k=ns:=by unfold step_dedup;rw[ak (bN.mpr ⟨k,B,by simp⟩)]
  rw[am]at q;exact wP1 (wP1 (q _ s.heap (Heap.SameBut.refl p s.heap) ⟨es,ep,t,l,h,a,T,H,N,K⟩))
 |none=>
  have am:step_dedup ns k=ns++[k]:=by
   unfold step_dedup;rw[aj λz=>?_];obtain⟨k',B,e⟩:=bN.mp z;have e:=beq_iff_eq.mp e;subst e;obtain⟨x,m,f⟩:=b7.mp (a.pm.mem_iff.mpr B);obtain⟨n,i,rfl⟩:=a.el x m;have f:n=k':=f;subst f;have:=List.findIdx?_eq_none_iff.mp hx _ m;rw[show(intKind P w).is n (hashInt n,Value.int n i).2=M from intKind_is _ _ _ _]at this;cases this
  rw[am]at q;have F:=layNew_perm t es (hashInt k) (.int k tk);have D:=layNew_fits t es (hashInt k) (.int k tk);have o:=Eb N es (hashInt k) (.int k tk);dsimp only;generalize layNew t es (hashInt k) (.int k tk)=L at F D o ⊢;obtain⟨fs,u,W,wq⟩:=L;dsimp only at F D o ⊢;have y:Els fs (ns++[k]):=a.add F;have G:fs.size<scanBound:=by rw[y.size,lA1];exact hr
  refine wB1 (gw ?_);have tail:∀ (c:Bool),cP (model P w) A (do
    storeSet p fs u
    if (!W&&u.tooFull)=true then do
      (match (relayAll u fs (SetTable.grown fs.size)).2.2 with
       |true=>rule "set.scan.the-table-gave-way"
       |false=>pure ())
      storeSet p (relayAll u fs (SetTable.grown fs.size)).1 (relayAll u fs (SetTable.grown fs.size)).2.1
      pure (Z M)
     else pure (Z M)) (λr s'=>cP (model P w) A (match r with
      |some d=>pure d
      |none=>setAddHashedIn p (.int k tk) (hashInt k) 99999) Q E s') E s:=λ_=>by
   refine wB1 (wpAny_storeSet_of h O ?_ (fits_of_scanBound G));have C:=yY (fs:=fs) (u:=u) h;have U:=Heap.SameBut.update s.heap p (Obj.putSet fs u);split
   ·have p2:=relayAll_perm u fs (SetTable.grown fs.size);have I:=relayAll_fits u fs (SetTable.grown fs.size);have i:=yr o fs (SetTable.grown fs.size);generalize relayAll u fs (SetTable.grown fs.size)=L2 at p2 I i ⊢;obtain⟨ao,v,V⟩:=L2;dsimp only at p2 I i ⊢;have S:=y.perm p2;have R:ao.size<scanBound:=by rw[S.size,<- y.size];exact G
    refine wB1 (gw (wB1 (wpAny_storeSet_of C O ?_ (fits_of_scanBound R))));exact wP1 (wP1 (q _ _ (U.trans (Heap.SameBut.update _ p _)) ⟨ao,_,v,l,yY C,S,R,I,i,K⟩))
   ·exact wP1 (wP1 (q _ _ U ⟨fs,_,u,l,C,y,G,D,o,K⟩))
  split
  ·refine wB1 (wP1 ?_);exact tail M
  ·refine wB1 (wP1 ?_);exact tail M
end
section
variable{P:cI}{w:cK}{A:cJ}{E:cF->cG->Prop}{s:cG}
noncomputable def byT(w:cK):Bool:=w.params.followText "set-order"
theorem Ch(x:cF){G:cF->cG->Prop}(q:G (.ref s.heap.objs.size) {s with heap:=s.heap.push (stO #[] 0 (.fresh 0 0 (!byT w)))}):
  cQ (model P w) A (.call (.builtin "set.__new__") ⟨[.type "set",x],[]⟩) (wants G E) s:=by
 refine codeAny_of_tree (?_:cP _ A.in1 (do checkBuiltinCall "set.__new__" ⟨[.type "set",x],[]⟩;again (.builtin "set.__new__" ⟨[.type "set",x],[]⟩)) _ _ s);refine wB1 (wpAny_of_eq (PySem.F.newCall_set_1 x) (wP1 ⟨plainId_quiet PySem.F.plain_set_new _,wD1 PySem.F.entry_set_new (?_:_)⟩));rw[Around.under_plainId PySem.F.plain_set_new _];unfold Builtin.«set.__new__» Builtin.Frozenset.newClass;have a:=sub_set_self;obtain⟨b,g,d,tk,c⟩:=s;dsimp only
 wp_walk
 refine wpAny_askSetting (wP1 (?_:_));dsimp only;simp only[newObj];exact wB1 (wpAny_alloc (wP1 (wP1 q)))
set_option maxHeartbeats 3200000 in
theorem vj {l:cH}{its:Array cF}{Q:cF->cG->Prop}(H:s.heap.IsList l its)
  (f:∀j:cJ,j.handled=A.handled->j.units<=A.units+2 -> ∀R:Result->cG->Prop,(∀s',Q (.ref s.heap.objs.size) s'->R (.ok (.ret .none)) s') ->
   cQ (model P w) j (.builtin "set.update.loop" ⟨[.ref s.heap.objs.size,.ref (s.heap.objs.size+1)],[]⟩) R {s with heap:=(s.heap.push (stO #[] 0 (.fresh 0 0 (!byT w)))).push {cls:=.type "list_iterator",data:=.fields #[.ref l,.int 0 0]}}):
  cP (model P w) A (call (.type "set") [.ref l]) Q E s:=by
 obtain⟨K,au,k⟩:=PySem.F.called_set.mro;have h:=PySem.F.called_set.made;have m:=PySem.F.called_set.sub
 refine wpAny_call (codeAny_of_tree (?_:cP _ _ (callAny (.type "set") _) _ _ _));refine wP1 ⟨Code.quiet_builtin _ (by decide+kernel),wD1 PySem.F.entry_type_call (?_:_)⟩;rw[Around.under_plain (weight_type_call_type "set" [.ref l] []) O];have am:=PySem.F.called_set.notType;have T:=PySem.F.called_set.canCreate;have ao:=PySem.F.typeCall_set_1 (.ref l)
 repeat(any_goals (first|wp_step|assumption))
 refine codeAny_mono (Ch (.ref l) (E:=E) (G:=λx o=>x = .ref s.heap.objs.size/\o={s with heap:=s.heap.push (stO #[] 0 (.fresh 0 0 (!byT w)))}) ⟨O,O⟩) λr o i=>?_;cases r with
 |error e=>exact i
 |ok v=>
  cases v with
  |ret x=>
   obtain⟨rfl,rfl⟩:=i;have p:(s.heap.push (stO #[] 0 (.fresh 0 0 (!byT w)))).get? s.heap.objs.size=Z (stO #[] 0 (.fresh 0 0 (!byT w))):=hS1 _ O;have u:Shared.TypeIs {s with heap:=s.heap.push (stO #[] 0 (.fresh 0 0 (!byT w)))} (.ref s.heap.objs.size) "set":=⟨_,p,O⟩;have X:=PySem.F.called_set.init.lookup;have S:=PySem.F.called_set.init.bind (.ref s.heap.objs.size)
   repeat(any_goals (first|wp_step|assumption))
   refine codeAny_mono (codeAny_call_builtin (R:=wants (λr t=>r = .none/\Q (.ref s.heap.objs.size) t) E) PySem.F.called_set.init.plain PySem.F.entry_set_init (check_set_init_1 u (?_:_))) λr2 t a=>?_
   ·obtain⟨z,g,b,n,c⟩:=H;obtain⟨N,B,L,D⟩:=z;simp only at b c;subst b;subst c;have y:(s.heap.push (stO #[] 0 (.fresh 0 0 (!byT w)))).get? l=Z {cls:=.type "list",dict:=B,data:=.seq its n,slots:=D}:=hP1 _ g;have U:=PySem.F.sub_list_set;have W:=PySem.F.sub_list_frozenset;have V:(Value.type "list" == Value.type "dict")=J:=by decide
    have I:(s.heap.push (stO #[] 0 (.fresh 0 0 (!byT w)))).IsList l its:=⟨_,y,O,n,O⟩;have C:(s.heap.push (stO #[] 0 (.fresh 0 0 (!byT w)))).get? s.heap.objs.size=Z {cls:=.type "set",dict:=Y,data:=.set #[] 0 (.fresh 0 0 (!byT w)),slots:= #[]}:=p;unfold Builtin.«set.__init__» noKeywords Builtin.Frozenset.updateFrom;generalize d:pyIter=PI
    wp_walk
    subst d;refine wpAny_pyIter_list I (wB1 (wpAny_runValue (?_:_)));dsimp only;rw[show(s.heap.push (stO #[] 0 (.fresh 0 0 (!byT w)))).objs.size=s.heap.objs.size+1 from by rw[hZ1]];refine f A.in1.in1 (by simp) (nR1 _) _ λs' q=>?_;exact wP1 (wP1 ⟨O,q⟩)
   ·cases r2 with
    |error e=>exact a
    |ok F=>
     cases F with
     |ret r=>
      obtain⟨rfl,q⟩:=a
      repeat(any_goals (first|wp_step|assumption))
     |_=>exact a.elim
  |_=>exact i.elim
theorem xF {l:cH}{its:Array cF}{Q:cF->cG->Prop}(c:s.heap.IsList l its)
  (b:∀a:cJ,a.handled=A.handled -> ∀R:Result->cG->Prop,(∀s',Q (.ref s.heap.objs.size) s'->R (.ok (.ret .none)) s') ->
   cQ (model P w) a (.builtin "set.update.loop" ⟨[.ref s.heap.objs.size,.ref (s.heap.objs.size+1)],[]⟩) R {s with heap:=(s.heap.push (stO #[] 0 (.fresh 0 0 (!byT w)))).push {cls:=.type "list_iterator",data:=.fields #[.ref l,.int 0 0]}}):
  cP (model P w) A (call (.type "set") [.ref l]) Q E s:=vj c λa h _=>b a h
end
section
variable{P:cI}{w:cK}{A:cJ}{E:cF->cG->Prop}{b:Bool}
theorem jd.old{p:cH}{ns:List Int}{h h':cR}(x:jd b p ns h)(k:∀o,h.get? p=Z o->h'.get? p=Z o):jd b p ns h':=by
 obtain⟨es,ep,t,l,e,r⟩:=x;exact⟨es,ep,t,l,k _ e,r⟩
theorem nY:∀(ns acc:List Int),(ns.foldl step_dedup acc).length<=acc.length+ns.length
 |[],acc=>by simp
 |n::ns,acc=>by
  rw[List.foldl_cons];have h1:=nY ns (step_dedup acc n);have h2:(step_dedup acc n).length<=acc.length+1:=by unfold step_dedup;split<;>simp
  rw[lC1];lia
theorem yM{p l it:cH}{its:Array cF}{ns:List Int}{R:Result->cG->Prop}(am:A.handled=none)(y:IntsAre its.toList ns)(hb:ns.length+1<scanBound)(E:p≠l)(n:p≠it)(I:it≠l):
  ∀(k i:Nat) (s:cG),its.size-i=k->i<=its.size->s.heap.IsListIter it l i->s.heap.IsList l its->jd b p ((ns.take i).foldl step_dedup []) s.heap ->
  (∀h' tk,(∀c o,c≠p->c≠it->s.heap.get? c=Z o->h'.get? c=Z o)->jd b p (ddI ns) h'->R (.ok (.ret .none)) {s with heap:=h',toks:=tk})->cQ (model P w) A (.builtin "set.update.loop" ⟨[.ref p,.ref it],[]⟩) R s:=by
 have f:its.size=ns.length:=by rw[<- aH];exact y.length
 intro k
 induction k with
 |zero=>
  intro i s F hi st h u q;have e:i=its.size:=by lia
  subst e;refine wD1 PyProof.Rows.F.entry_set_update_loop (?_:_);rw[Around.under_plainId PyProof.Rows.F.plain_set_update_loop _];show cP _ A.in1 (pyNext (.ref it) >>= _) _ _ s;refine wB1 (wpAny_pyNext_list_end (by simpa using am) st h (by simp) λh' C=>wP1 ?_);refine q h' s.toks (λc o _ hc e=>C c o hc e) ?_;have:=u.old (h':=h') λo e=>C p o n e;rw[f,bS]at this;exact this
 |succ k ih=>
  intro i s F hi st h u q;have a:i<its.size:=by lia
  have B:=aG1 a;obtain⟨t,H⟩:=PyProof.Rows.IntsAre.int_at y i its[i] (by rw[aT1];exact B);refine wD1 PyProof.Rows.F.entry_set_update_loop (?_:_);rw[Around.under_plainId PyProof.Rows.F.plain_set_update_loop _];show cP _ A.in1 (pyNext (.ref it) >>= _) _ _ s;refine wB1 (wpAny_pyNext_list_item st h B λh' st' D=>?_);rw[H];show cP _ A.in1 (holding [Value.int (ns.getD i 0) t] (setAdd p (.int (ns.getD i 0) t)) >>= _) _ _ _;refine wB1 (wpAny_holding ?_);unfold setAdd;refine wpAny_holding (wB1 (wpAny_pyHash_int ?_));have m:jd b p ((ns.take i).foldl step_dedup []) h':=u.old λo e=>by rw[D.2 p n];exact e
  have v:=nY (ns.take i) [];refine J8 (s:={s with heap:=h',toks:=s.toks+1}) (k:=ns.getD i 0) m (by rw[aO,aY]at v;lia) λc h2 g d=>?_;have K:ns[i]?=Z (ns.getD i 0):=by rw[gG1 (by lia)];simp[List.getD,show i<ns.length by lia]
  have L:step_dedup ((ns.take i).foldl step_dedup []) (ns.getD i 0)=(ns.take (i+1)).foldl step_dedup []:=by
   rw[b9,K,List.foldl_append];rfl
  rw[L]at d;have z:∀c o,c≠p->c≠it->s.heap.get? c=Z o->h2.get? c=Z o:=λc o h1 j e=>by rw[g.2 c h1];show h'.get? c=_;rw[D.2 c j];exact e
  have keepIt:∀o,h'.get? it=Z o->h2.get? it=Z o:=λo e=>by rw[g.2 it (Ne.symm n)];exact e
  refine wP1 ⟨plainId_quiet PyProof.Rows.F.plain_set_update_loop _,ih (i+1) {s with heap:=h2,toks:=s.toks+1} (by lia) a (st'.at keepIt) ?_ d λj tk ao G=>?_⟩
  ·obtain⟨o,e,r⟩:=h;exact⟨o,z l o (Ne.symm E) (Ne.symm I) e,r⟩
  ·exact q j tk (λc o h1 x e=>ao c o h1 x (z c o h1 x e)) G
theorem xG{s:cG}{l:cH}{its:Array cF}{ns:List Int}{Q:cF->cG->Prop}(g:A.handled=Y)(d:s.heap.IsList l its)(j:IntsAre its.toList ns)(hb:ns.length+1<scanBound)(q:∀h' tk,(∀c o,s.heap.get? c=Z o->h'.get? c=Z o)->jd (byT w) s.heap.objs.size (ddI ns) h'->Q (.ref s.heap.objs.size) {s with heap:=h',toks:=tk}):cP (model P w) A (call (.type "set") [.ref l]) Q E s:=by
 have a:l<s.heap.objs.size:=by obtain⟨o,e,_⟩:=d;exact hL1 e
 refine xF d λt i R p=>?_;have m:(s.heap.push (stO #[] 0 (.fresh 0 0 (!byT w)))).objs.size=s.heap.objs.size+1:=by rw[hZ1]
 have n:(s.heap.push (stO #[] 0 (.fresh 0 0 (!byT w)))).get? s.heap.objs.size=Z (stO #[] 0 (.fresh 0 0 (!byT w))):=hS1 _ O;refine yM (its:=its) (ns:=ns) (b:=byT w) (i.trans g) j hb (nG1 a) (nN1 (bw _)) (nG1 (Nat.lt_succ_of_lt a)) _ 0 _ O (bf _) ?_ ?_ ?_ λh' tk k x=>p _ (q h' tk (λc o e=>k c o (nN1 (hL1 e)) (nN1 (Nat.lt_succ_of_lt (hL1 e))) (hP1 _ (hP1 _ e))) x)
 ·refine⟨{cls:=.type "list_iterator",data:=.fields #[.ref l,.int 0 0]},?_,O,O⟩;have this:((s.heap.push (stO #[] 0 (.fresh 0 0 (!byT w)))).push {cls:=.type "list_iterator",data:=.fields #[.ref l,.int 0 0]}).get? (s.heap.push (stO #[] 0 (.fresh 0 0 (!byT w)))).objs.size=Z {cls:=.type "list_iterator",data:=.fields #[.ref l,.int 0 0]}:=hS1 _ O;rw[m]at this;exact this
 ·obtain⟨o,e,r⟩:=d;exact⟨o,hP1 _ (hP1 _ e),r⟩
 ·refine⟨#[],0,_,!byT w,hP1 _ n,⟨λe f=>by simp at f,.refl _⟩,by decide,O,yt _,λh=>by rw[h];rfl⟩
end
theorem iQ:Slot "set_iterator" "__next__" "set_iterator.__next__":=
 .of (owner:="set_iterator") (n:="__next__") (by rw[typeLookup_type,builtinLookup_eq_fast];kernel_rfl) (by decide+kernel) (by decide+kernel) (by decide+kernel) (by first|exact .inl (by decide+kernel)|exact .inr (by decide+kernel)) (by rw[isSubtype_type];kernel_rfl)
theorem pE:entryFor table "set_iterator.__next__"=Z Builtin.«set_iterator.__next__» :=entryFor_of_tree (by kernel_rfl)
theorem t3(x:cF):argsOk "set_iterator.__next__" ⟨[x],[]⟩:=by unfold argsOk;kernel_rfl
theorem tH:entryFor table "set.__iter__"=Z Builtin.«frozenset.__iter__» :=entryFor_alias (id':="frozenset.__iter__") (by kernel_rfl) O (by decide+kernel) (by kernel_rfl)
abbrev GE(h:cR)(it a:cH)(f:cF)(i n ep:Nat):Prop:=h.get? it=Z {cls:=.type "set_iterator",dict:=Y,data:=.fields #[f,.int i 0,.ref a,.int n 0,.int ep 0],slots:= #[]}
noncomputable def k8(t:SetTable)(i:Nat):Nat:=match i with
 |0=>0
 |i+1=>t.place.getD i 0+1
inductive ua (w:cK)(h:cR)(a:cH)(es:Array (Int×cF))(ep:Nat)(t:SetTable):cF->Nat->List cF->Prop
 |txt (b:byT w=true) (i:Nat) (sl:Nat):ua w h a es ep t (.int sl 0) i ((pickOrder (w.params.setOrder a ep) es).toList.map (·.2))
 |drw (b:byT w=false) (d:(!t.plain&&decide (es.size>1))=true) (i:Nat) (tp:cH) (ps:List Nat) (e:h.get? tp=some {cls:=.type "tuple",data:=.seq (ps.map λj=>Value.int (j:Nat) 0).toArray}) (pm:ps.Perm (af es.size)):ua w h a es ep t (.ref tp) i (ps.map λj=>(es[j]?.map (·.2)).getD .none)
 |plc (b:byT w=false) (d:(!t.plain&&decide (es.size>1))=false) (ld:t.led=true) (up:vy t.place) (i:Nat):ua w h a es ep t (.int (k8 t i) 0) i (es.toList.map (·.2))
theorem o8{α:Type}(f:Nat->Nat):∀(n k:Nat) (l:List α) (out:Array α),l.length=n->(pickOrder.go f n k l out).toList.Perm (out.toList++l)
 |0,k,l,out,h=>by
  rw[pickOrder.go,List.length_eq_zero_iff.mp h,aK]
 |n+1,k,l,out,h=>by
  have b:f k%l.length<l.length:=Nat.mod_lt _ (by lia);rw[pickOrder.go,gG1 b];refine(o8 f n (k+1) _ _ (by rw[ca b];lia)).trans ?_;rw[bZ,bB];refine List.Perm.append_left _ ?_;have c:l=l.take (f k%l.length)++l[f k%l.length]::l.drop (f k%l.length+1):=by rw[List.getElem_cons_drop,cb]
  rw[List.eraseIdx_eq_take_drop_succ];refine List.Perm.trans ?_ (List.Perm.of_eq c.symm);exact(cc (l₁:=l.take (f k%l.length)) (l₂:=l.drop (f k%l.length+1)) (a:=l[f k%l.length])).symm
theorem ua.perm{w:cK}{h:cR}{a:cH}{es:Array (Int×cF)}{ep:Nat}{t:SetTable}{f:cF}{i:Nat}{pl:List cF}(y:ua w h a es ep t f i pl):pl.Perm (es.toList.map (·.2)):=by
 cases y with
 |txt=>exact(o8 _ _ _ _ _ O).map _
 |drw _ _ _ d ps e c=>
  refine(c.map _).trans ?_;have:(af es.size).map (λj=>(es[j]?.map (·.2)).getD .none)=es.toList.map (·.2):=by
   apply List.ext_getElem?;intro j;rw[gP1,gP1,aT1 (xs:=es)];by_cases b:j<es.size
   ·rw[cf b,oP1,aG1 b];rfl
   ·rw[bT (by simpa using b),bY (by lia)];rfl
  rw[this]
 |plc=>exact .refl _
theorem ua.len{w:cK}{h:cR}{a:cH}{es:Array (Int×cF)}{ep:Nat}{t:SetTable}{f:cF}{i:Nat}{pl:List cF}(y:ua w h a es ep t f i pl):pl.length=es.size:=by
 rw[y.perm.length_eq,lM1,aH]
section
variable{P:cI}{w:cK}{A:cJ}{E:cF->cG->Prop}{s:cG}{it a:cH}{f:cF}{i ep:Nat}{es:Array (Int×cF)}{t:SetTable}{pl:List cF}
theorem pX{Q:Bool->cG->Prop}(q:Q (byT w) s):cP (model P w) A setsByText Q E s:=by unfold setsByText;exact wB1 (wpAny_askSetting (wP1 q))
theorem yH{sl:Nat}{Q:Option (cF×Nat)->cG->Prop}(b:byT w=M)(ho:s.heap.get? a=Z (stO es ep t))(hf:t.fits es.size=M)(q:Q (((pickOrder (w.params.setOrder a ep) es)[i]?).map λe=>(e.2,sl)) s):cP (model P w) A (setNext a sl i ep) Q E s:=by
 unfold setNext;refine wB1 (wpAny_setState_of ho O hf (wB1 (pX ?_)));rw[b,ak O,aj (by simp)];refine wB1 ?_;unfold setWalk;refine wB1 (wpAny_setState_of ho O hf (wB1 (pX ?_)));rw[b,ak O];exact wB1 (wpAny_askSetting (wP1 (wP1 q)))
theorem De(up:vy t.place)(hi:i<=t.place.size):SetTable.below t.place (k8 t i)=i:=by
 cases i with
 |zero=>exact AS up
 |succ j=>
  have a:j<t.place.size:=hi;show SetTable.below t.place (t.place.getD j 0+1)=j+1;rw[show t.place.getD j 0=t.place[j]from by simp[Array.getD,a]];exact Dd up a
theorem yI{Q:Option (cF×Nat)->cG->Prop}(b:byT w=J)(d:(!t.plain&&decide (es.size>1))=J)(h:t.led=M)(up:vy t.place)(ho:s.heap.get? a=Z (stO es ep t))(hf:t.fits es.size=M)(hi:i<=es.size)(q:Q ((es[i]?).map λe=>(e.2,k8 t (i+1))) s):cP (model P w) A (setNext a (k8 t i) i ep) Q E s:=by
 have j:t.place.size=es.size:=by
  unfold SetTable.fits at hf;rw[bA1,beq_iff_eq]at hf;exact hf.1
 unfold setNext;refine wB1 (wpAny_setState_of ho O hf (wB1 (pX ?_)));rw[b,aj (by decide)];rw[aj (λz=>by have f:(!t.plain&&decide (es.size>1))=M:=z;rw[d]at f;cases f)];refine wB1 ?_;show cP _ _ (if(!t.led && !es.isEmpty)=M then _ else _) _ _ _;rw[aj (by rw[h];simp)];refine wP1 ?_;dsimp only;rw[De up (by omega)];by_cases c:i<es.size
 ·rw [aG1 c] at q ⊢;rw [aG1 (show i<t.place.size by omega)];have g:k8 t (i+1)=t.place[i]+1:=by
   show t.place.getD i 0+1=_;rw[show t.place.getD i 0=t.place[i]from by simp[Array.getD,show i<t.place.size by omega]]
  rw[g]at q;exact wP1 q
 ·rw[bY (by omega)]at q ⊢;exact wP1 q
theorem Bj{Q:Option cF->cG->Prop}(h:GE s.heap it a f i es.size ep)(ho:s.heap.get? a=Z (stO es ep t))(hf:t.fits es.size=M)(y:ua w s.heap a es ep t f i pl){x:cF}(hx:pl[i]? = Z x)(N:∀ g,f = .ref g->g≠it)(q:∀h' k,GE h' it a k (i+1) es.size ep->(∀c o,c≠it->s.heap.get? c=Z o->h'.get? c=Z o)->ua w h' a es ep t k (i+1) pl->(∀g,k = .ref g->f = .ref g)->Q (Z x) {s with heap:=h'}):cP (model P w) A (pyNext (.ref it)) Q E s:=by
 have G:s.TypeIs (.ref it) "set_iterator":=⟨_,h,O⟩;unfold pyNext;refine wB1 (wpAny_attempt (wpAny_callSpecial?_slot (name:=Str.ofString "__next__") G iQ (wE1 iQ G pE ?_ (t3 _))));refine wB1 (wP1 (wB1 (wpAny_fieldsOf h O ?_)));dsimp only;refine wB1 (wpAny_setEntries_of ho O hf ?_);rw[aj (by simp)];have ao:i<es.size:=by have:=(gE1.mp hx).1;rw[y.len]at this;exact this
 have n:∀ (k:cF),(∀ g,k = .ref g->f = .ref g)->(∀ h',(∀ c o,c≠it->s.heap.get? c=some o->h'.get? c=some o)->ua w h' a es ep t k (i+1) pl) ->
   cP (model P w) A.in1 (setField (.ref it) 0 k >>= fun _=>setField (.ref it) 1 (rawInt ((i:Int)+1)) >>= fun _=>ret x) (fun B s'=>∃ v,B=Fin.done (Flow.ret v)/\cP (model P w) A (pure (some v)) Q E s') (fun e s'=>cP (model P w) A (do
     let y<-isInstance e (.type "StopIteration")
     if y=M then pure Y else throw e) Q E s') s:=λk au L=>by
  refine wB1 (wS1 h (by simp) λh1 R r=>wB1 (wS1 (s:={s with heap:=h1}) R (by simp) λh2 D l=>wP1 ⟨_,O,wP1 ?_⟩));have m:∀c o,c≠it->s.heap.get? c=Z o->h2.get? c=Z o:=λc o hc e=>l.extBut c o hc (r.extBut c o hc e);refine q h2 k ?_ m (L h2 m) au;have e:((i+1:Nat):Int)=(i:Int)+1:=by lia
  unfold GE;rw[e];simpa[rawInt]using D
 cases y with
 |txt b _ C=>
  refine wB1 (yH (i:=i) (sl:=C) (ep:=ep) b ho hf ?_);rw[gP1,aT1]at hx;obtain⟨e,u,rfl⟩:=oM1.mp hx;rw[u];exact n (.int C 0) (λg z=>by cases z) λh' _=>.txt b _ C
 |plc b d I up _=>
  refine wB1 (yI (i:=i) b d I up ho hf (by lia) ?_);rw[gP1,aT1]at hx;obtain⟨e,u,rfl⟩:=oM1.mp hx;rw[u];exact n (.int (k8 t (i+1)) 0) (λg z=>by cases z) λh' _=>.plc b d I up _
 |drw b d _ g ps e K=>
  rw[gP1]at hx;obtain⟨j,H,rfl⟩:=oM1.mp hx;have p:j<es.size:=by have:=K.mem_iff.mp (gM1 H);simpa using this
  refine wB1 (wpAny_seqItems e O ?_);have F:((ps.map λj=>Value.int (j:Nat) 0).toArray)[((i:Int)).toNat]?=Z (.int (j:Nat) 0):=by
   rw[Int.toNat_natCast,List.getElem?_toArray,gP1,H];rfl
  dsimp only;rw[F];dsimp only;refine wB1 ?_;unfold setNextDrawn;refine wB1 (wpAny_setState_of ho O hf ?_);dsimp only;rw[aj (by simp),Int.toNat_natCast,aG1 p];refine wP1 (wB1 (wS1 h (by simp) λh2 D l=>wP1 ⟨_,O,wP1 ?_⟩));have m:∀c o,c≠it->s.heap.get? c=Z o->h2.get? c=Z o:=λc o hc e=>l.extBut c o hc e;have am:=q h2 (.ref g) ?_ m (.drw b d _ g ps (m g _ (N g O) e) K) λ_ z=>z
  ·rw[aG1 p]at am;exact am
  ·have e:((i+1:Nat):Int)=(i:Int)+1:=by lia
   unfold GE;rw[e];simpa[rawInt]using D
theorem uG{Q:Option cF->cG->Prop}{G:Fin->cG->Prop}(d:A.handled=none)(q:∀ h',(∀ c o,s.heap.get? c=some o->h'.get? c=some o)->Q none {s with heap:=h'}):
  cP (model P w) A.in1 (newExc (.type "StopIteration") [] >>= fun e=>raiseNew e) G (fun e s'=>cP (model P w) A (do
     let y<-isInstance e (.type "StopIteration")
     if y=M then pure Y else throw e) Q E s') s:=by
 refine wB1 ?_;simp only[newExc,newTuple];refine wB1 (wO1 ?_ (by size_fits));refine wB1 (m:=firstArgMember _ _) (wpAny_of_eq (a:=Value.none) (by first|rfl|(simp only[firstArgMember];rfl)) ?_);refine wO1 ?_ (by size_fits);simp only[raiseNew];refine wB1 (wpAny_handled ?_);rw[show A.in1.handled=Y from d];refine wB1 (wP1 (wpAny_throw (?_:_)));refine wB1 (wpAny_isInstance (b:=M) (T:="StopIteration") ⟨_,hS1 _ O,O⟩ isSubtype_stop (?_:_));exact wP1 (q _ λb o e=>hP1 _ (hP1 _ e))
theorem D2{Q:Option cF->cG->Prop}(m:A.handled=Y)(g:GE s.heap it a f es.size es.size ep)(ho:s.heap.get? a=Z (stO es ep t))(hf:t.fits es.size=M)(y:ua w s.heap a es ep t f es.size pl)(q:∀h',(∀c o,c≠it->s.heap.get? c=Z o->h'.get? c=Z o)->Q Y {s with heap:=h'}):cP (model P w) A (pyNext (.ref it)) Q E s:=by
 have u:s.TypeIs (.ref it) "set_iterator":=⟨_,g,O⟩;unfold pyNext;refine wB1 (wpAny_attempt (wpAny_callSpecial?_slot (name:=Str.ofString "__next__") u iQ (wE1 iQ u pE ?_ (t3 _))));refine wB1 (wP1 (wB1 (wpAny_fieldsOf g O ?_)));dsimp only;refine wB1 (wpAny_setEntries_of ho O hf ?_);rw[aj (by simp)];have l:=y.len;cases y with
 |txt b _ v=>
  refine wB1 (yH (i:=es.size) (sl:=v) (ep:=ep) b ho hf ?_);rw[bY (by rw[lM1,aH]at l;lia)];refine wB1 (wS1 g (by simp) λh1 r h=>?_);exact uG (s:={s with heap:=h1}) m λh' k=>q h' λc o hc e=>k c o (h.extBut c o hc e)
 |plc b d x up _=>
  refine wB1 (yI (i:=es.size) (ep:=ep) b d x up ho hf (nR1 _) ?_);rw[bY (nR1 _)];refine wB1 (wS1 g (by simp) λh1 r h=>?_);exact uG (s:={s with heap:=h1}) m λh' k=>q h' λc o hc e=>k c o (h.extBut c o hc e)
 |drw b d _ B ps e C=>
  refine wB1 (wpAny_seqItems e O ?_);have p:((ps.map λj=>Value.int (j:Nat) 0).toArray)[((es.size:Int)).toNat]?=Y:=by
   rw[Int.toNat_natCast,List.getElem?_toArray,bT (by rw[lM1]at l ⊢;lia)]
  dsimp only;rw[p];dsimp only;refine wB1 (wS1 g (by simp) λh1 r h=>?_);refine wB1 (wS1 (s:={s with heap:=h1}) r (by simp) λh2 z n=>?_);exact uG (s:={s with heap:=h2}) m λh' k=>q h' λc o hc e=>k c o (n.extBut c o hc (h.extBut c o hc e))
theorem AN{a:Source}{n:Nat}{Q:Nat->cG->Prop}(hn:n≠0)(q:∀i c,i<n->Q i {s with drawn:=c}):cP (model P w) A (choose a n) Q E s:=fun Γ p b=>by
 unfold choose;rw[Sem.wp_choose];refine⟨hn,?_⟩;exact wP1 (A:=A) (E:=E) (q _ _ (Nat.mod_lt _ (Nat.pos_of_ne_zero hn))) Γ p b
theorem draw_W{α:Type}:∀(n:Nat) (xs:List α) (s:cG) (Q:List α->cG->Prop),xs.length=n->(∀ys b,ys.Perm xs->Q ys {s with drawn:=b})->cP (model P w) A (drawOrder n xs) Q E s
 |0,xs,s,Q,h,q=>by
  have:=List.length_eq_zero_iff.mp h;subst this;exact wP1 (q [] s.drawn (.refl _))
 |n+1,[],s,Q,h,q=>by simp at h
 |n+1,x::xs,s,Q,h,q=>by
  rw[drawOrder];refine wB1 (AN (by simp) λi b hi=>?_);rw[gG1 hi];dsimp only;refine wB1 (draw_W n _ _ _ (by rw[ca hi];lia) λys a c=>wP1 (q _ a ?_));refine(c.cons _).trans ?_;have d:x::xs=(x::xs).take i++(x::xs)[i]::(x::xs).drop (i+1):=by rw[List.getElem_cons_drop,cb]
  rw[List.eraseIdx_eq_take_drop_succ];refine List.Perm.trans ?_ (List.Perm.of_eq d.symm);exact cc.symm
  all_goals simp
theorem Bl{l:Bool}{Q:cF->cG->Prop}(ho:s.heap.get? a=some (stO es ep t))(hf:t.fits es.size=true)(hz:es.size<scanBound)(B:TS l t)(F:byT w=false->l=true)(q:∀it h' h f pl,(∀c o,s.heap.get? c=some o->h'.get? c=some o)->s.heap.objs.size<=it->GE h' it a f 0 es.size ep->ua w h' a es ep t f 0 pl->(∀b,f = .ref b->b≠it/\s.heap.objs.size<=b)->Q (.ref it) {s with heap:=h',drawn:=h}):
  cP (model P w) A (pyIter (.ref a)) Q E s:=by
 have y:s.TypeIs (.ref a) "set":=⟨_,ho,rfl⟩;refine wpAny_pyIter_slot y PySem.F.slot_set_iter (wE1 PySem.F.slot_set_iter y tH ?_ (PySem.F.args_set_iter_1 _));unfold Builtin.«frozenset.__iter__»;refine wB1 (m:=Builtin.Frozenset.slot0 _ _) (wP1 ?_);unfold Builtin.Frozenset.sizeOf;refine wB1 (wB1 (wpAny_setEntries_of ho rfl hf (wP1 ?_)));unfold setDrawn;refine wB1 (wB1 (wpAny_setState_of ho rfl hf (wB1 (pX (wP1 ?_)))));show cP _ _ (if (!byT w&&(!t.plain&&decide (es.size>1)))=true then _ else _) _ _ _;have d:∀ (h1:cR) (h:Drawn) (f:cF) (pl:List cF),(∀ c o,s.heap.get? c=some o->h1.get? c=some o)->s.heap.objs.size<=h1.objs.size->(∀ b,f = .ref b->b<h1.objs.size/\s.heap.objs.size<=b)->(∀ h',(∀ c o,h1.get? c=some o->h'.get? c=some o)->ua w h' a es ep t f 0 pl) ->
   cP (model P w) A.in1 (setEpoch a >>= λe=>newFields "set_iterator" [f,rawInt 0,.ref a,rawInt es.size,rawInt e] >>= λr=>ret r) (λd s'=>∃r,d=Fin.done (Flow.ret r) /\ ∃T g,s'.TypeIs r T/\typeLookup (.type T) "__next__"=pure (Z g)/\Q r s') E {s with heap:=h1,drawn:=h}:=by
  intro h1 h f pl D x u G;refine wB1 (wpAny_setEpoch_of (D a _ ho) O hf (wB1 (wO1 (wP1 ⟨_,O,"set_iterator",_,⟨_,hS1 _ O,O⟩,iQ.lookup,?_⟩) (by size_fits))));refine q h1.objs.size _ h f pl (λc o e=>hP1 _ (D c o e)) x ?_ (G _ λc o e=>hP1 _ e) λb e=>⟨nN1 (u b e).1,(u b e).2⟩;have:=hS1 h1 (o:={cls:=.type "set_iterator",data:=.fields #[f,.int 0 0,.ref a,.int es.size 0,.int ep 0]}) O;exact this
 by_cases n:byT w=M
 ·rw[aj (by rw[n];simp)];refine wB1 (wP1 ?_);exact d s.heap s.drawn _ _ (λ_ _ e=>e) (nR1 _) (λb z=>by cases z) λh' _=>.txt n 0 0
 ·have n:byT w=J:=by simpa using n
  by_cases p:(!t.plain&&decide (es.size>1))=M
  ·rw[ak (by rw[n,p];rfl)];refine wB1 (draw_W es.size (af es.size) s _ (by simp) λys h C=>?_);refine wB1 (m:=newTuple _) (wO1 (s:={s with drawn:=h}) ?_ ?_)
   ·refine d (s.heap.push {cls:=.type "tuple",data:=.seq (ys.map λ(i:Nat)=>rawInt i).toArray}) h (.ref s.heap.objs.size) (ys.map λj=>(es[j]?.map (·.2)).getD .none) (λc o e=>hP1 _ e) (by rw[hZ1];exact aU _) (λb z=>by cases z;exact⟨by rw[hZ1];exact bw _,nR1 _⟩) λh' k=>?_;exact .drw n p 0 _ ys (k _ _ (hS1 _ O)) C
   ·have:=C.length_eq;have v:=fits_of_scanBound hz;simp[sizeOk,this,v]
  ·have p:(!t.plain&&decide (es.size>1))=J:=by simpa using p
   rw[aj (by rw[p];simp)];refine wB1 (wP1 ?_);exact d s.heap s.drawn _ _ (λ_ _ e=>e) (nR1 _) (λb z=>by cases z) λh' _=>.plc n p (by rw[B.ld];exact F n) B.up 0
end
theorem ua.keep{w:cK}{h h':cR}{a:cH}{es:Array (Int×cF)}{ep:Nat}{t:SetTable}{f:cF}{i:Nat}{pl:List cF}(y:ua w h a es ep t f i pl)(k:∀c o,f = .ref c->h.get? c=Z o->h'.get? c=Z o):ua w h' a es ep t f i pl:=by
 cases y with
 |txt b _ j=>exact .txt b _ j
 |drw b d _ c ps e g=>exact .drw b d _ c ps (k c _ O e) g
 |plc b d l up _=>exact .plc b d l up _
section
variable{P:cI}{w:cK}{A:cJ}{E:cF->cG->Prop}
theorem Bk{it a S:cH}{ep:Nat}{es:Array (Int×cF)}{t:SetTable}{pl:List cF}{B:cF}{R:Result->cG->Prop}(U:A.handled=none)(hf:t.fits es.size=true)(h1:it≠a)(h2:S≠a)(F:S≠it)(hn:es.size<=cO):
  ∀(k i:Nat) (s:cG) (f:cF) (acc:Array cF) (c:Nat),es.size-i=k->i<=es.size->GE s.heap it a f i es.size ep->s.heap.get? a=Z (stO es ep t)->ua w s.heap a es ep t f i pl->(∀g,f = .ref g->g≠it/\g≠S) ->
  s.heap.get? S=Z {cls:=.type "list",dict:=Y,data:=.seq acc c,slots:= #[]}->acc.toList=pl.take i ->
  (∀h' d am,(∀b u,b≠it->b≠S->s.heap.get? b=Z u->h'.get? b=Z u)->h'.get? S=Z {cls:=.type "list",dict:=Y,data:=.seq d am,slots:= #[]}->d.toList=pl->R (.ok (.ret B)) {s with heap:=h'}) ->
  cQ (model P w) A (.builtin "list.extend.loop" ⟨[.ref S,.ref it,B],[]⟩) R s:=by
 intro k
 induction k with
 |zero=>
  intro i s f acc c Q hi l E y D L C ao;have e:i=es.size:=by lia
  subst e;have j:=y.len;refine wD1 PySem.F.entry_extend_loop (?_:_);rw[Around.under_plainId PySem.F.plain_extend_loop _];show cP _ A.in1 (pyNext (.ref it) >>= _) _ _ s;refine wB1 (D2 U l E hf y λh' keep=>wP1 ?_);exact ao h' acc c (λb u n _ e=>keep b u n e) (keep S _ F L) (by rw[C,<- j,bS])
 |succ k ih=>
  intro i s f acc c Q hi l E y D L C ao;have G:i<es.size:=by lia
  have j:=y.len;obtain⟨x,au⟩:∃x,pl[i]?=some x:=⟨_,gG1 (by lia)⟩;have p:acc.size=i:=by rw[<- aH,C,aO];lia
  refine wD1 PySem.F.entry_extend_loop (?_:_);rw[Around.under_plainId PySem.F.plain_extend_loop _];show cP _ A.in1 (pyNext (.ref it) >>= _) _ _ s;refine wB1 (Bj l E hf y au (λg e=>(D g e).1) λh' V r keep T N=>?_);have v:=keep S _ F L;show cP _ A.in1 (updateSeq S (·.push x) >>= _) _ _ _;refine wB1 (wpAny_updateSeq (s:={s with heap:=h'}) v O ?_ (by rw[p];lia) (by show(acc.push _).size<=cO+1;rw[Array.size_push,p];lia));have h:∀b u,b≠S->h'.get? b=Z u->(h'.update S (Obj.mapSeq (·.push x))).get? b=Z u:=λb u n e=>by rw[hU1 _ _ _ _ n];exact e
  refine wP1 ⟨plainId_quiet PySem.F.plain_extend_loop _,ih (i+1) {s with heap:=h'.update S (Obj.mapSeq (·.push x))} V (acc.push x) _ (by lia) G (h it _ (Ne.symm F) r) (h a _ (Ne.symm h2) (keep a _ (Ne.symm h1) E)) (T.keep λg o e q=>h g o (D g (N g e)).2 q) (λg e=>D g (N g e)) (hW1 _ v O) ?_ ?_⟩
  ·rw[bZ,C,b9,au];rfl
  ·intro I d am m K H;exact ao I d am (λb u n z e=>m b u n z (h b u z (keep b u n e))) K H
theorem yO:typeLookup (.type "set") "__len__"=pure (Z (.builtin "set.__len__")):=by rw[typeLookup_type,builtinLookup_eq_fast];kernel_rfl
theorem Bm {s:cG}{v:cH}{Q:Bool->cG->Prop}(c:s.TypeIs (.ref v) "set")(q:Q J s):cP (model P w) A (Builtin.List.listLengthHint (.ref v)) Q E s:=by
 unfold Builtin.List.listLengthHint;refine wB1 (wpAny_specialOf c yO (?_:_));generalize a:("set.__len__":String)=id0
 wp_delta
 rw[show splitId id0=Z ("set","__len__")from by subst a;decide+kernel];subst a;refine wB1 (wpAny_isInstance (b:=M) c (by rw[isSubtype_type];kernel_rfl) (?_:_));rw[aj (by decide)];dsimp only;rw[ak (by decide+kernel)];exact wB1 (wpAny_typeOf c (wP1 q))
theorem uu{s:cG}{a:cH}{ns:List Int}{Q:List cF->cG->Prop}(X:A.handled=Y)(hx:jd (byT w) a ns s.heap)(q:∀h' p vs N,(∀b u,s.heap.get? b=Z u->h'.get? b=Z u)->s.heap.objs.size<=h'.objs.size->IntsAre vs N->N.Perm ns->Q vs {s with heap:=h',drawn:=p}):cP (model P w) A (collect (.ref a)) Q E s:=by
 obtain⟨es,ep,t,l,I,ao,R,au,V,wq⟩:=hx;have m:a<s.heap.objs.size:=hL1 I;unfold collect;refine wB1 (wpAny_runValue (wD1 PySem.F.entry_proto_collect (?_:_)));rw[Around.under_plainId PySem.F.plain_proto_collect _];show cP _ A.in1 (newList [] >>= λl=>again (.builtin "list.__iadd__" ⟨[l,.ref a],[]⟩)) _ _ s;refine wB1 (wO1 (?_:_));refine wP1 ⟨plainId_quiet PySem.F.plain_list_iadd _,wD1 PySem.F.entry_list_iadd (?_:_)⟩;rw[Around.under_plainId PySem.F.plain_list_iadd _];have z:(s.heap.push {cls:=.type "list",data:=.seq ([]:List cF).toArray}).get? s.heap.objs.size=Z {cls:=.type "list",data:=.seq ([]:List cF).toArray}:=hS1 _ O;have h:∀b u,s.heap.get? b=Z u->(s.heap.push {cls:=.type "list",data:=.seq ([]:List cF).toArray}).get? b=Z u:=λb u e=>hP1 _ e;have B:(s.heap.push {cls:=.type "list",data:=.seq ([]:List cF).toArray}).objs.size=s.heap.objs.size+1:=by rw[hZ1]
 have L:s.heap.objs.size≠a:=nG1 m;have h1:Builtin.List.listSameRef (.ref s.heap.objs.size) (.ref a)=J:=by simp[Builtin.List.listSameRef,L]
 show cP _ A.in1 (Builtin.List.listExtendWith (.ref s.heap.objs.size) (.ref a) (.ref s.heap.objs.size)) _ _ {s with heap:=s.heap.push {cls:=.type "list",data:=.seq ([]:List cF).toArray}};generalize s.heap.push {cls:=.type "list",data:=.seq ([]:List cF).toArray}=h₁ at *
 unfold Builtin.List.listExtendWith;refine wB1 (wpAny_typeOf (T:="set") ⟨_,h a _ I,O⟩ ?_);rw[aj (by rw[h1];decide)];refine wB1 (Bl (s:={s with heap:=h₁}) (h a _ I) au R V wq λit d p f pl g c K y G=>?_);dsimp only at g c G;have j:=g _ _ z;have r:Shared.TypeIs {s with heap:=d,drawn:=p} (.ref a) "set":=⟨_,g _ _ (h a _ I),O⟩;refine wB1 (wpAny_holding (Bm r ?_));rw[ak (by decide+kernel)];refine wB1 (wpAny_rule (wB1 ?_));show cP _ A.in1 (updateSeq s.heap.objs.size (·.push .none) >>= λ_=>updateSeq s.heap.objs.size (·.pop)) _ _ _;refine wB1 (wpAny_updateSeq (s:={s with heap:=d,drawn:=p}) j O ?_);have i:=hW1 (Obj.mapSeq (·.push Value.none)) j O;refine wpAny_updateSeq (s:={s with heap:=d.update s.heap.objs.size (Obj.mapSeq (·.push Value.none)),drawn:=p}) i O ?_;have x:=hW1 (Obj.mapSeq (·.pop)) i O;have n:∀b u,b≠s.heap.objs.size->d.get? b=Z u->((d.update s.heap.objs.size (Obj.mapSeq (·.push Value.none))).update s.heap.objs.size (Obj.mapSeq (·.pop))).get? b=Z u:=λb u C e=>by
  rw[hU1 _ _ _ _ C,hU1 _ _ _ _ C];exact e
 rw[B]at c G;have S:=y.perm;refine wP1 ⟨plainId_quiet PySem.F.plain_extend_loop _,Bk (it:=it) (pl:=pl) X au (nG1 (bc m c)) (nG1 m) (nN1 c) (fits_of_scanBound R) es.size 0
  {s with heap:=(d.update s.heap.objs.size (Obj.mapSeq (·.push Value.none))).update s.heap.objs.size (Obj.mapSeq (·.pop)),drawn:=p} f _ _ O (bf _) (n _ _ (nG1 c) K) (n a _ (nN1 m) (g _ _ (h a _ I))) (y.keep λD o e q=>n D o (nG1 (G D e).2) q) (λD e=>⟨(G D e).1,nG1 (G D e).2⟩) x O λh' F c' keep H U=>?_⟩
 show cP _ A (load s.heap.objs.size >>= _) _ _ {s with heap:=h',drawn:=p};refine wB1 (wpAny_load H ?_);have aq:∀v∈pl,∃k t,v=Value.int k t:=λv am=>by
  obtain⟨e,W,rfl⟩:=b7.mp (S.mem_iff.mp am);obtain⟨k,t,rfl⟩:=ao.el e W;exact⟨k,t,O⟩
 have all:∀vs:List cF,(∀v∈vs,∃k t,v=Value.int k t)->IntsAre vs (vs.map λv=>JP (0,v)):=by
  intro vs
  induction vs with
  |nil=>intro _;exact .nil
  |cons v vs ih=>
   intro am;obtain⟨k,t,rfl⟩:=am v mS1;exact .cons k t (ih λu hu=>am u (mC1 _ hu))
 refine wP1 (q h' p F.toList (pl.map λv=>JP (0,v)) (λb u e=>?_) (Nat.le_of_lt (hL1 H)) (by rw[U];exact all pl aq) ?_)
 ·have C:=hL1 e;exact keep b u (nN1 (bc C c)) (nN1 C) (n b u (nN1 C) (g _ _ (h b u e)))
 ·refine(S.map _).trans ?_;rw[bq];exact ao.pm
theorem sm {s:cG}{a:cH}{ns:List Int}{Q:cF->cG->Prop}(o:A.handled=none)(hx:jd (byT w) a ns s.heap)(g:ns.length<64)
  (q:∀h' d L n out,(∀b u,s.heap.get? b=Z u->h'.get? b=Z u)->s.heap.objs.size<=L->h'.get? L=Z (seqObj "list" out n)->IntsAre out.toList (hI ns)->Q (.ref L) {s with heap:=h',drawn:=d}):
  cP (model P w) A (call (.builtin "sorted") [.ref a]) Q E s:=by
 refine Calls.call_function_entry kind_sorted plain_sorted entry_sorted (args_sorted1 _) (?_:_);unfold Builtin.«sorted»;refine wB1 (m:=checkCount "sorted" 1 1 _) (wP1 (wB1 (uu o hx λh' d vs t keep r k l=>?_)));have f:vs.length<64:=by rw[k.length,l.length_eq];exact g
 refine wB1 (wpAny_newList (hsz:=by rw[sizeLine_eq];lia) ?_);have c:(h'.push (seqObj "list" vs.toArray 0)).get? h'.objs.size=Z (seqObj "list" vs.toArray 0):=hS1 _ O;show cP _ _ _ _ _ {s with heap:=h'.push (seqObj "list" vs.toArray 0),drawn:=d};refine wB1 (wpAny_holding (wE1 slot_list_sort ⟨_,c,O⟩ entry_list_sort (list_sort_tree (s:={s with heap:=h'.push (seqObj "list" vs.toArray 0),drawn:=d}) c k f λout i a1 a2 a3=>⟨_,O,?_⟩) (args_list_sort _)));have p:i=hI ns:=qk (a2.trans (l.trans (fi ns).symm)) a3 (nj ns);subst p;obtain⟨n,j⟩:=sortedHeap_at (out:=out) c;refine wP1 ⟨_,O,q _ d h'.objs.size n out (λb u e=>?_) r j a1⟩;have h:=keep b u e;show(sortedHeap (h'.push (seqObj "list" vs.toArray 0)) h'.objs.size vs out).get? b=Z u;rw[sortedHeap_old (nN1 (hL1 h)) (by rw[hZ1];exact Nat.lt_succ_of_lt (hL1 h))];exact hP1 _ h
end
def nV:G1:=λd S=>match dw S d with
 |some (M,xs)=>(va xs).bind λns=>if ns.length<64 then Z (.ref S.length,S++[.lst ((hI (ddI ns)).map D.int)])else Y
 |_=>Y
def Hn(X:Cx)(vs:List V)(H:Hp)(Q:VK):Prop:=∃a xs ns,vs=[.ref a]/\k4 X.K H a xs/\(∀us,dF xs us->IntsAre us ns)/\ns.length+1<scanBound /\ ∀p,H p=Y->Q (.ref p) (upd H p (.ext (jd (byT X.w) p (ddI ns))))
def Eu(X:Cx)(vs:List V)(H:Hp)(Q:VK):Prop:=∃a ns,vs=[.ref a]/\H a=Z (.ext (jd (byT X.w) a ns))/\ns.length<64 /\ ∀p,H p=Y->Q (.ref p) (upd H p (.lst ((hI ns).map V.int)))
theorem xk{ag:List (cH×Obj)}{σ:L2.St}{H:Hp}{s:cG}(I:Inv X ag σ H s)(d:Drawn):Inv X ag σ H {s with drawn:=d}:=⟨I.ok,I.os,I.bare,I.base,I.loc,I.cell,I.free,I.freeC,I.pin,I.hok,I.len⟩
theorem Gn(hc:X.calm=M):eh X (.type "set") (Hn X):=by
 intro ag s σ H xs n Q I r h;obtain⟨a,vs,ns,rfl,i,hi,j,q⟩:=h;obtain⟨u,rfl,r2⟩:=gL r;cases r2;obtain⟨b,g,p,m⟩:=I.list i;have f:=hi b g;refine xG (I.ok.hd hc) p.isList (by simpa using f) j λh' tk keep d=>?_;have c:=I.hok.fresh (nR1 s.heap.objs.size);refine⟨.ref s.heap.objs.size,_,I.laid (t':=tk) (o:=.ext (jd (byT X.w) s.heap.objs.size (ddI ns))) keep (nR1 _) ⟨d,?_,λh1 h2 x k=>x.old k⟩,O,q _ c⟩;obtain⟨es,ep,t,l,e,_⟩:=d;exact⟨_,e⟩
theorem Db(hc:X.calm=M):eh X (.builtin "sorted") (Eu X):=by
 intro ag s σ H xs k Q I r h;obtain⟨a,ns,rfl,e,f,q⟩:=h;obtain⟨u,rfl,r2⟩:=gL r;cases r2;obtain⟨j,_⟩:=(show dZ X.prog X.w H s.heap a (.ext (jd (byT X.w) a ns))from I.hok a _ e);refine sm (I.ok.hd hc) j f λh' i L n out keep d c g=>?_;have b:=I.hok.fresh d;refine⟨.ref L,_,xk (I.laid (t':=s.toks) (o:=.lst ((hI ns).map V.int)) keep d ⟨?_,out.toList,n,pz g,by rw[bX];exact c⟩) i,O,q _ b⟩;rw[lM1,(fi ns).length_eq,sizeLine_eq];lia
theorem Iu(ns:List Int):(ddI ns).length<=ns.length:=by
 have:=nY ns [];unfold ddI;simpa using this
theorem wF (hc:X.calm=true){o:Expr}{m:FE}{p p2 pos b:Pos}(hg:Gl X "sorted")(hm:X.mg "sorted"=none)(hg2:Gl X "set")(hm2:X.mg "set"=none)(ho:XE X o m)
  (he:autoParam (cN [.Call (.Name "set" p2) [o] [] b] X.env=[(J,eval (.Call (.Name "set" p2) [o] [] b) X.env)]) cu0) (c:autoParam (cN [o] X.env=[(J,eval o X.env)]) cu0):XE X (.Call (.Name "sorted" p) [.Call (.Name "set" p2) [o] [] b] [] pos) (mN (b1 nV) (cV m cW)):=
 ⟨d3 (nB (Db hc) hg hm (by decide+kernel) (ig (jh (Gn hc) hg2 hm2 (by decide+kernel) (ig ho.h lg c) (he:=c)) lg he) (he:=he)) <| by
  rintro σ H Q ⟨r,mu,S,d,E,he,n,hm,f⟩;obtain⟨⟨ds,D⟩,g,hm⟩:=oB1.mp hm;obtain⟨⟨l,C⟩,x,g⟩:=oB1.mp g;cases g;dsimp only[b1,nV]at hm;split at hm
  ·rename_i xs z;obtain⟨ns,A,hm⟩:=oB1.mp hm;split at hm
   ·rename_i j;cases hm;refine⟨r,mu,S,l,_,he,n,x,λv H1 mu1 w s i=>?_⟩;obtain⟨a,vs,rfl,q,t⟩:=dh s i z;refine⟨a,vs,ns,O,q,λF B=>(xl t B A).1,bc (Nat.succ_lt_succ j) (by decide),λp h=>?_⟩;refine⟨p,ddI ns,O,di,bC (Iu ns) j,λp2 e=>?_⟩;have y:Ext mu1 mu1 H1 (upd H1 p (.ext (jd (byT X.w) p (ddI ns)))):=Ext.fresh h;have k:=i.fresh (u:=.ext (jd (byT X.w) p (ddI ns))) h;exact f _ _ (mu1++[p2]) (w.trans (y.trans (Ext.new_ e))) (.ref (gb k.len _)) (k.newL (jg _) e)
   ·cases hm
  ·cases hm⟩
section
variable{ag:List (cH×Obj)}{σ:L2.St}{H:Hp}{s:cG}{a:cH}{kvs:List (Key×V)}{k:Key}{v:V}{u r:cF}{A:cJ}{E:cF->cG->Prop}
end
open AutoSeq1 (wpAny_loadPart')
section
variable{prog:cI}{w:cK}{A:cJ}{E:cF->cG->Prop}{s:cG}
theorem tQ{Q:List cF->cG->Prop}{r:cH}{a b c:Int}{t u v:Tok}{n:Nat}(z:A.handled=none)(hr:IsRange s.heap r a b c t u v)(hsmall:Builtin.Range.small a b c=true)(hn:Builtin.Range.rangeSize a b c=n)(m:n<=2^24)(D:∀h' tk d,(∀b o',s.heap.get? b=some o'->h'.get? b=some o')->ItemsOf (fun i v=>∃t,v = .int (a+i*c) t) d n->Q d.toList {s with heap:=h',toks:=tk}):
  cP (model prog w) A (collect (.ref r)) Q E s:=by
 unfold collect;refine wB1 (wpAny_runValue (wD1 F.entry_proto_collect (?_:_)));rw [Around.under_plainId F.plain_proto_collect _];show cP _ A.in1 (newList [] >>= fun l=>again (.builtin "list.__iadd__" ⟨[l,.ref r],[]⟩)) _ _ s;refine wB1 (wO1 (?_:_));refine wP1 ⟨plainId_quiet F.plain_list_iadd _,wD1 F.entry_list_iadd (?_:_)⟩;rw [Around.under_plainId F.plain_list_iadd _];show cP _ A.in1 (Builtin.List.listExtendWith (.ref s.heap.objs.size) (.ref r) (.ref s.heap.objs.size)) _ _ _;have C:(s.heap.push {cls:=.type "list",data:=.seq ([]:List cF).toArray}).get? s.heap.objs.size=some {cls:=.type "list",data:=.seq #[] 0}:=hS1 _ rfl;have j:∀ h' tk d g,(∀ b o',s.heap.get? b=some o'->h'.get? b=some o')->h'.get? s.heap.objs.size=some {cls:=.type "list",dict:=none,data:=.seq d g,slots:= #[]}->ItemsOf (fun i v=>∃ t,v = .int (a+i*c) t) d n ->
   cP (model prog w) A (match Value.ref s.heap.objs.size with
   |Value.ref a=>do
    match (<- load a).data with
     |Data.seq xs _=>pure xs.toList
     |_=>unsupported "internal:collect"
   |_=>unsupported "internal:collect") Q E {s with heap:=h',toks:=tk}:=by
  intro h' tk d g p k y;show cP _ A (load s.heap.objs.size >>= _) _ _ _;refine wB1 (wpAny_load k (?_:_));refine wP1 (?_:_);exact D h' tk d p y
 refine wpAny_mono (wpAny_extend_range (A:=A) (R:=λG s'=>∃h' tk d g,G = .ok (.ret (.ref s.heap.objs.size))/\s'={s with heap:=h',toks:=tk}/\(∀b o',s.heap.get? b=Z o'->h'.get? b=Z o')/\h'.get? s.heap.objs.size=Z {cls:=.type "list",dict:=Y,data:=.seq d g,slots:= #[]}/\ItemsOf (λi v=>∃t,v = .int (a+i*c) t) d n)
  (s:={s with heap:=s.heap.push {cls:=.type "list",data:=.seq ([]:List cF).toArray}}) z (hP1 _ hr) hsmall hn m _ _ 0 C λh' tk d g p k y=>
   ⟨h',tk,d,g,O,O,λb o e=>p b o (nN1 (hL1 e)) (hP1 _ e),k,y⟩) (λx s' h=>?_) (λe s' h=>?_)
 ·cases x with
  |done f=>
   obtain⟨h',tk,d,g,e,rfl,q⟩:=h;cases e;exact j h' tk d g q.1 q.2.1 q.2.2
  |again g=>exact⟨h.1,codeAny_mono h.2 λr B hr=>by obtain⟨h',tk,d,g,rfl,rfl,q⟩:=hr;exact j h' tk d g q.1 q.2.1 q.2.2⟩
 ·obtain⟨_,_,_,_,e,_⟩:=h;cases e
end
theorem uY(r:cH)(a b c:Int)(t u v:Tok)(n:Nat)(hsmall:Builtin.Range.small a b c=true)(hn:Builtin.Range.rangeSize a b c=n)(f:n<=2^20):
  Meets (Builtin.«tuple.__new__» ⟨[.type "tuple",.ref r],[]⟩)
   (λA R s=>A.handled=Y/\IsRange s.heap r a b c t u v /\ ∀(h':cR) (tk:Nat) (acc:Array cF),(∀b o',s.heap.get? b=Z o'->h'.get? b=Z o')->ItemsOf (λi v=>∃t,v = .int (a+i*c) t) acc n ->
    R (.ok (.ret (.ref h'.objs.size))) {s with heap:=h'.push {cls:=.type "tuple",data:=.seq acc},toks:=tk}):=
 .of_wp λprog w A R s h=>by
  obtain⟨q,g,d,m,B⟩:=s;obtain⟨z,l,h⟩:=h;have p:=sub_tuple_self;have j:=init_tuple_lookup;have C:=madeHere_tuple;have x:Shared.TypeIs ⟨q,g,d,m,B⟩ (.ref r) "range":=⟨_,l,O⟩;have k:A.in1.handled=Y:=z
  wp_walk using wpAny_loadPart' l,wpAny_typeOf x,tQ k l hsmall hn (aB f (by decide))
  intro h' tk acc y o;show cP _ _ (Builtin.Tuple.tupleExact acc.toList.toArray >>= λv=>ret v) _ _ _;unfold Builtin.Tuple.tupleExact;have D:n<=cO:=aB f (by decide);refine wB1 (wO1 (?_:_) (show acc.toList.toArray.size<=cO by simp only[bX];rw[o.1];exact D));refine wP1 ⟨_,O,(?_:_)⟩;have e:acc.toList.toArray=acc:=by simp
  rw[e];exact h h' tk acc y o
theorem Gk(hc:X.calm=M):eh X (.type "tuple") (λxs H Q=>∃p i j,xs=[.ref p]/\H p=Z (.rng i j)/\(-(2^62)<=i/\i<2^62 /\ -(2^62)<=j/\j<2^62)/\(j-i).toNat<=2^20 /\ ∀l,H l=Y->Q (.ref l) (upd H l (.tup (js i (j-i).toNat)))):=by
 intro ag s σ H xs K Q I r h;obtain⟨p,i,j,rfl,w,⟨h1,h2,z,am⟩,m,q⟩:=h;obtain⟨u,rfl,C⟩:=gL r;cases C;obtain⟨t,u,v,e⟩:=I.hok p _ w;have G:(((j-i).toNat:Nat):Int)=Builtin.Range.rangeSize i j 1:=by rw[rangeSize_one];split<;>lia
 refine callType_new F.called_tuple (by decide) (F.typeCall_tuple_1 _) (F.newCall_tuple_1 _) (λg=>F.args_object_init_2 g _) F.entry_tuple_new
  (uY p i j 1 t u v (j-i).toNat (small_one h1 h2 z am) G.symm m) ⟨I.ok.hd hc,e,λh' tk a y hi=>⟨⟨_,hS1 _ O,O⟩,(?_:_)⟩⟩
 obtain⟨f,d⟩:=hi;have c:dF (js i (j-i).toNat) a.toList:=p0 (by rw[iS];simpa using f.symm) λk x u E A=>by
  rw[ny _ _ _ _ E];obtain⟨D,rfl⟩:=d k u (by simpa using A);exact⟨D,by rw[Int.mul_one]⟩
 have n:Inv X ag σ H {s with heap:=h',toks:=tk}:=I.kept (t':=tk) y;have B:Inv X ag σ (upd H h'.objs.size (.tup (js i (j-i).toNat))) {s with heap:=h'.push {cls:=.type "tuple",data:=.seq a},toks:=tk}:=
  n.laid (t':=tk) (λb o e=>hP1 _ e) (nR1 _) (show dZ X.prog X.w _ _ _ (.tup _)from⟨by rw[iS];exact aB m (by decide),a.toList,c,by simpa using IsTup.new _ _⟩)
 exact⟨.ref h'.objs.size,_,B,O,q _ (n.hok.fresh (nR1 _))⟩
def CA(m:FA):FE:=λr S=>(m r S).bind λp=>match p.1 with
 |[.int j]=>if nz 0 j=M then Z (.tup (gZ 0 j.toNat),p.2)else Y
 |_=>Y
theorem yb {a:Expr}{m:FA}{e p2 b c:Pos}(hc:X.calm=true)(hg:Gl X "range")(hm:X.mg "range"=none)(hg2:Gl X "tuple")(hm2:X.mg "tuple"=none)(ha:XA X [a] m)(hs:autoParam (cN [a] X.env=[(false,eval a X.env)]) cu0)
  (hs2:autoParam (cN [.Call (.Name "range" e) [a] [] b] X.env=[(J,eval (.Call (.Name "range" e) [a] [] b) X.env)]) cu0):XE X (.Call (.Name "tuple" p2) [.Call (.Name "range" e) [a] [] b] [] c) (CA m):=
 ⟨d3 (jh (Gk hc) hg2 hm2 (by decide+kernel) (ig (pa hg hm ha.h hs) lg hs2) (by decide) (by decide) hs2) <| by
  rintro σ H Q ⟨r,mu,S,d,w,k,hs,hm,f⟩;obtain⟨⟨ds,x⟩,n,hm⟩:=oB1.mp hm;dsimp only at hm;split at hm
  ·rename_i j;split at hm
   ·rename_i i;cases hm;refine⟨r,mu,S,_,_,k,hs,n,λvs H1 mu1 s q t=>?_⟩;obtain⟨v,rfl,o⟩:=kl q;cases o;refine⟨j,O,λp g=>⟨p,0,j,O,di,(kk i).1,(kk i).2,λl h=>?_⟩⟩;have x2:=(s.trans (Ext.fresh (u:=.rng 0 j) g)).trans (Ext.fresh (u:=.tup (js 0 (j-0).toNat)) h);exact f _ _ mu1 x2 (.tup (jv.of di) (by rw[Int.sub_zero];exact nw _ _)) ((t.fresh g).fresh h)
   ·cases hm
  ·cases hm⟩
section
variable{P:cI}{w:cK}{A:cJ}{E:cF->cG->Prop}{s:cG}
end
section
variable{a b:Expr}{rest:List Expr}{pos:Pos}{ta tb:TE}{f g:FE}
end
theorem KR.len{K:Fg1}{H:Hp}{mu:List cH}{ks:List (Key×D)}{ws:List (Key×V)}(h:KR K H mu ks ws):ws.length=ks.length:=by
 induction h with
 |nil=>rfl
 |cons _ _ ih=>rw[lC1,lC1,ih]
def pA:G1:=λd S=>match d with
 | .ref n=>match S[n]? with
  |some (.dct kvs)=>Z (.int kvs.length,S)
  |_=>d4 d S
 |_=>d4 d S
theorem Gp:eh X (.builtin "len") (rN X.K (b1 pA)):=by
 intro ag s σ H xs i Q I r h;obtain⟨x,mu,S,d,j,g,c,f,b,a,hc⟩:=yS h;have l:=a;unfold pA at a;split at a
 ·rename_i n;split at a
  ·rename_i ys e;cases a;subst c;cases f with
   |ref q=>
    obtain⟨ws,m,k⟩:=b.dct e q;cases r with
    |cons o rt=>
     cases rt;cases o;refine Iv I (Rd.of m) λt s' p=>⟨.int ws.length,H,p,⟨_,O⟩,?_⟩;rw[k.len];exact hc.now (.int _) b
  ·exact ev ag s σ H xs i Q I r (by subst c;exact⟨mu,S,[_],j,g,.cons f .nil,b,(show b1 d4 [_] S=_ from a),hc⟩)
 ·exact ev ag s σ H xs i Q I r (by subst c;exact⟨mu,S,[_],j,g,.cons f .nil,b,(show b1 d4 [_] S=_ from a),hc⟩)
section
variable{P:cI}{w:cK}{A:cJ}{E:cF->cG->Prop}{b:Bool}
end
theorem u9:∀{us:List cF} {ns:List Int},IntsAre us ns -> ∃xs:Array (Int×Tok),us.toArray=intItems xs/\xs.toList.map (·.1)=ns:=by
 intro us ns h
 induction h with
 |nil=>exact⟨#[],by simp[intItems],O⟩
 |cons n t _ ih=>
  obtain⟨xs,c,b⟩:=ih;refine⟨((n,t)::xs.toList).toArray,?_,by rw[mP1,b]⟩;have a:=congrArg Array.toList c;unfold intItems at a ⊢;rw[Array.toList_map]at a;rw[List.map_toArray,mP1]
  congr 1
  rw[<- a]
section
variable{prog:cI}{w:cK}{A:cJ}{E:cF->cG->Prop}{s:cG}
end
noncomputable def Ar:D->Option Int
 | .tup (.int k::_)=>Z k
 |_=>Y
section
variable{ag:List (cH×Obj)}{σ:L2.St}{H:Hp}{s:cG}{mu:List cH}
theorem row_at(I:Inv X ag σ H s):∀{ds:List D} {vs:List V} {its:List cF} {i:Nat} {d:D} {k:Int},db X.K H mu ds vs->dF vs its->ds[i]?=Z d->Ar d=Z k -> ∃b t ps,its[i]?=Z (.ref b)/\IsTup s.heap b (Value.int k t::ps).toArray:=by
 intro ds
 induction ds with
 |nil=>intro vs its i d k _ _ h;simp at h
 |cons x ds ih=>
  intro vs its i d k t g h a;cases t with
  |cons m t=>
   cases g with
   |cons n j=>
    cases i with
    |zero=>
     have:x=d:=by simpa using h
     subst this;unfold Ar at a;split at a
     ·rename_i o rest;cases a;cases m with
      |tup q f=>
       obtain⟨is,c,it,_⟩:=I.tuple q;cases f with
       |cons rk p=>
        cases rk;cases c with
        |cons l _=>
         obtain⟨tk,rfl⟩:=l;cases n;exact⟨_,tk,_,O,it⟩
     ·cases a
    |succ i=>
     obtain⟨b,tk,ps,e,h⟩:=ih t j (by simpa using h) a;exact⟨b,tk,ps,by simpa using e,h⟩
end
section
variable{f:cH}{fd:cS}{ps:List Str}{k n:Nat}{sp:Sp}{dvs:List V}{ds:List cF}{CX:x3}{E:XK}{t:TA}{e:Expr}{es:List Expr}{p pos:Pos}{i:Nat}{v x:Str}
end
section
variable{prog:cI}{w:cK}{K:Type} [DecidableEq K] {knd:HeapKind prog w K}{A:cJ}{E:cF->cG->Prop}{s:cG}
theorem uZ{d:cH}(hd:(d == sysModules)=false):
  MeetsIn prog w (Builtin.«dict.__len__» ⟨[.ref d],[]⟩) (λ_ R s=>∃xs,s.heap.DictOfH knd d xs/\R (.ok (.ret (.int xs.length s.toks))) {s with toks:=s.toks+1}):=
 .of_wp λA R s ⟨xs,c,h⟩=>by
  obtain⟨o,es,ep,e,hc,a,b,_⟩:=c;show cP _ _ (dictSize d >>= _) _ _ s;unfold dictSize;refine wB1 (wB1 (wpAny_dictEntries e a (wP1 ?_)));show cP _ _ (Builtin.Dict.pendingCount d >>= _) _ _ s;refine wB1 (wpAny_pendingCount_other hd ?_);refine wpAny_ret_mkInt ?_;rw[Nat.add_zero,size_of_entries b];exact h
theorem xK{d:cH}{xs:List (K×cH×cF)}{Q:cF->cG->Prop}(hd:(d == sysModules)=J)(hm:s.heap.DictOfH knd d xs)(a:(xs.length:Int)<2^63)(h:Q (.int xs.length (s.toks+1)) {s with toks:=s.toks+1+1}):cP (model prog w) A (call (.builtin "len") [.ref d]) Q E s:=by
 refine Calls.call_function_entry kind_len plain_len entry_len (args_len1 _) ?_;unfold Builtin.«len»;refine wB1 (m:=oneArg "len" _) (wP1 ?_);refine wB1 (m:=callSpecial? (.ref d) (Str.ofString "__len__")) (wpAny_callSpecial?_slot (name:=Str.ofString "__len__") hm.typeIs F.slot_dict_len
  (call_meetsIn F.slot_dict_len hm.typeIs F.entry_dict_len (F.args_dict_len_1 _) (uZ (knd:=knd) hd) ⟨xs,hm,?_⟩))
 show cP _ _ _ _ _ {s with toks:=s.toks+1};refine wB1 (wpAny_holding (wP1 ?_));refine wB1 (wpAny_letGo ?_);show cP _ _ (if((xs.length:Nat):Int)<0 then _ else _) _ _ _;rw[aj (by omega)];show cP _ _ (if((xs.length:Nat):Int)>=2^63 then _ else _) _ _ _;rw[aj (by omega)];exact wB1 (wpAny_mkInt (wP1 ⟨_,O,h⟩))
end
def l6:G1:=λd S=>match d with
 | .ref n=>match S[n]? with
  |some (.dcT kvs)=>Z (.int kvs.length,S)
  |_=>pA d S
 |_=>pA d S
theorem Go:eh X (.builtin "len") (rN X.K (b1 l6)):=by
 intro ag s σ H xs i Q I r h;obtain⟨x,mu,S,d,j,f,g,k,b,a,hc⟩:=yS h;have back:pA d S=Z (j,f)->cP (model X.prog X.w) X.A (call (.builtin "len") i) (EP X ag σ Q) X.xe s:=λa=>Gp ag s σ H xs i Q I r (by subst g;exact⟨mu,S,[d],j,f,.cons k .nil,b,(show b1 pA [d] S=_ from a),hc⟩);unfold l6 at a;split at a
 ·rename_i n;split at a
  ·rename_i ys e;cases a;subst g;cases k with
   |ref t=>
    obtain⟨ws,o,c,p⟩:=b.dcT e t;obtain⟨l,m⟩:=pG I o c;cases r with
    |cons q rt=>
     cases rt;cases q;refine xK l m (by rw[sizeLine_eq]at p;lia) ?_;refine⟨.int ws.length,H,I.tok _,⟨_,O⟩,?_⟩;rw[<- c.length];exact hc.now (.int _) b
  ·exact back a
 ·exact back a
theorem Jx.fits{es:Array (Int×cF)}{t:SetTable}(h:Jx es t):t.fits es.size=M:=by
 unfold SetTable.fits SetTable.fill;rw[h.du,h.sz];have:=h.fl;simp;exact this
def IT(h:cR)(k:TK)(e:Int×cF):Prop:=∃a,e=(k.hash,.ref a)/\fZ h k (.ref a)/\k.dep<=8
section
variable{prog:cI}{w:cK}{A:cJ}{E:cF->cG->Prop}{s:cG}
end
theorem fZ.keepsS{h h':cR}{p:cH}{es:Array (Int×cF)}{ep:Nat}{t:SetTable}(ho:h.get? p=some (stO es ep t))(hs:∀ a o,a≠p->h.get? a=some o->h'.get? a=some o):∀ {k:TK} {v:cF},fZ h k v->fZ h' k v:=fun f=>f.rec (motive_1:=fun k v _=>fZ h' k v) (motive_2:=fun k v _=>gH h' k v) .non .int
  (λ{a} _ _ _ _ d e c _ ih=>.tup (hs a _ (λz=>by subst z;rw[d]at ho;cases ho;cases c) d) e c ih) .nil (λ_ _ a b=>.cons a b)
theorem IT.keep{h h':cR}{p:cH}{es:Array (Int×cF)}{ep:Nat}{t:SetTable}(ho:h.get? p=Z (stO es ep t))(hs:∀a o,a≠p->h.get? a=Z o->h'.get? a=Z o){k:TK}{e:Int×cF}(x:IT h k e):IT h' k e:=by
 obtain⟨a,d,c,b⟩:=x;exact⟨a,d,c.keepsS ho hs,b⟩
def IJ(h:cR)(xs:List (TK×cH×cF)):Prop:=∀z∈xs,fZ h z.1 (.ref z.2.1)/\z.1.dep<=8
theorem IJ.el{h:cR}{xs:List (TK×cH×cF)}{es:Array (Int×cF)}(b:IJ h xs)(a:∀e∈es.toList,∃z∈xs,e=(z.1.hash,.ref z.2.1)):∀e∈es.toList,∃f,IT h f e:=λe d=>by
 obtain⟨z,c,rfl⟩:=a e d;exact⟨z.1,z.2.1,O,(b z c).1,(b z c).2⟩
section
variable{P:cI}{w:cK}{A:cJ}{E:cF->cG->Prop}{s:cG}{p:cH}{xs:List (TK×cH×cF)}
end
section
variable{P:cI}{w:cK}{A:cJ}{E:cF->cG->Prop}
end
section
variable{pos:Pos}
theorem sn(i:Nat){x:Str}{e:Expr}{m:FE}{pos':Pos}(hN:X.N.Nodup)(he:XE X e m)(hi:autoParam (X.N[i]?=Z x) cu0)(hx:autoParam (uf X.env.scope x) au0)(hs:autoParam (swapsWith e (Z (.Name x pos')) pos.line X.env=pure J) cu0)(hf:autoParam (X.fn x=M\/X.env.scope.names.lookup x=Z .local) au0):XS X (.Assign [.Name x pos'] e pos) (de m (gN i)):=qY i hN hi hx he hs hf
theorem wo {k k' n:Nat}{x:Str}{m:FN}{p:Pos}{e:Expr}{es:List Expr}{a:FA}(h:d0 X.prog X.w X.K X.mg X.base k x n m)(hr:fb k' X.A)(ha:XA X (e::es) a)(hk:k<=k':=by first|decide|omega)(hg:autoParam (Gl X x) cu0)(hdb:autoParam ((x == ("__debug__":Str))=J) bu0)(he:autoParam (cN (e::es) X.env=(J,eval e X.env)::cN es X.env) cu0)(hpl:autoParam ((backTo pos (cN es X.env)).any (·.1)=J) cu0):XE X (.Call (.Name x p) (e::es) [] pos) (mN (cY n m) a):=qH h hr hk hg ha hdb he hpl
theorem ce{op:CmpOp}{x y:Expr}{f:FN}{a b:FE}(ho:fy X (compareOp op) (r2 X.K f))(hx:XE X x a)(hy:XE X y b)(hm:behindInMarks op y=J:=by exact zz _):XE X (.Compare x [op] [y] pos) (m2 f a b):=Bg ho hx hy hm
theorem ct{op:CmpOp}{x y:Expr}{f:FN}{a b:FE}(ho:fy X (compareOp op) (r2 X.K f))(hx:XE X x a)(hy:XE X y b)(hm:autoParam (behindInMarks op y=J) ce._auto_1):XT X (.Compare x [op] [y] pos) (mB (m2 f a b)):=qX ho hx hy hm
theorem kc{a:cU}{i:Nat}{l:List Nat}(x:Str)(r:∀i∈l,∃x,X.N[i]?=Z x/\a.names.lookup x=Z .free/\(X.env.kindOf x=Z .cell\/X.env.kindOf x=Z .free)/\(x,NameKind.cell)∉a.names)(h1:autoParam (X.N[i]?=Z x) cu0)(h2:autoParam (a.names.lookup x=Z .free) cu0)(b:autoParam (X.env.kindOf x=Z .cell\/X.env.kindOf x=Z .free) au0)(c:autoParam ((x,NameKind.cell)∉a.names) eu0):∀j∈i::l,∃x,X.N[j]?=Z x/\a.names.lookup x=Z .free/\(X.env.kindOf x=Z .cell\/X.env.kindOf x=Z .free)/\(x,NameKind.cell)∉a.names:=cg.mpr ⟨⟨x,h1,h2,b,c⟩,r⟩
end
structure dr (K:Fg1)(x:Str)(st:cT)(f:cH):Prop where
 ns:wN1 K cM x=some (some (.ref f))
 fn:∃fd,xZ K x x st f fd
theorem Il{K:Fg1}{x:Str}{st:cT}{f:cH}{j:cF}{g i:Option cH}{e:Array (Option cF)}{kV d h b ct:cF}(a:wN1 K cM x=Z (Z (.ref f)))(l:K.lookup f=Z ⟨j,g,.func (wF1 x x (gW st) (eK st) (dv st) .none kV d h i b ct),e⟩)(c:wC1 K b x=M)(k:wK1 K (.ref f)=M):dr K x st f:=⟨a,_,Aq l c k⟩
theorem xo{P:cI}{w:cK}{K:Fg1}{mg:Str->Option cF}{base h:cR}{x:Str}{st:cT}{f:cH}{N ps:List Str}{k n:Nat}{b:FS}(X:K.In h)(G:h.Ns cM mg)(F:dr K x st f)(S:fS N ps (dv st))(hb:∀(kV e i:cF) (j:Option cH) (a ct:cF) (us:List cF),us.length=ps.length->bindArgs (wF1 x x (gW st) (eK st) (dv st) .none kV e i j a ct) ⟨us,[]⟩=pure (ps.zip us))(c:∀(f:cH) (a:cF) (A:cJ) (d:List Env) (s:cG) (H:Hp) (E:XK),fb k (A.deeper (envOfC x (dv st) s.heap.objs.size f a)) ->
   vw (mD uh P w K mg base N x (dv st) f a A d s H E).nox (eK st) b)(hn:autoParam (ps.length=n) cu0):d0 P w K mg base (k+1) x n (fG N.length b):=by
 obtain⟨fd,g⟩:=F.fn;exact Be g (g.binds hb) (wM1 X G F.ns) S hn (c f)
section
variable{ag:List (cH×Obj)}{σ:L2.St}{H:Hp}{s:cG}{mu:List cH}
end
section
variable{P:cI}{w:cK}{A:cJ}{E:cF->cG->Prop}{s:cG}{a x:cH}{xs:List (TK×cH×cF)}{k:TK}
end
section
variable{o e:Expr}{es:List Expr}{to:TE}{t:TA}{name:Str}{apos cpos:Pos}{id:String}{r:V->List V->Hp->VK->Prop}
end
section
variable{x y z u:Expr}{pos:Pos}{f g k:FN}{a b c d:FE}{op op' op'':CmpOp}{ta tb tc td:TE}
end
structure Blt (L:List Str)(mg:Str->Option cF):Prop where
 h:∀x∈L,mg x=none
theorem bz{L:List Str}{mg:Str->Option cF}{x:Str}(B:Blt L mg)(h:autoParam (x∈L) bu0):mg x=Y:=B.h x h
theorem sk{N P:List Str}{sc:cU}(h1:autoParam (sc.kind = .function) cu0)(h2:autoParam (sc.isCoroutine=J) cu0)(a:autoParam (sc.isGenerator=J) cu0)(e:autoParam (N.Nodup) eu0)(b:autoParam (N.take P.length=P) cu0)(c:autoParam (∀x∈P,sc.names.lookup x=Z .local\/sc.names.lookup x=Z .cell) eu0)(d:autoParam (∀y∈sc.names,y.2 ≠ .free) eu0):fS N P sc:=⟨h1,h2,a,e,b,c,d⟩
def IH(K:Fg1):List Str->Prop
 |[]=>True
 |x::l=>wN1 K cM x=Z Y/\IH K l
theorem IH.blt{K:Fg1}{mg:Str->Option cF}{h:cR}(X:K.In h)(G:h.Ns cM mg):∀{L:List Str},IH K L->Blt L mg
 |[],_=>⟨λ_ m=>nomatch m⟩
 |_::_,z=>⟨λ_ m=>match m with
  | .head _=>PySem.W.mg_none_of X G z.1
  | .tail _ m=>(IH.blt X G z.2).h _ m⟩
noncomputable def IW:List Str->Bool
 |[]=>M
 |x::l=> !l.contains x&&IW l
theorem gg:∀{l:List Str},IW l=M->l.Nodup
 |[],_=>bj
 |x::l,h=>by
  obtain⟨a,b⟩:=(bA1 _ _).mp h;exact aL.mpr ⟨λm=>(by rw[List.contains_iff_mem.mpr m]at a;cases a),gg b⟩
section
variable{pos:Pos}{k:Nat}{x:Str}{i:Nat}{e y:Expr}{es:List Expr}{m b:FE}{a:FA}{p:Pos}
theorem xv (hN:autoParam (X.N[i]?=Z x) cu0)(hv:autoParam (Vis X.env.scope x) au0)(hd:autoParam ((x == ("__debug__":Str))=J) bu0)(hcd:autoParam ((x == ("__classdict__":Str))=J) bu0):XE X (.Name x pos) (mV i):=Kk i hN hv hd hcd
theorem gq(hN:autoParam (IW X.N=M) cu0)(hi:autoParam (X.N[i]?=Z x) cu0)(hx:autoParam (uf X.env.scope x) au0)(hf:autoParam (X.fn x=M\/X.env.scope.names.lookup x=Z .local) au0):XG X (.Name x pos) (gN i):=qO i (gg hN) hi hx hf
theorem sq(he:XE X e m)(hN:autoParam (IW X.N=M) cu0)(hi:autoParam (X.N[i]?=Z x) cu0)(hx:autoParam (uf X.env.scope x) au0)(hs:autoParam (swapsWith e (Z (.Name x p)) pos.line X.env=pure J) cu0)(hf:autoParam (X.fn x=M\/X.env.scope.names.lookup x=Z .local) au0):XS X (.Assign [.Name x p] e pos) (de m (gN i)):=qY i (gg hN) hi hx he hs hf
theorem jq(hx:XE X e m)(hy:XE X y b)(hr:autoParam (fb k X.A) fu0)(hs:autoParam (mW y) wK._auto_1):XE X (.Subscript e y pos) (m2 (b2 da) m b):=qJ (qP hr.units) hx hy hs
theorem oq{au:Prop}(o:X.A.units+64<cLine->au)(hr:autoParam (fb k X.A) fu0):au:=o hr.units
theorem wn {k' n:Nat}{f:FN}(h:d0 X.prog X.w X.K X.mg X.base k x n f)(ha:XA X (e::es) a)(hr:autoParam (fb k' X.A) fu0)(hk:autoParam (k<=k') wo._auto_1)(hg:autoParam (Gl X x) cu0)(hdb:autoParam ((x == ("__debug__":Str))=J) bu0)(he:autoParam (cN (e::es) X.env=(J,eval e X.env)::cN es X.env) cu0)(hpl:autoParam ((backTo pos (cN es X.env)).any (·.1)=J) cu0):XE X (.Call (.Name x p) (e::es) [] pos) (mN (cY n f) a):=qH h hr hk hg ha hdb he hpl
theorem cn {id:String}{f:FN}(hc:eh X (.builtin id) (rN X.K f))(ha:XA X (e::es) a)(hm:X.mg x=Y:=by exact bz (by assumption))(hg:autoParam (Gl X x) cu0)(hv:autoParam (bootBuiltins x=Z (.builtin id)) eu0)(hn:autoParam (x≠"__name__") bu0)(hdb:autoParam ((x == ("__debug__":Str))=J) bu0)(he:autoParam (cN (e::es) X.env=(J,eval e X.env)::cN es X.env) cu0)(hpl:autoParam ((backTo pos (cN es X.env)).any (·.1)=J) cu0):XE X (.Call (.Name x p) (e::es) [] pos) (mN f a):=qD hc hg hm hv ha hn hdb he hpl
theorem cz {T:String}{f:FN}(hc:eh X (.type T) (rN X.K f))(ha:XA X (e::es) a)(hm:autoParam (X.mg x=Y) cn._auto_1)(hg:autoParam (Gl X x) cu0)(hv:autoParam (bootBuiltins x=Z (.type T)) eu0)(hn:autoParam (x≠"__name__") bu0)(hdb:autoParam ((x == ("__debug__":Str))=J) bu0)(he:autoParam (cN (e::es) X.env=(J,eval e X.env)::cN es X.env) cu0)(hpl:autoParam ((backTo pos (cN es X.env)).any (·.1)=J) cu0):XE X (.Call (.Name x p) (e::es) [] pos) (mN f a):=qE hc hg hm hv ha hn hdb he hpl
theorem a1(h:XE X e m)(hs:autoParam (cN [e] X.env=(J,eval e X.env)::cN [] X.env) cu0):XA X [e] (cV m cW):=qA h qN hs
theorem a2(h:XE X e m)(g:XE X y b)(hs:autoParam (cN [e,y] X.env=(J,eval e X.env)::cN [y] X.env) cu0)(hs2:autoParam (cN [y] X.env=(J,eval y X.env)::cN [] X.env) cu0):XA X [e,y] (cV m (cV b cW)):=qA h (a1 g hs2) hs
theorem a3{z:Expr}{c:FE}(h:XE X e m)(g:XE X y b)(l:XE X z c)(hs:autoParam (cN [e,y,z] X.env=(J,eval e X.env)::cN [y,z] X.env) cu0)(hs2:autoParam (cN [y,z] X.env=(J,eval y X.env)::cN [z] X.env) cu0)(a:autoParam (cN [z] X.env=(J,eval z X.env)::cN [] X.env) cu0):XA X [e,y,z] (cV m (cV b (cV c cW))):=qA h (a2 g l hs2 a) hs
theorem ir (ha:XA X [e] a)(hm:autoParam (X.mg "range"=Y) cn._auto_1)(hg:autoParam (Gl X "range") cu0)(hs:autoParam (cN [e] X.env=[(J,eval e X.env)]) cu0):XI X y (.Call (.Name "range" p) [e] [] pos) (uj a):=ur hg hm ha hs
theorem ie {elts:List Expr}{b:Nat}{tpos:Pos}(ha:XA X [e] a)(hm:autoParam (X.mg "enumerate"=Y) cn._auto_1)(hg:autoParam (Gl X "enumerate") cu0)(hs:autoParam (cN [e] X.env=[(J,eval e X.env)]) cu0):XI X (.Tuple elts b tpos) (.Call (.Name "enumerate" p) [e] [] pos) (CS a):=ya hg hm ha hs
theorem ii {T:Ty}{p2:Pos}(h:XE X e m)(hm:autoParam (X.mg "isinstance"=Y) cn._auto_1)(hm2:autoParam (X.mg x=Y) cn._auto_1)(hg:autoParam (Gl X "isinstance") cu0)(hg2:autoParam (Gl X x) cu0)(hv2:autoParam (bootBuiltins x=Z (.type T.nm)) eu0)(hn:autoParam (x≠"__name__") bu0)(hd:autoParam ((x == ("__debug__":Str))=J) bu0)(hs1:autoParam (cN [e,.Name x p2] X.env=(J,eval e X.env)::cN [.Name x p2] X.env) cu0)(hs2:autoParam (cN [.Name x p2] X.env=(J,eval (.Name x p2) X.env)::cN [] X.env) cu0)(hpl:autoParam ((backTo pos (cN [.Name x p2] X.env)).any (·.1)=J) cu0):XE X (.Call (.Name "isinstance" p) [e,.Name x p2] [] pos) (iY T m):=ut T hg hm hg2 hm2 hv2 h hn hd hs1 hs2 hpl
structure Lm (X:Cx)(name:Str)(id:String)(f:FN):Prop where
 s:Slot "list" name id
 t:typeOf (.builtin id)=pure (.type "method_descriptor")
 m:GO X id (λx xs H Q=>rN X.K f (x::xs) H Q)
theorem ap:Lm X "append" "list.append" (b2 kQ):=⟨PySem.F.slot_list_append,PySem.F.type_list_append,GZ⟩
theorem lq{f:FN}{name:Str}{apos:Pos}{id:String}(s:Lm X name id f)(ho:XE X y m)(ha:XA X (e::es) a)(hbase:autoParam (attributeBase y name X.env (eval y X.env)=eval y X.env) cu0)(hfew:autoParam (((backTo pos (cN (e::es) X.env)).all (λx=> !x.1)&&(backToKw pos (keywordEach [] X.env)).all (λx=>x.1.isSome)&&decide ((e::es).length+([]:List Keyword).length+(if([]:List Keyword).isEmpty then 0 else 1)<30))=M) cu0)(hline:autoParam ((apos.endLine == pos.line)=M) cu0)(hs:autoParam (cN (e::es) X.env=(J,eval e X.env)::cN es X.env) cu0)(hplain:autoParam ((backTo pos (cN es X.env)).any (·.1)=J) cu0):XS X (.Expr (.Call (.Attribute y name apos) (e::es) [] pos) p) (fw (u4 f m a)):=mX (qe s.s s.t s.m ho ha hbase hfew hline hs hplain)
theorem fo{tg iter:Expr}{a:List cT}{m:FI}{g:FG}{b:FS}(hi:XI X tg iter m)(hg:XG X tg g)(hb:vw X a b)(hp:PassesOwn (model X.prog X.w) X.A X.env X.xe:=by exact PassesOwn.never)(hc:autoParam (X.calm=M) cu0)(hs:autoParam (∀x,foldedSetIterable iter X.env x=pure x) du0):XS X (.For tg iter a [] pos) (eM m g b):=qW hp hc hi hg hb hs
theorem tg2{d:Expr}{g h:FG}{a:Nat}(h1:XG X e g)(h2:XG X d h)(hc:autoParam (X.calm=M) cu0)(hs:autoParam ((assignEach [e,d] X.env).map (·.2)=assign e X.env::(assignEach [d] X.env).map (·.2)) cu0)(hs2:autoParam ((assignEach [d] X.env).map (·.2)=assign d X.env::(assignEach [] X.env).map (·.2)) cu0)(hn:autoParam ((assignEach [e,d] X.env).length=2) cu0)(hst:autoParam ((assignEach [e,d] X.env).findIdx? (·.1)=Y) cu0):XG X (.Tuple [e,d] a pos) (gT 2 (eH g (eH h iq))):=gi hc (dm h1 (dm h2 fA hs2) hs) hn hst
noncomputable def IX(x:Str):List (Str×NameKind)->Bool
 |[]=>M
 |(y,.cell)::l=> !(y == x)&&IX x l
 |_::l=>IX x l
omit k i in
theorem zD:∀{l:List (Str×NameKind)},IX x l=M->(x,NameKind.cell)∉l
 |[],_,m=>nomatch m
 |(y,c)::l,h,m=>by
  rcases aD.mp m with e|a
  ·cases e;have h:=((bA1 _ _).mp h).1;rw[beq_self_eq_true]at h;cases h
  ·cases c with
   |cell=>exact zD ((bA1 _ _).mp h).2 a
   |_=>exact zD (l:=l) h a
theorem kz{a:cU}{l:List Nat}(r:∀i∈l,∃x,X.N[i]?=Z x/\a.names.lookup x=Z .free/\(X.env.kindOf x=Z .cell\/X.env.kindOf x=Z .free)/\(x,NameKind.cell)∉a.names)(h1:autoParam (X.N[i]?=Z x) cu0)(h2:autoParam (a.names.lookup x=Z .free) cu0)(b:autoParam (X.env.kindOf x=Z .cell\/X.env.kindOf x=Z .free) au0)(c:autoParam (IX x a.names=M) cu0):∀j∈i::l,∃x,X.N[j]?=Z x/\a.names.lookup x=Z .free/\(X.env.kindOf x=Z .cell\/X.env.kindOf x=Z .free)/\(x,NameKind.cell)∉a.names:=kc x r h1 h2 b (zD c)
def Jb(X:Cx)(sc:cU):List (Str×cH):=(gI X.env.cells sc.names []).getD []
theorem fk{elt tg iter:Expr}{ifs:List Expr}{scope:cU}(T:List Str){keep:List Nat}{m:FI}{g:FG}{t:FT}{e:FE}(hi:XI X tg iter m)(hb:∀ {s H d},Jf (cxC X scope (Jb X scope) T keep s H d) X.K tg ifs elt g t e)(free:∀i∈keep,∃x,X.N[i]?=Z x/\scope.names.lookup x=Z .free/\(X.env.kindOf x=Z .cell\/X.env.kindOf x=Z .free)/\(x,NameKind.cell)∉scope.names:=by repeat first|exact ci _|refine kz ?_)(hc:autoParam (X.calm=M) cu0)(b:autoParam (scope.kind = .function) cu0)(a:autoParam (∀x∈scope.names,x.2 = .local->scope.names.lookup x.1=Z .local) eu0)(c:autoParam (gI X.env.cells scope.names []=Z (Jb X scope)) cu0)(hs:autoParam (∀x,foldedSetIterable iter X.env x=pure x) du0):XE X (.ListComp elt [⟨tg,iter,ifs,0⟩] scope pos) (dN T.length keep m g t (dA e)):=qZ hc ⟨b,a,free⟩ c hi (λ_ _ _=>hb) hs
end
theorem xq{P:cI}{w:cK}{K:Fg1}{mg:Str->Option cF}{base h:cR}{x:Str}{st:cT}{f:cH}{k n:Nat}{b:FS}(N:List Str)(X:K.In h)(G:h.Ns cM mg)(F:dr K x st f)(c:∀{f:cH} {a:cF} {A:cJ} {d:List Env} {s:cG} {H:Hp} {E:XK},fb k (A.deeper (envOfC x (dv st) s.heap.objs.size f a)) ->
   vw (mD uh P w K mg base N x (dv st) f a A d s H E).nox (eK st) b)(S:fS N (N.take n) (dv st):=by exact sk)(hb:∀(kV g j:cF) (l:Option cH) (a ct:cF) (us:List cF),us.length=(N.take n).length->bindArgs (wF1 x x (gW st) (eK st) (dv st) .none kV g j l a ct) ⟨us,[]⟩=pure ((N.take n).zip us):=by
   intro _ _ _ _ _ _ us e;first|exact Kx e λ_=>rfl|exact Kw e λ_ _=>rfl|exact Kv e λ_ _ _=>rfl|exact Ku e λ_ _ _ _=>rfl)(hn:autoParam ((N.take n).length=n) cu0):d0 P w K mg base (k+1) x n (fG N.length b):=xo X G F S hb (λ_ _ _ _ _ _ _ i=>c i) hn
open AutoSeq1 (wpAny_loadPart')
mutual
noncomputable def pl:D->Bool
 | .non=>M
 | .bl _=>M
 | .int _=>M
 | .str _=>M
 | .tup xs=>Kr xs
 |_=>J
noncomputable def Kr:List D->Bool
 |[]=>M
 |x::xs=>pl x&&Kr xs
end
section
variable{ag:List (cH×Obj)}{σ:L2.St}{H:Hp}{s:cG}{mu:List cH}{S:cZ}
end
section
variable{prog:cI}{w:cK}{A:cJ}{E:cF->cG->Prop}{s:cG}
end
section
variable{ag:List (cH×Obj)}{σ:L2.St}{H:Hp}{s:cG}{mu:List cH}{S:cZ}
end
section
variable{prog:cI}{w:cK}{A:cJ}{E:cF->cG->Prop}{s:cG}
end
abbrev rk(ws:List cF)(p:Keyed):Nat:=Kq ws p.1
section
variable{prog:cI}{w:cK}{A:cJ}{E:cF->cG->Prop}{s:cG}{κ:SortKind}{ws:List cF}{a₀:Array Keyed}
end
structure Sm (st st':SortSt):Prop where
 k:kindOf st'=kindOf st
 a:arrOf st'=arrOf st
 p:pendingOf st'=pendingOf st
 f:failedOf st'=failedOf st
theorem Sm.rfl{st:SortSt}:Sm st st:=⟨_root_.rfl,_root_.rfl,_root_.rfl,_root_.rfl⟩
theorem Sm.g{st st':SortSt}(h:Sm st st')(g:Nat):Sm st (SortSt.mk' (kindOf st') (arrOf st') (pendingOf st') g (failedOf st')):=⟨h.k,h.a,h.p,h.f⟩
def xR(ws:List cF)(xs:List Keyed):Prop:=xs.Pairwise λp q=>rk ws p<rk ws q
def wD(ws:List cF)(xs ys:List Keyed):Prop:=∀x∈xs,∀y∈ys,rk ws x<rk ws y
section
variable{ws:List cF}{a b out xs ys zs:List Keyed}{i j k:Nat}
theorem xR.app(h1:xR ws xs)(h2:xR ws ys)(h:wD ws xs ys):xR ws (xs++ys):=b4.mpr ⟨h1,h2,h⟩
theorem wD.app(h1:wD ws xs zs)(h2:wD ws ys zs):wD ws (xs++ys) zs:=λx b y a=>(aE.mp b).elim (λh=>h1 x h y a) λh=>h2 x h y a
theorem xR.split(h:xR ws a)(i:Nat):wD ws (a.take i) (a.drop i):=by
 have:=h;unfold xR at this;rw[<- cb i a]at this;exact(b4.mp this).2.2
def Lu(ws:List cF)(a b r:List Keyed):Prop:=r.Perm (a++b)/\xR ws r
end
section
variable{prog:cI}{w:cK}{A:cJ}{E:cF->cG->Prop}{s:cG}{κ:SortKind}{ws:List cF}{a₀:Array Keyed}
end
section
variable{ws:List cF}{a b out xs ys zs:List Keyed}{i j k t:Nat}
theorem wD.to(h1:wD ws xs ys)(h2:wD ws xs zs):wD ws xs (ys++zs):=λx a y b=>(aE.mp b).elim (λh=>h1 x a y h) λh=>h2 x a y h
structure K0 (ws:List cF)(a b out:List Keyed)(i j:Nat):Prop where
 la:i<=a.length
 lb:j<=b.length
 len:out.length+(i+j)=a.length+b.length
 pm:(a.take i++b.take j++out.reverse).Perm (a++b)
 so:xR ws out.reverse
 ba:wD ws (a.take i) out
 bb:wD ws (b.take j) out
theorem K0.fs(h:K0 ws a b out i j)(e:xR ws a)(f:xR ws b)(hb:wD ws (b.take j) (a.take i)):Lu ws a b (b.take j++a.take i++out.reverse):=by
 refine⟨(List.perm_append_comm.append_right _).trans h.pm,?_⟩;exact(xR.app (f.sublist (aR _ _)) (e.sublist (aR _ _)) hb).app h.so (wD.app (λx d y c=>h.bb x d y (List.mem_reverse.mp c)) λx d y c=>h.ba x d y (List.mem_reverse.mp c))
end
section
variable{prog:cI}{w:cK}{A:cJ}{E:cF->cG->Prop}{s:cG}{κ:SortKind}{ws:List cF}{a₀:Array Keyed}
end
def zi:Nat->List (List Keyed)->List (Nat×Nat×Nat)->Prop
 |_,[],[]=>True
 |s,r::rs,(t,n,_)::p=>t=s/\n=r.length/\zi (s+r.length) rs p
 |_,_,_=>False
structure SR (ws:List cF)(κ:SortKind)(a₀:Array Keyed)(rs:List (List Keyed))(rest:List Keyed)(st:SortSt):Prop where
 k:kindOf st=κ
 f:failedOf st=none
 pm:(arrOf st).Perm a₀
 ar:(arrOf st).toList=rs.flatten++rest
 so:∀r∈rs,xR ws r/\r≠[]
 pe:zi 0 rs (pendingOf st).toList
section
variable{prog:cI}{w:cK}{A:cJ}{E:cF->cG->Prop}{s:cG}{κ:SortKind}{ws:List cF}{a₀:Array Keyed}
end
section
variable{prog:cI}{w:cK}{A:cJ}{E:cF->cG->Prop}{s:cG}{κ:SortKind}{ws:List cF}{a₀:Array Keyed}{lo:Nat}{st0:SortSt}
end
section
variable{prog:cI}{w:cK}{A:cJ}{E:cF->cG->Prop}{s:cG}{κ:SortKind}{ws:List cF}{a₀:Array Keyed}{rs:List (List Keyed)}{rest:List Keyed}{st st':SortSt}
theorem SR.size(h:SR ws κ a₀ rs rest st):rs.flatten.length+rest.length=a₀.size:=by
 have:=congrArg List.length h.ar;rw[aH,h.pm.size_eq,lA1]at this;exact this.symm
end
section
variable{prog:cI}{w:cK}{A:cJ}{E:cF->cG->Prop}{s:cG}
end
section
variable{P:cI}{w:cK}{A:cJ}{E:cF->cG->Prop}{s:cG}
variable{K:Type} [DecidableEq K] {knd:HeapKind P w K}
end
noncomputable def LD(F:List (TK×D)):Ob:=match F with
 |[]=>.dct []
 |_=>.dcT F
def zp:D->Option (TK×D)
 | .tup [k,v]=>(keyT k).map λk=>(k,v)
 |_=>Y
def fj:List D->Option (List (TK×D))
 |[]=>Z []
 |x::xs=>(zp x).bind λp=>(fj xs).map (p :: ·)
section
variable{ag:List (cH×Obj)}{σ:L2.St}{H:Hp}{s:cG}{mu:List cH}
theorem jN:∀{ds:List D} {ps:List (TK×D)},fj ds=Z ps->ps.length=ds.length
 |[],ps,h=>by cases h;rfl
 |d::ds,ps,h=>by
  rw[fj]at h;obtain⟨p,c,h⟩:=oB1.mp h;obtain⟨a,b,h⟩:=oM1.mp h;subst h;rw[lC1,lC1,jN b]
end
section
variable{K:Fg1}{H:Hp}{mu nu:List cH}{a:cH}{h:Nat}
end
noncomputable def Lf:G2:=λd e S=>match d,e with
 | .int i,.int j=>if 0<=j/\j<=1000000/\i.natAbs<2^64 then Z (.int (i*2^j.toNat),S)else Y
 |_,_=>Y
noncomputable def nX:G2:=λd e S=>match d,e with
 | .int i,.int j=>if 0<j/\j<2^64 then Z (.int (i/j),S)else Y
 |_,_=>Y
def tz:G1:=λd S=>match dw S d with
 |some (M,xs)=>(kJ xs).bind λns=>Z (.int ns.sum,S)
 |_=>Y
theorem BS:∀(l:List (Int×Tok)),preSum (numAt l.toArray) l.length=(l.map (·.1)).sum:=by
 intro l;have h:∀k,k<=l.length->preSum (numAt l.toArray) k=((l.map (·.1)).take k).sum:=by
  intro k
  induction k with
  |zero=>intro _;rfl
  |succ k ih=>
   intro a;rw[preSum,ih (by lia),List.take_add_one,List.sum_append,numAt_eq]
   congr 1
   have:k<(l.map (·.1)).length:=by rw[lM1];lia
   rw[bE,gG1 this];simp
 rw[h _ (nR1 _),b0 (by simp)]
theorem uU:fy X (binaryOp .FloorDiv) (r2 X.K (b2 nX)):=kB (c:=λ_ j=>0<j/\j<2^64) (v:=λi j=>.int (i/j)) (λd e S r b h=>by
 unfold nX at h;split at h
 ·split at h
  ·rename_i q;cases h;exact⟨_,_,O,O,q,O,O⟩
  ·cases h
 ·cases h) (λ_ _ _ _ _=>.int _) (opI λi j _ _ _ _ _ hc q=>by
  have h1:(0:Int)<j:=hc.1;refine floordiv_int (by lia) (by rw[Int.fdiv_eq_ediv_of_nonneg i (by lia)];exact q) (.inl (PyProof.noPylong_of_log2 ?_));have h2:j.natAbs<2^64:=by have:=hc.2;lia
  have a:j.natAbs≠0:=by lia
  have:=(Nat.log2_lt a).mpr h2;lia)
theorem Gm(c:X.calm=M):eh X (.builtin "sum") (rN X.K (b1 tz)):=by
 intro ag s σ H xs y Q I r h;obtain⟨x,mu,S,d,A,v,rfl,p,e,b,hc⟩:=yS h;unfold tz at b;split at b
 ·rename_i ds l;obtain⟨ns,f,b⟩:=oB1.mp b;cases b;obtain⟨a,vs,rfl,q,t⟩:=dh p e l;obtain⟨u,rfl,r2⟩:=gL r;cases r2;obtain⟨j,k,m,w⟩:=I.list q;have g:=px t k f;obtain⟨xs,i,o⟩:=u9 g;refine sum_intListG (I.ok.hd c) (by rw[<- i];exact m.isList) λh' tk z keep=>?_;have n:preSum (numAt xs) xs.size=ns.sum:=by rw[<- o];exact BS xs.toList
  rw[n];exact⟨.int ns.sum,H,I.kept keep,⟨_,O⟩,hc.now (.int _) e⟩
 ·cases b
section
variable{ag:List (cH×Obj)}{σ:L2.St}{H:Hp}{s:cG}{mu:List cH}{S:cZ}
end
open AutoSeq1 (wpAny_loadPart')
section
variable{P:cI}{w:cK}{A:cJ}{E:cF->cG->Prop}{s:cG}
end
section
variable{ag:List (cH×Obj)}{σ:L2.St}{H:Hp}{s:cG}{mu:List cH}
end
noncomputable def wp(kx vx:Expr)(acc:cF)(env:Env):Sem Unit:=do
 let kv<-eval kx env
 let vv<-holding [kv] (eval vx env)
 match acc with
 | .ref d=>do
  standAt {kx.pos with endLine:=vx.pos.endLine,endCol:=vx.pos.endCol}
  holding [kv,vv] (dictSet d kv vv)
 |_=>unsupported "internal:dictcomp"
theorem D8(a b tg iter:Expr)(ifs:List Expr)(scope:cU)(pos:Pos)(it acc:cF)(env:Env):
  compTurn (.DictComp a b [⟨tg,iter,ifs,0⟩] scope pos) 0 it acc env=ix iter.pos tg ifs it env (wp a b acc env) (.compLoop (.DictComp a b [⟨tg,iter,ifs,0⟩] scope pos) 0 it acc env):=by rfl
theorem vf{X:Cx}(hx:X.xe=fun _ _=>False)(hc:X.calm=true){L ao:Expr}{c:List Comprehension}{scope:cU}{pos p:Pos}{d:Nat}{tg:Expr}{ifs:List Expr}{acc:cF}{emit:Sem Unit}{am:It}{t:List cH}{it:cH}{au:Nat->cR->Prop}{g:TG}{ti:TT}{tb:L2.TS}(eq:compTurn (.DictComp L ao c scope pos) d (.ref it) acc X.env=ix p tg ifs (.ref it) X.env emit (.compLoop (.DictComp L ao c scope pos) d (.ref it) acc X.env))(T:rP X.prog X.w X.K tg am t it au)(hg:PG X tg g)(hi:lF X ifs ti)(he:PU X emit tb){ag:List (cH×Obj)}{s:cG}{σ:L2.St}{H:Hp}{D:gJ}(I:Inv X ag σ H s)(st:au 0 s.heap)(f2:∀b∈t,h8 X ag H b)(h:oQ am g ti tb D σ H):
  cQ (model X.prog X.w) X.A (.compLoop (.DictComp L ao c scope pos) d (.ref it) acc X.env) (λr s'=>match r with | .ok _=>∃a H',Inv X ag a H' s'/\D.nx a H' | .error _=>False) s:=by
 obtain⟨W,⟨m0,w0⟩,K⟩:=h;have k:∀{H':Hp},(∀b∈t,H' b=Y) -> ∀b∈t,h8 X ag H' b:=λhn b l=>⟨hn b l,(f2 b l).2⟩;refine codeAny_loop O (λn s'=>∃i a H',Inv X ag a H' s'/\au i s'.heap/\(∀b∈t,H' b=Y)/\W i n a H') ?_ m0 ⟨0,σ,H,I,st,λb l=>(f2 b l).1,w0⟩;rintro n R ⟨i,j,P,I3,C,G,w3⟩;show cP _ _ ((compTurn (.DictComp L ao c scope pos) d (.ref it) acc X.env).onRaise (λx=>do noteFrame x X.env;theTreesLotGoes x)) _ _ R;refine wpAny_noted ?_;rw[eq];have y:∀{α:Type} {m:Sem α} {Q:α->cG->Prop} {s:cG} {E:cF->cG->Prop},cP (model X.prog X.w) X.A m Q X.xe s->cP (model X.prog X.w) X.A m Q E s:=λh=>by
  rw[hx]at h;exact wpAny_mono h (λ_ _ q=>q) λ_ _ q=>q.elim
 unfold ix;refine wB1 (wpAny_standAt (wB1 ?_));rcases K i n j P w3 with⟨B,qn⟩|⟨go,N,hN,step⟩
 ·refine y (eu (T.done X O O O hc i ag R j P X.xe I3 (k G) C B) λr s4 ⟨V,I4⟩=>?_);subst V;exact wP1 ⟨j,P,I4,qn⟩
 ·refine y (eu (T.item X rfl rfl rfl hc i ag R j P X.xe I3 (k G) C go) fun r s4 ⟨u,V,h4⟩=>?_);subst V;refine wB1 (y (eu h4 fun _ aq ⟨x,H5,I5,r5,y5,w,U⟩=>?_));have S:=I5.pinned (k U) (T.obj _ _ w);refine wB1 (y (eu (hg _ aq j H5 x u _ S r5 (step x H5 y5)) fun _ s6 ⟨F,H6,I6,q6⟩=>?_));refine wB1 (y (eu (hi _ s6 F H6 _ I6 q6) fun ok A ⟨v,z,wq⟩=>?_));have again':∀ {f:L2.St} {v:Hp} {A:cG},Inv X (ag++lf t aq.heap) f v A->N f v -> ∃ m,m<n /\ ∃ i a H',Inv X ag a H' A/\au i A.heap/\(∀ b∈t,H' b=none)/\W i m a H':=fun {f v A} z n7=>by
   obtain⟨m',hm,w7⟩:=hN f v n7;refine⟨m',hm,i+1,f,v,z.unpinned,T.keep _ _ _ w λb l o e=>(z.pin (b,o) (mA1 _ (mA1 _ (fL l e)))).1,λb l=>?_,w7⟩;obtain⟨o,e,d⟩:=T.obj _ _ w b l;exact(z.pin (b,o) (mA1 _ (mA1 _ (fL l e)))).2.1
  cases ok with
  |false=>exact wP1 ⟨O,again' z wq⟩
  |true=>exact wB1 (y (eu (he _ A F v _ z wq) λ_ s8 ⟨σ8,H8,I8,q8⟩=>wP1 ⟨O,again' I8 q8⟩))
def uE(K:Fg1)(p:cH)(tk tv:TE):L2.TS:=λD σ H=>tk σ H λx H1=>tv σ H1 λy H2=>∃(mu:List cH) (d:Mi.D) (k:TK) (F:List (TK×Mi.D)) (xs:List (TK×cH×cF)),d9 K H2 mu d x/\keyT d=Z k/\H2 p=Z (.ext (d5 p xs))/\KT K H2 mu F xs/\xs.length<=cO /\
 ∀(a:cH) (u:cF),x = .ref a->d9 K H2 mu (tkD k) (.ref a)->dn y u->D.nx σ (upd H2 p (.ext (d5 p (storedH xs k a u))))
theorem yZ{X:Cx}(C:X.A.units+64<cLine){h i:Expr}{tk tv:TE}(hk:PE X h tk)(hv:PE X i tv)(p:cH):PU X (wp h i (.ref p) X.env) (uE X.K p tk tv):=by
 intro ag s σ H E I q;unfold wp;refine wB1 (eu (hk ag s σ H _ I q) λu r ⟨x,H1,j,n,o⟩=>?_);refine wB1 (wpAny_holding (eu (hv ag r σ H1 _ j o) λv D ⟨y,H2,e,r2,mu,d,k,F,xs,m,l,g,t,A,nx⟩=>?_));refine wB1 (wpAny_standAt (wpAny_holding ?_));obtain⟨z,w⟩:=pG e g t;obtain⟨a,rfl,rfl,rk,B,hi⟩:=lv e m n l;refine wpAny_dictSet_heap (hsz:=A) (by show X.A.units+8<cLine;lia) hi w λh' c b=>?_;have f:∃q,h'.get? p=Z q:=let ⟨q,_,_,f,_⟩:=c;⟨q,f⟩
 exact⟨σ,_,jm e (by rw[g];exact True.intro) b f (mO z c),nx a v O rk r2⟩
def yB(k:Nat)(keep:List Nat)(wi:TI)(g:TG)(ti:TT)(tb:cH->L2.TS):TE:=fun σ H Q=>wi σ H λam H1=>∀p,H1 p=Y ->
 oQ am g ti (tb p) {nx:=λ_ H'=>Q (.ref p) H',rt:=λ_ _=>False} (oH k keep σ) (upd H1 p (.ext (d5 p [])))
theorem zm{X:Cx}(hc:X.calm=true){B D tg iter:Expr}{ifs:List Expr}{scope:cU}{pos:Pos}{T:List Str}{keep:List Nat}{k:List (Str×cH)}{K:TI}{g:TG}{ti:TT}{tb:cH->L2.TS}(C:Bb X scope T keep)(u:gI X.env.cells scope.names []=some k)(hi:PI X tg iter K)(hb:∀s H i p,PG (cxC X scope k T keep s H i) tg g/\lF (cxC X scope k T keep s H i) ifs ti/\PU (cxC X scope k T keep s H i) (wp B D (.ref p) (cxC X scope k T keep s H i).env) (tb p))(hs:autoParam (∀x,foldedSetIterable iter X.env x=pure x) du0):
  PE X (.DictComp B D [⟨tg,iter,ifs,0⟩] scope pos) (yB T.length keep K g ti tb):=by
 intro ag s σ H Q I h;show cP _ _ (comprehension (.DictComp B D [⟨tg,iter,ifs,0⟩] scope pos) scope X.env (firstIterPos [⟨tg,iter,ifs,0⟩] pos) newDict (firstAsync [⟨tg,iter,ifs,0⟩]) (firstIter [⟨tg,iter,ifs,0⟩] X.env)) _ _ s;refine wpAny_comprehension_free (use:=Y) O hs (vi u) C.kind C.names ?_;refine eu (hi ag s σ H _ I h) λv s1 h1=>eu h1 λS d h2=>?_;obtain⟨it,i,aq,am,H2,rfl,F,TT,w,ao,U⟩:=h2;refine wO1 ?_;have E:(d.heap.objs.size == sysModules)=J:=beq_eq_false_iff_ne.mpr (Ne.symm (nN1 F.big));have au:Inv X ag σ (upd H2 d.heap.objs.size (.ext (d5 d.heap.objs.size []))) {d with heap:=d.heap.push {cls:=.type "dict",data:=.dict #[]}}:=by
  refine F.laid (a:=d.heap.objs.size) (o:=.ext (d5 d.heap.objs.size [])) (t':=d.toks) (λ_ _ q=>hP1 _ q) (nR1 _) ?_;refine mO E ⟨_,#[],0,hS1 _ O,?_,O,O,λx hx=>by simp at hx,bj⟩;exact⟨O,O,O⟩
 have old:∀b∈i,∃o,d.heap.get? b=Z o:=λb hb=>by
  obtain⟨o,e,_⟩:=TT.obj 0 d.heap w b hb;exact⟨o,e⟩
 have G:∀b∈i,b≠d.heap.objs.size:=λb hb z=>by
  obtain⟨o,e⟩:=old b hb;have:=hL1 e;rw[z]at this;exact az _ this
 have A:∀b∈i,h8 X ag (upd H2 d.heap.objs.size (.ext (d5 d.heap.objs.size []))) b:=λb hb=>⟨by rw[c5 (G b hb)];exact(ao b hb).1,(ao b hb).2⟩;have wq:∀b∈i,∃o,({d with heap:=d.heap.push {cls:=.type "dict",data:=.dict #[]}}:cG).heap.get? b=Z o:=λb hb=>by
  obtain⟨o,e⟩:=old b hb;exact⟨o,hP1 _ e⟩
 have y:=nU au C u A wq;obtain⟨R,hf,V⟩:=hb {d with heap:=d.heap.push {cls:=.type "dict",data:=.dict #[]}} (upd H2 d.heap.objs.size (.ext (d5 d.heap.objs.size []))) i d.heap.objs.size;refine g0 ?_;have f4:∀b∈i,h8 (cxC X scope k T keep {d with heap:=d.heap.push {cls:=.type "dict",data:=.dict #[]}} (upd H2 d.heap.objs.size (.ext (d5 d.heap.objs.size []))) i) [] (upd H2 d.heap.objs.size (.ext (d5 d.heap.objs.size []))) b:=λb hb=>
  ⟨(A b hb).1,(y.ok.exf b hb).1,y.ok.exfs b hb,.inl hb,(y.ok.exf b hb).2,λp P=>absurd (show p∈([]:List (cH×Obj))from P) (by simp)⟩
 have n:aq 0 (pushCells ((d.heap.push {cls:=.type "dict",data:=.dict #[]}).push {cls:=.type "dict",data:=.dict #[]}) scope.names):=
  TT.keep 0 d.heap _ w λb hb o e=>pushCells_keeps scope.names _ b o (hP1 _ (hP1 _ e))
 have j:=vf (X:=cxC X scope k T keep {d with heap:=d.heap.push {cls:=.type "dict",data:=.dict #[]}} (upd H2 d.heap.objs.size (.ext (d5 d.heap.objs.size []))) i) O hc (D8 B D tg iter ifs scope pos (.ref it) (.ref d.heap.objs.size) _) TT R hf V y n f4
  (U d.heap.objs.size (F.hok.fresh (nR1 _)))
 refine codeAny_mono (codeAny_compStart_dict j (TT.self X.A 0 _ _ _ n j)) λr s' N=>?_;cases r with
 |error e=>exact N.elim
 |ok f=>
  obtain⟨σ',H',l,q'⟩:=N;obtain⟨m,W,_⟩:=id l.loc;refine⟨m,W,λh' t=>⟨.ref d.heap.objs.size,H',?_,O,q'⟩⟩;refine au.call' (s':={s' with heap:=h'}) (ch:=i) l.os (Un.sameBut l.base t (Heap.get?_none_of_le (nR1 _))) (λb ob e=>?_) l.bare λb hb=>(A b hb).2.2.2 |> λz=>⟨z.1,(A b hb).2.1,z.2.1,z.2.2⟩
  refine(l.hok b ob e).stay (λc w' hc q=>(t.2 c ?_).trans q) (λ_ q=>q) λ_ _ q=>q;rintro rfl;have L:=l.free;rcases hc with rfl|hc
  ·exact nomatch L.symm.trans e
  ·exact nomatch L.symm.trans hc
noncomputable def n0(mk mv:FE):FV:=λr S=>(mk r S).bind λa=>(mv r a.2).map λb=>([.tup [a.1,b.1]],r,b.2)
def lc(F:List (TK×D))(p:TK×D):List (TK×D):=gz F p.1 p.2
def n4(k:Nat)(keep:List Nat)(m:FI)(g:FG)(t:FT)(b:FV):FE:=λr S=>(m r S).bind λp=>
 (en p.1.chk g t b p.1.items (kK k keep r) p.2).bind λq=>(fj q.1).bind λps=>if q.1.length<=cO then Z (.ref q.2.2.length,q.2.2++[.dcT (ps.foldl lc [])])else Y
theorem nC:∀{xs ys:List D} {ps:List (TK×D)},fj (xs++ys)=Z ps -> ∃a p2,fj xs=Z a/\fj ys=Z p2/\ps=a++p2
 |[],ys,ps,h=>⟨[],ps,O,h,O⟩
 |x::xs,ys,ps,h=>by
  rw[bg,fj]at h;obtain⟨p,e,h⟩:=oB1.mp h;obtain⟨c,b,rfl⟩:=oM1.mp h;obtain⟨a,p2,h1,h2,rfl⟩:=nC b;exact⟨p::a,p2,by rw[fj,e,oS1,h1];rfl,h2,O⟩
theorem KT.exw{K:Fg1}{mu mu':List cH}{H H':Hp}{ks:List (TK×D)}{ws:List (TK×cH×cF)}(e:pS mu mu' H H')(h:KT K H mu ks ws):KT K H' mu' ks ws:=
 Paired.mapP h λ_ _ ⟨z,d,k,v,a,r⟩=>⟨z,d,k.exw e,v,a,r.exw e⟩
inductive Bw (K:Fg1)(a:cH)(m:FV)(E:gJ)(σ:L2.St)(H:Hp):Prop
 |mk (r:Ev) (mu:List cH) (S:cZ) (F:List (TK×D)) (ws:List (TK×cH×cF)) (xs:List D) (ps:List (TK×D)) (r':Ev) (S':cZ):H a=some (.ext (d5 a ws))->a∉mu->KT K H mu F ws->eI K H mu r σ->Sim K H mu S->m r S=some (xs,r',S')->fj xs=some ps->F.length+xs.length<=cO ->
 (∀ σ' H' mu' ws',Ext (a::mu) (a::mu') H H'->H' a=some (.ext (d5 a ws'))->a∉mu'->KT K H' mu' (ps.foldl lc F) ws'->eI K H' mu' r' σ'->Sim K H' mu' S'->E.nx σ' H')->Bw K a m E σ H
theorem AE{K:Fg1}{a:cH}{mk mv:FE}{E:gJ}{σ:L2.St}{H:Hp}(h:Bw K a (n0 mk mv) E σ H):uE K a (tM K mk) (tM K mv) E σ H:=by
 obtain⟨r,mu,S,F,ws,xs,ps,P,Q,am,m,B,l,w,i,c,L,hc⟩:=h;obtain⟨⟨q,t⟩,ao,i⟩:=oB1.mp i;obtain⟨⟨G,C⟩,D,i⟩:=oM1.mp i;cases i;rw[fj]at c;obtain⟨p,ep,c⟩:=oB1.mp c;cases c;unfold zp at ep;obtain⟨k,s,ep⟩:=oM1.mp ep;cases ep;refine⟨r,mu,S,q,t,l,w,ao,λx H1 mu1 g z A=>?_⟩;refine⟨r,mu1,t,G,C,l.ext g,A,D,λy H2 d x2 r2 au=>?_⟩;obtain⟨o,n⟩:=g.held am m;obtain⟨f,j⟩:=x2.held o n;have e:=(B.ext g).ext x2;have v:=e.length;refine⟨d,q,k,F,ws,z.ext x2,s,f,e,by rw[List.length_singleton]at L;lia,λb u ex rk N=>?_⟩;have put:Ext (a::d) (a::d) H2 (upd H2 a (.ext (d5 a (storedH ws k b u)))):=Ext.put f trivial mS1;have I:=(ri s).2.1;exact hc σ _ d (storedH ws k b u) ((g.trans x2).aside.trans put) di j ((e.put I rk N r2).exw put.inner) (((l.ext g).ext x2).exw put.inner) (au.aside put.inner j)
inductive Ki (K:Fg1)(a:cH)(mu2:List cH)(H:Hp)(c:List (Nat×List D))(g:FG)(t:FT)(b:FV)(r':Ev)(S':cZ)(tot:List (TK×D))(L:List D)(σ':L2.St)(H':Hp):Prop
 |mk (r3:Ev) (mu3:List cH) (S3:cZ) (F3:List (TK×D)) (ws3:List (TK×cH×cF)) (xs3:List D) (ps3:List (TK×D)):Ext (a::mu2) (a::mu3) H H'->H' a=some (.ext (d5 a ws3))->a∉mu3->KT K H' mu3 F3 ws3->eI K H' mu3 r3 σ'->Sim K H' mu3 S3->en c g t b L r3 S3=some (xs3,r',S')->fj xs3=some ps3->ps3.foldl lc F3=tot->F3.length+xs3.length<=cO->Ki K a mu2 H c g t b r' S' tot L σ' H'
theorem lx:∀(ps F:List (TK×D)),(ps.foldl lc F).length<=F.length+ps.length
 |[],F=>nR1 _
 |p::ps,F=>by
  rw[List.foldl_cons,lC1];have h1:=lx ps (lc F p);have h2:=l0 F p.1 p.2;unfold lc at h1 ⊢;lia
theorem zZ{K:Fg1}{a:cH}{j:It}{am:A5}{g:FG}{t:FT}{b:FV}{tb:L2.TS}{D:gJ}(hb:∀ E σ H,Bw K a b E σ H->tb E σ H){mu1 e:List cH}{H1 H:Hp}{r ao:Ev}{S au:cZ}{σ:L2.St}{F:List (TK×Mi.D)}{xs:List Mi.D}{ps:List (TK×Mi.D)}{ws:List (TK×cH×cF)}(hJ:ItR K j am mu1 H1)(x:pS mu1 e H1 H)(ha:H a=Z (.ext (d5 a ws)))(hna:a∉e)(hr:KT K H e F ws)(he:eI K H e r σ)(hs:Sim K H e S)(hm:en am.chk g t b am.items r S=Z (xs,ao,au))(hps:fj xs=Z ps)(hl:F.length+xs.length<=cO)(hc:∀f H' mu' I,Ext (a::e) (a::mu') H H'->H' a=Z (.ext (d5 a I))->a∉mu'->KT K H' mu' (ps.foldl lc F) I->eI K H' mu' ao f->Sim K H' mu' au->D.nx f H'):oQ j (xW K g) (ui K t) tb D σ H:=by
 refine⟨λi k f H'=>k=(am.items.drop i).length/\Ki K a e H am.chk g t b ao au (ps.foldl lc F) (am.items.drop i) f H',
  ⟨_,O,r,e,S,F,ws,xs,ps,.refl _ _,ha,hna,hr,he,hs,hm,hps,O,hl⟩,?_⟩
 rintro i k wq V ⟨rfl,r3,h,S3,C,ws3,R,ps3,P,q,v,A,G,s3,c,m,n,o⟩;cases hd0:am.items.drop i with
 |nil=>
  left;rw[hd0,en]at c;dsimp only at c;split at c
  ·rename_i ok;cases c;cases m;refine⟨(hJ i V h _ (x.trans P.inner) s3 ok).2 (bx.mp hd0),hc wq V h ws3 P q v ?_ G s3⟩;rw[<- n];exact A
  ·cases c
 |cons d ds=>
  right;rw[hd0]at c;obtain⟨hi,hd⟩:=i7 hd0;rw[en]at c;dsimp only at c;split at c
  ·rename_i ok;obtain⟨⟨N,S4⟩,e4,c⟩:=oB1.mp c;obtain⟨⟨k5,S5⟩,e5,c⟩:=oB1.mp c;obtain⟨go,yl⟩:=(hJ i V h _ (x.trans P.inner) s3 ok).1 d hi;refine⟨go,Ki K a e H am.chk g t b ao au (ps.foldl lc F) ds,?_,λy H4 yy=>?_⟩
   ·intro f H' h6;exact⟨ds.length,bw _,(congrArg List.length hd).symm,hd.symm ▸ h6⟩
   ·obtain⟨L,s4,q4⟩:=yl y H4 yy;obtain⟨U,hn4⟩:=L.held q v;refine⟨r3,h,S3,d,N,S4,G.ext L,s4,q4,e4,fun σ5 H5 aq x5 l s5=>?_⟩;obtain⟨ha5,W⟩:=x5.held U hn4;refine⟨N,aq,S4,k5,S5,l,s5,e5,λH6 p B s6=>?_⟩;obtain⟨w,u⟩:=B.held ha5 W;have xx:=((P.trans L.aside).trans x5.aside).trans B.aside;have z:KT K H6 p C ws3:=((A.ext L).ext x5).ext B;cases k5 with
    |true=>
     obtain⟨⟨q1,r7,S7⟩,e7,c⟩:=oB1.mp c;obtain⟨⟨z1,r8,S8⟩,e8,c⟩:=oM1.mp c;cases c;obtain⟨p1,p2,s,hq2,rfl⟩:=nC m;rw[lA1]at o;dsimp only at o;refine hb _ _ _ ⟨N,p,S5,C,ws3,q1,p1,r7,S7,w,u,z,l.ext B,s6,e7,s,by lia,fun σ8 H8 Q ws8 x8 ha8 X T he8 s8=>⟨r7,Q,S7,p1.foldl lc C,ws8,z1,p2,xx.trans x8,ha8,X,T,he8,s8,e8,hq2,?_,?_⟩⟩
     ·rw[<- n,List.foldl_append]
     ·have h1:=lx p1 C;have h2:=jN s;lia
    |false=>exact⟨N,p,S5,C,ws3,R,ps3,xx,w,u,z,l.ext B,s6,c,m,n,o⟩
  ·cases c
theorem AM{K:Fg1}{k:Nat}{keep:List Nat}{m:FI}{g:FG}{t:FT}{b:FV}{tb:cH->L2.TS}(hb:∀ a E σ H,Bw K a b E σ H->tb a E σ H){σ:L2.St}{H:Hp}{Q:VK}(h:tM K (n4 k keep m g t b) σ H Q):
  yB k keep (Eh K m) (xW K g) (ui K t) tb σ H Q:=by
 obtain⟨r,mu,S,d,S',ao,P,f,hc⟩:=h;obtain⟨⟨am,U⟩,aq,f⟩:=oB1.mp f;obtain⟨⟨xs,r2,N⟩,V,f⟩:=oB1.mp f;obtain⟨ps,D,f⟩:=oB1.mp f;dsimp only at f D;split at f
 ·rename_i X;cases f;refine ⟨r,mu,S,am,U,ao,P,aq,fun j H1 mu1 I W L p i=>?_⟩;have w:Ext mu1 mu1 H1 (upd H1 p (.ext (d5 p []))):=Ext.fresh i;refine zZ (hb p) W w.w di (L.notin i) .nil ((Ai k keep (ao.ext I)).ext w) (L.fresh i) V D (by simpa using X) fun wq H' mu' F s A x v R s'=>?_;have y:Ext mu1 (mu'++[p]) H1 H':=by
   refine⟨((bR.mp s.pre).2).trans (br _ _),λb o e n=>?_,λb ys e=>s.tup b ys (w.tup b ys e),λb o u e=>s.frz b o u (w.frz b o u e),λb B=>?_⟩
   ·have au:b≠p:=dJ e i;exact s.old b o (by rw [c5 au];exact e) fun z=>by
     rcases aD.mp z with z|z
     ·exact au z
     ·exact n z
   ·rcases aE.mp B with z|z
    ·rcases s.new b (mC1 _ z)with q|q
     ·rcases aD.mp q with q|q
      ·exact .inr (by rw[q];exact i)
      ·exact .inl q
     ·by_cases l:b=p
      ·exact .inr (by rw[l];exact i)
      ·rw[c5 l]at q;exact .inr q
    ·have:b=p:=by simpa using z
     exact .inr (by rw[this];exact i)
  refine hc _ H' (mu'++[p]) (I.trans y) (.ref (gb s'.len p)) ⟨by rw[lA1,lA1,s'.len];rfl,?_,λn o b h1 h2=>?_⟩
  ·rw[bu];refine⟨s'.nd,by simp,λb hb c hc e=>?_⟩;have:c=p:=by simpa using hc
   subst this;subst e;exact x hb
  ·by_cases G:n<N.length
   ·rw[gL1 G]at h1;rw[gL1 (by rw[s'.len];exact G)]at h2;exact(s'.ob n o b h1 h2).mor [p]
   ·have C:n=N.length:=by
     have:=(gE1.mp h1).1;rw[lA1]at this;simp at this;lia
    subst C;rw[gR1 (nR1 _)]at h1;rw[<- s'.len,gR1 (nR1 _)]at h2;simp at h1 h2;subst h1;subst h2;have T:ObR K H' mu' p (.dcT (ps.foldl lc [])):=by
     refine⟨F,A,v,?_⟩;have h1:=lx ps [];have h2:=jN D;have h3:=v.length;rw[aY]at h1;lia
    exact T.mor [p]
 ·cases f
structure KB (X:Cx)(K:Fg1)(tg:Expr)(ifs:List Expr)(kx vx:Expr)(g:FG)(t:FT)(mk mv:FE):Prop where
 g:XG X tg g
 t:XF X K ifs t
 k:XE X kx mk
 v:XE X vx mv
theorem wJ{e f tg iter:Expr}{ifs:List Expr}{scope:cU}{pos:Pos}{T:List Str}{keep:List Nat}{d:List (Str×cH)}{m:FI}{g:FG}{t:FT}{mk mv:FE}(hc:X.calm=M)(i:X.A.units+64<cLine)(C:Bb X scope T keep)(c:gI X.env.cells scope.names []=Z d)(hi:XI X tg iter m)(hb:∀s H b,KB (cxC X scope d T keep s H b) X.K tg ifs e f g t mk mv)(hs:autoParam (∀x,foldedSetIterable iter X.env x=pure x) du0):XE X (.DictComp e f [⟨tg,iter,ifs,0⟩] scope pos) (n4 T.length keep m g t (n0 mk mv)):=
 ⟨d3 (zm (tb:=λp=>uE X.K p (tM X.K mk) (tM X.K mv)) hc C c hi.h (λs H b p=>⟨(hb s H b).g.h,(hb s H b).t.h,yZ (X:=cxC X scope d T keep s H b) i (hb s H b).k.h (hb s H b).v.h p⟩) hs)
  fun σ H Q h=>AM (λa E σ H q=>AE q) h⟩
theorem Lp{d e tg iter:Expr}{ifs:List Expr}{scope:cU}{pos:Pos}(T:List Str){keep:List Nat}{m:FI}{g:FG}{t:FT}{mk mv:FE}(f:X.A.units+64<cLine)(hi:XI X tg iter m)(hb:∀ {s H h},KB (cxC X scope (Jb X scope) T keep s H h) X.K tg ifs d e g t mk mv)(free:∀i∈keep,∃x,X.N[i]?=Z x/\scope.names.lookup x=Z .free/\(X.env.kindOf x=Z .cell\/X.env.kindOf x=Z .free)/\(x,NameKind.cell)∉scope.names:=by first|exact ci _|exact kz (ci _)|exact kz (kz (ci _))|exact kz (kz (kz (ci _))))(hc:autoParam (X.calm=M) cu0)(b:autoParam (scope.kind = .function) cu0)(a:autoParam (∀x∈scope.names,x.2 = .local->scope.names.lookup x.1=Z .local) eu0)(c:autoParam (gI X.env.cells scope.names []=Z (Jb X scope)) cu0)(hs:autoParam (∀x,foldedSetIterable iter X.env x=pure x) du0):XE X (.DictComp d e [⟨tg,iter,ifs,0⟩] scope pos) (n4 T.length keep m g t (n0 mk mv)):=wJ hc f ⟨b,a,free⟩ c hi (λ_ _ _=>hb) hs
def W{α:Type}(o:Option α)(Q:α->Prop):Prop:=∃x,o=Z x/\Q x
section
variable{α β:Type}{Q:α->Prop}
theorem dg{x:α}:W (Z x) Q↔Q x:=⟨λ⟨_,e,h⟩=>(by cases e;exact h),λh=>⟨x,O,h⟩⟩
theorem j1:W (Y:Option α) Q↔False:=⟨λ⟨_,e,_⟩=>(by cases e),False.elim⟩
theorem c4{o:Option β}{f:β->Option α}:W (o.bind f) Q↔W o λx=>W (f x) Q:=by
 cases o with
 |none=>exact⟨λ⟨_,e,_⟩=>(by cases e),λ⟨_,e,_⟩=>(by cases e)⟩
 |some x=>exact⟨λh=>⟨x,O,h⟩,λ⟨_,e,h⟩=>by cases e;exact h⟩
theorem jJ{o:Option β}{f:β->α}:W (o.map f) Q↔W o λx=>Q (f x):=by
 cases o with
 |none=>exact⟨λ⟨_,e,_⟩=>(by cases e),λ⟨_,e,_⟩=>(by cases e)⟩
 |some x=>exact⟨λ⟨_,e,h⟩=>(by cases e;exact⟨x,O,h⟩),λ⟨_,e,h⟩=>(by cases e;exact⟨_,O,h⟩)⟩
theorem uc{c:Prop}[Decidable c]{a b:Option α}:W (if c then a else b) Q↔if c then W a Q else W b Q:=by split<;>exact Iff.rfl
theorem W.mono{o:Option α}{Q':α->Prop}(h:W o Q)(k:∀x,Q x->Q' x):W o Q':=let ⟨x,e,q⟩:=h;⟨x,e,k x q⟩
theorem W.of{o:Option α}{x:α}(e:o=Z x)(h:Q x):W o Q:=⟨x,e,h⟩
end
theorem dW{a b:FS}{r:Ev}{S:cZ}{Q:Fl×Ev×cZ->Prop}(R:Ev->cZ->Prop)(h1:W (a r S) λp=>p.1 = .nx/\R p.2.1 p.2.2)(h2:∀r S,R r S->W (b r S) Q):W (c7 a b r S) Q:=by
 obtain⟨⟨f,h,g⟩,e,d,c⟩:=h1;dsimp only at d c;subst d;unfold c7;rw[e];exact h2 h g c
theorem j3{n:Nat}{b:FS}{ds:List D}{S:cZ}{Q:D×cZ->Prop}(h:W (b (d7 n ds) S) fun p=>match p.1 with
  | .rt d=>Q (d,p.2.2)
  | .nx=>Q (.non,p.2.2)
  |_=>False):W (fG n b ds S) Q:=by
 obtain⟨⟨f,c,a⟩,e,q⟩:=h;unfold fG;rw[e];cases f with
 |rt d=>exact⟨_,O,q⟩
 |nx=>exact⟨_,O,q⟩
 |bk=>exact q.elim
 |ct=>exact q.elim
theorem tS{n:Nat}{f:FN}{ds:List D}{S:cZ}{Q:D×cZ->Prop}(hn:ds.length=n)(a:D.unds 0 ds=J)(h:W (f ds S) λp=>Q (gc S.length p)):W (cY n f ds S) Q:=by
 obtain⟨⟨d,b⟩,e,q⟩:=h;exact⟨_,pH e hn a,q⟩
theorem kX{n:Nat}{f:FN}{ds:List D}{S:cZ}{Q:D×cZ->Prop}(hn:ds.length=n)(b:D.unds 0 ds=M)(h:W (f ds []) λp=>p.1.und 0=M/\Q (p.1,S)):W (cY n f ds S) Q:=by
 obtain⟨⟨d,g⟩,e,a,c⟩:=h;exact⟨_,xE e hn b a,c⟩
mutual
theorem eQ{n:Nat}:∀{d:D},d.und 0=M->d.und n=M
 | .non,_=>rfl
 | .bl _,_=>rfl
 | .int _,_=>rfl
 | .str _,_=>rfl
 | .tup xs,h=>by rw[D.und]at h ⊢;exact fI h
 | .rol xs,h=>by rw[D.und]at h ⊢;exact fI h
 | .fn _,_=>rfl
 | .ref k,h=>by simp[D.und]at h
theorem fI{n:Nat}:∀{ds:List D},D.unds 0 ds=M->D.unds n ds=M
 |[],_=>rfl
 |d::ds,h=>by
  rw[D.unds,bA1]at h ⊢;exact⟨eQ h.1,fI h.2⟩
end
theorem fg{c:List (Nat×List D)}{g:FG}{b:FS}{Q:Fl×Ev×cZ->Prop}(I:Nat->Ev->cZ->Prop):∀ (items:List D) (k:Nat) (r:Ev) (S:cZ),I k r S ->
  (∀i r S,I i r S->pc S c=M) ->
  (∀i d,items[i]?=Z d -> ∀r S,I (k+i) r S->W (g d r S) λp=>W (b p.1 p.2) λq=>q.1 = .nx/\I (k+i+1) q.2.1 q.2.2) ->
  (∀r S,I (k+items.length) r S->Q (.nx,r,S))->W (jD c g b items r S) Q
 |[],k,r,S,hi,hok,_,hq=>by rw[jD];dsimp only;rw[ak (hok _ _ _ hi),dg];exact hq r S (by simpa using hi)
 |d::ds,k,r,S,hi,hok,hs,hq=>by
  rw[jD];dsimp only;rw[ak (hok _ _ _ hi),c4];obtain⟨p,j,h1⟩:=hs 0 d O r S (by simpa using hi);refine⟨p,j,?_⟩;dsimp only;rw[c4];obtain⟨⟨f,n,l⟩,m,h2,e⟩:=h1;refine⟨_,m,?_⟩;dsimp only at h2 e ⊢;subst h2;refine fg I ds (k+1) n l (by simpa using e) hok (λi d' h r S a=>?_) λr S a=>hq r S (by rw[lC1,show k+(ds.length+1)=k+1+ds.length by lia];exact a);have:=hs (i+1) d' (by simpa using h) r S (by rw[show k+(i+1)=k+1+i by lia];exact a);rw[show k+(i+1)+1=k+1+i+1 by lia]at this;exact this
theorem ip{c:List (Nat×List D)}{g:FG}{t:FT}{e:FE}{Q:List D×Ev×cZ->Prop}(I:Nat->List D->Ev->cZ->Prop):∀ (items:List D) (k:Nat) (acc:List D) (r:Ev) (S:cZ),I k acc r S ->
  (∀i acc r S,I i acc r S->pc S c=M) ->
  (∀i d,items[i]?=Z d -> ∀acc r S,I (k+i) acc r S->W (g d r S) λp=>W (t p.1 p.2) λb=>if b.1=M then W (e p.1 b.2) λx=>I (k+i+1) (acc++[x.1]) p.1 x.2 else I (k+i+1) acc p.1 b.2) ->
  (∀xs r S,I (k+items.length) (acc++xs) r S->Q (xs,r,S))->W (en c g t (dA e) items r S) Q
 |[],k,acc,r,S,hi,hok,_,hq=>by rw[en];dsimp only;rw[ak (hok _ _ _ _ hi),dg];exact hq [] r S (by simpa using hi)
 |d::ds,k,acc,r,S,hi,hok,hs,hq=>by
  rw[en];dsimp only;rw[ak (hok _ _ _ _ hi),c4];obtain⟨p,l,h1⟩:=hs 0 d O acc r S (by simpa using hi);refine⟨p,l,?_⟩;dsimp only;rw[c4];obtain⟨⟨b,m⟩,n,h2⟩:=h1;refine⟨_,n,?_⟩;have step:∀i d',ds[i]?=Z d' -> ∀acc r S,I (k+1+i) acc r S->W (g d' r S) λp=>W (t p.1 p.2) λb=>if b.1=M then W (e p.1 b.2) λx=>I (k+1+i+1) (acc++[x.1]) p.1 x.2 else I (k+1+i+1) acc p.1 b.2:=λi d' h acc r S a=>by
   have:=hs (i+1) d' (by simpa using h) acc r S (by rw[show k+(i+1)=k+1+i by lia];exact a);rw[show k+(i+1)+1=k+1+i+1 by lia]at this;exact this
  dsimp only at h2 ⊢;cases b with
  |true=>
   rw[ak O]at h2 ⊢;rw[c4,dA,jJ];obtain⟨⟨x,j⟩,o,f⟩:=h2;refine⟨_,o,?_⟩;dsimp only at f ⊢;rw[jJ];refine ip I ds (k+1) (acc++[x]) p.1 j (by simpa using f) hok step λxs r S a=>?_;refine hq _ r S ?_;rw[lC1,show k+(ds.length+1)=k+1+ds.length by lia];simpa using a
  |false=>
   rw[aj (by decide)]at h2 ⊢;refine ip I ds (k+1) acc p.1 m (by simpa using h2) hok step λxs r S a=>?_;refine hq _ r S ?_;rw[lC1,show k+(ds.length+1)=k+1+ds.length by lia];exact a
theorem iN{S:cZ}{b:Bool}:uD S (.bl b)=Z b:=rfl
theorem IP{S:cZ}:uD S .non=Z J:=rfl
theorem IQ{S:cZ}{i:Int}:uD S (.int i)=Z (i != 0):=rfl
theorem C0{x y:Int}{S:cZ}:ul (.int x) (.int y) S=Z (.bl (x == y),S):=rfl
theorem I1{x y:Int}{S:cZ}:Gb (.int x) (.int y) S=Z (.bl (!(x == y)),S):=rfl
theorem CY{x y:Int}{S:cZ}:uk (.int x) (.int y) S=Z (.bl (decide (x<y)),S):=rfl
theorem I9{x y:Str}{S:cZ}:ul (.str x) (.str y) S=Z (.bl (x == y),S):=rfl
theorem I0{x y:Str}{S:cZ}:Gb (.str x) (.str y) S=Z (.bl (!(x == y)),S):=rfl
theorem ite_and'{c p:Prop}[Decidable c]:(if c then p else False)↔c/\p:=by split<;>simp[*]
noncomputable def xX(j:Int):Bool:=decide (-(2^62)<=j)&&decide (j<2^62)
theorem gn{n:Nat}(h:n<2^60):xX n=M:=by
 unfold xX;rw[bA1,al,al];lia
theorem AU{j:Int}(h: -(2^60)<=j)(h':j<2^60):xX j=M:=by
 unfold xX;rw[bA1,al,al];lia
def BG(p:List D×cZ)(Q:A5×cZ->Prop):Prop:=match p.1 with
 |[.int j]=>xX j=M/\Q (⟨gZ 0 j.toNat,[]⟩,p.2)
 |_=>False
def IU(p:List D×cZ)(Q:A5×cZ->Prop):Prop:=match p.1 with
 |[.int i,.int j]=>xX i=M/\xX j=M/\Q (⟨gZ i (j-i).toNat,[]⟩,p.2)
 |_=>False
theorem pQ{m:FA}{r:Ev}{S:cZ}{Q:A5×cZ->Prop}:W (uj m r S) Q↔W (m r S) λp=>BG p Q:=by
 unfold uj;rw[c4];constructor
 ·refine λh=>h.mono λp q=>?_;unfold BG;split at q
  ·rename_i j e
   try rw[e]
   rw[uc]at q;split at q
   ·rename_i hc;exact⟨by unfold xX;rw[bA1,al,al];exact hc,dg.mp q⟩
   ·exact(j1.mp q).elim
  ·exact(j1.mp q).elim
 ·refine λh=>h.mono λp q=>?_;unfold BG at q;split at q
  ·rename_i j e;obtain⟨a,b⟩:=q;unfold xX at a;rw[bA1,al,al]at a
   try rw[e]
   try dsimp only
   rw[ak a];exact dg.mpr b
  ·exact q.elim
theorem ID{m:FA}{r:Ev}{S:cZ}{Q:A5×cZ->Prop}:W (DL m r S) Q↔W (m r S) λp=>IU p Q:=by
 unfold DL;rw[c4];constructor
 ·refine λh=>h.mono λp q=>?_;unfold IU;split at q
  ·rename_i i j e
   try rw[e]
   rw[uc]at q;split at q
   ·rename_i hc;refine⟨?_,?_,dg.mp q⟩
    ·unfold xX;rw[bA1,al,al];exact⟨hc.1,hc.2.1⟩
    ·unfold xX;rw[bA1,al,al];exact hc.2.2
   ·exact(j1.mp q).elim
  ·exact(j1.mp q).elim
 ·refine λh=>h.mono λp q=>?_;unfold IU at q;split at q
  ·rename_i i j e;obtain⟨a,b,c⟩:=q;unfold xX at a b;rw[bA1,al,al]at a b
   try rw[e]
   try dsimp only
   rw[ak ⟨a.1,a.2,b⟩];exact dg.mpr c
  ·exact q.elim
noncomputable def fits(n:Nat):Bool:=decide (n<=cO)
theorem dz{n:Nat}(h:n<=100000):fits n=M:=by unfold fits;rw[al];exact aB h (by decide)
theorem tE{n:Nat}:fits n=M↔n<=cO:=by unfold fits;rw[al]
theorem Ln:fits 0=M:=dz (by decide)
theorem Ll:fits 1=M:=dz (by decide)
theorem Lk:fits 2=M:=dz (by decide)
theorem Lj:fits 3=M:=dz (by decide)
theorem Li:fits 4=M:=dz (by decide)
theorem LC:fits 5=M:=dz (by decide)
theorem LA:fits 6=M:=dz (by decide)
theorem Lh:fits 7=M:=dz (by decide)
theorem Lg:fits 8=M:=dz (by decide)
theorem hB{α:Type}{n:Nat}{o:Option α}{Q:α->Prop}:W (if n<=cO then o else Y) Q↔fits n=M/\W o Q:=by
 rw[tE,uc];split
 ·rename_i h;exact⟨λq=>⟨h,q⟩,λq=>q.2⟩
 ·rename_i h;exact⟨λq=>(j1.mp q).elim,λq=>absurd q.1 h⟩
theorem lD{a:FA}{r:Ev}{S:cZ}{Q:D×cZ->Prop}:W (c3 a r S) Q↔W (a r S) λp=>fits p.1.length=M/\Q (.tup p.1,p.2):=by
 unfold c3;rw[c4];exact⟨λh=>h.mono λp q=>(hB.mp q).imp_right dg.mp,λh=>h.mono λp q=>hB.mpr (q.imp_right dg.mpr)⟩
theorem A3{a:FA}{r:Ev}{S:cZ}{Q:D×cZ->Prop}:W (d8 a r S) Q↔W (a r S) λp=>fits p.1.length=M/\Q (.ref p.2.length,p.2++[.lst p.1]):=by
 unfold d8;rw[c4];exact⟨λh=>h.mono λp q=>(hB.mp q).imp_right dg.mp,λh=>h.mono λp q=>hB.mpr (q.imp_right dg.mpr)⟩
theorem iw{k:Nat}{keep:List Nat}{m:FI}{g:FG}{t:FT}{b:FV}{r:Ev}{S:cZ}{Q:D×cZ->Prop}:W (dN k keep m g t b r S) Q↔W (m r S) λp=>W (en p.1.chk g t b p.1.items (kK k keep r) p.2) λq=>fits q.1.length=M/\Q (.ref q.2.2.length,q.2.2++[.lst q.1]):=by
 unfold dN;rw[c4];refine⟨λh=>h.mono λp q=>?_,λh=>h.mono λp q=>?_⟩
 ·rw[c4]at q;exact q.mono λz w=>(hB.mp w).imp_right dg.mp
 ·rw[c4];exact q.mono λz w=>hB.mpr (w.imp_right dg.mpr)
theorem Kb{xs ys:List D}{S:cZ}{Q:D×cZ->Prop}:W (dS (.tup xs) (.tup ys) S) Q↔fits (xs.length+ys.length)=M/\Q (.tup (xs++ys),S):=
 ⟨λq=>(hB.mp q).imp_right dg.mp,λq=>hB.mpr (q.imp_right dg.mpr)⟩
theorem GC{x y:Int}{S:cZ}{Q:D×cZ->Prop}:W (dS (.int x) (.int y) S) Q↔Q (.int (x+y),S):=dg
theorem GB{a b:Nat}{xs ys:List D}{S:cZ}{Q:D×cZ->Prop}(h1:S[a]?=Z (.lst xs))(h2:S[b]?=Z (.lst ys)):W (dS (.ref a) (.ref b) S) Q↔fits (xs.length+ys.length)=M/\Q (.ref S.length,S++[.lst (xs++ys)]):=by
 rw[dS];simp only[h1,h2];exact⟨λq=>(hB.mp q).imp_right dg.mp,λq=>hB.mpr (q.imp_right dg.mpr)⟩
theorem ud{n:Nat}{v:D}{xs:List D}{S:cZ}{Q:D×cZ->Prop}(h:S[n]?=Z (.lst xs)):W (kQ (.ref n) v S) Q↔fits (xs.length+1)=M/\Q (.non,S.set n (.lst (xs++[v]))):=by
 rw[kQ];simp only[h];rw[uc,tE];split
 ·rename_i a;exact⟨λq=>⟨a,dg.mp q⟩,λq=>dg.mpr q.2⟩
 ·rename_i a;exact⟨λq=>(j1.mp q).elim,λq=>absurd q.1 a⟩
theorem wy{n:Nat}{i:Nat}{xs:List D}{x:D}{S:cZ}{Q:D×cZ->Prop}(h:S[n]?=Z (.lst xs))(hx:xs[i]?=Z x)(q:Q (x,S)):W (da (.ref n) (.int i) S) Q:=by
 refine W.of (x:=(x,S)) ?_ q;have a:=(gE1.mp hx).1;simp only[da,nW,A8,h,dw,vp,xi,oS1,ak (show(0:Int)<=i by lia)];rw[ak (by lia)];simp[hx]
theorem wx{i:Nat}{xs:List D}{x:D}{S:cZ}{Q:D×cZ->Prop}(hx:xs[i]?=Z x)(q:Q (x,S)):W (da (.tup xs) (.int i) S) Q:=by
 refine W.of (x:=(x,S)) ?_ q;have a:=(gE1.mp hx).1;simp only[da,nW,A8,dw,vp,xi,oS1,ak (show(0:Int)<=i by lia)];rw[ak (by lia)];simp[hx]
theorem Lb:aM 0 (Y:Option D)=[]:=rfl
theorem Kp:aM 1 (Y:Option D)=[Y]:=rfl
theorem K2:aM 2 (Y:Option D)=[Y,Y]:=rfl
theorem KZ:aM 3 (Y:Option D)=[Y,Y,Y]:=rfl
theorem Lz:aM 4 (Y:Option D)=[Y,Y,Y,Y]:=rfl
theorem Ly:aM 5 (Y:Option D)=[Y,Y,Y,Y,Y]:=rfl
theorem Lx:aM 6 (Y:Option D)=[Y,Y,Y,Y,Y,Y]:=rfl
theorem KY:aM 7 (Y:Option D)=[Y,Y,Y,Y,Y,Y,Y]:=rfl
theorem Lw:aM 8 (Y:Option D)=[Y,Y,Y,Y,Y,Y,Y,Y]:=rfl
theorem Lv:aM 9 (Y:Option D)=[Y,Y,Y,Y,Y,Y,Y,Y,Y]:=rfl
theorem La:aM 10 (Y:Option D)=[Y,Y,Y,Y,Y,Y,Y,Y,Y,Y]:=rfl
theorem JA:aM 11 (Y:Option D)=[Y,Y,Y,Y,Y,Y,Y,Y,Y,Y,Y]:=rfl
theorem Jz:aM 12 (Y:Option D)=[Y,Y,Y,Y,Y,Y,Y,Y,Y,Y,Y,Y]:=rfl
theorem K9:aM 13 (Y:Option D)=[Y,Y,Y,Y,Y,Y,Y,Y,Y,Y,Y,Y,Y]:=rfl
theorem K8:aM 14 (Y:Option D)=[Y,Y,Y,Y,Y,Y,Y,Y,Y,Y,Y,Y,Y,Y]:=rfl
theorem K7:aM 15 (Y:Option D)=[Y,Y,Y,Y,Y,Y,Y,Y,Y,Y,Y,Y,Y,Y,Y]:=rfl
theorem K6:aM 16 (Y:Option D)=[Y,Y,Y,Y,Y,Y,Y,Y,Y,Y,Y,Y,Y,Y,Y,Y]:=rfl
theorem K5:aM 17 (Y:Option D)=[Y,Y,Y,Y,Y,Y,Y,Y,Y,Y,Y,Y,Y,Y,Y,Y,Y]:=rfl
theorem K4:aM 18 (Y:Option D)=[Y,Y,Y,Y,Y,Y,Y,Y,Y,Y,Y,Y,Y,Y,Y,Y,Y,Y]:=rfl
theorem K3:aM 19 (Y:Option D)=[Y,Y,Y,Y,Y,Y,Y,Y,Y,Y,Y,Y,Y,Y,Y,Y,Y,Y,Y]:=rfl
theorem K1:aM 20 (Y:Option D)=[Y,Y,Y,Y,Y,Y,Y,Y,Y,Y,Y,Y,Y,Y,Y,Y,Y,Y,Y,Y]:=rfl
theorem kM{α:Type}{T G:List α}{k:Nat}:(T++G)[T.length+k]?=G[k]?:=by rw[gR1 (by lia)];congr 1;lia
theorem dX{α:Type}{T G:List α}:(T++G)[T.length]?=G[0]?:=by rw[gR1 (by lia)];congr 1;lia
theorem CU{S:cZ}{i j:Nat}{xs:List D}(h:S[i]?=Z (.lst xs))(h':S[j]?=Z (.lst [])):Gb (.ref i) (.ref j) S=Z (.bl (!xs.isEmpty),S):=by
 unfold Gb eZ;rw[show(60:Nat)=59+1 from rfl,mz];simp only[dw,h,h'];cases xs with
 |nil=>simp[AA]
 |cons x xs=>simp
mutual
noncomputable def dpD:D->Nat
 | .tup xs=>Ir xs+1
 | .non=>0 | .bl _=>0 | .int _=>0 | .str _=>0 | .rol _=>0 | .fn _=>0 | .ref _=>0
noncomputable def Ir:List D->Nat
 |[]=>0
 |d::ds=>max (dpD d) (Ir ds)
end
theorem q9:∀(n:Nat) (lo:Int),gZ lo n=(af n).map λi:Nat=>D.int (lo+i)
 |0,lo=>rfl
 |n+1,lo=>by
  rw[gZ,q9 n (lo+1),bJ,mP1,bq]
  congr 1
  ·simp
  ·apply cj;intro i _;simp only[Function.comp_apply,Nat.succ_eq_add_one]
   congr 1
   push_cast
   lia
theorem kC(n:Nat):gZ 0 n=(af n).map λi:Nat=>D.int i:=by
 rw[q9];apply cj;intro i _;simp
theorem s9{α:Type}{c:List (Nat×List D)}{g:FG}{t:FT}{e:FE}{S:cZ}{f:α->D}{Q:List D×Ev×cZ->Prop}(F:α->D)(P:Ev->Prop)(d:pc S c=true):∀ (xs:List α) (r:Ev),P r ->
  (∀a∈xs,∀r,P r->W (g (f a) r S) λp=>W (t p.1 p.2) λb=>b.1=M/\W (e p.1 b.2) λx=>x.1=F a/\x.2=S/\P p.1) ->
  (∀i,P i->Q (xs.map F,i,S))->W (en c g t (dA e) (xs.map f) r S) Q
 |[],r,hr,_,h=>by rw[aV,en];dsimp only;rw[ak d,dg];exact h r hr
 |a::xs,r,hr,hs,h=>by
  rw[mP1,en];dsimp only;rw[ak d,c4];obtain⟨p,m,⟨b,n,u,⟨x,q,s,o,k⟩⟩⟩:=hs a mS1 r hr;refine⟨p,m,?_⟩;dsimp only;rw[c4];refine⟨b,n,?_⟩;dsimp only;rw[ak u,c4,dA,jJ];refine⟨x,q,?_⟩;dsimp only;rw[o,jJ];refine s9 F P d xs p.1 k (λa l=>hs a (mC1 _ l)) λi j=>?_;have:=h i j;rw[mP1,<- s]at this;exact this
theorem rr{α:Type}{c:List (Nat×List D)}{g:FG}{t:FT}{e:FE}{S:cZ}{f:α->D}{Q:List D×Ev×cZ->Prop}(k:α->Bool)(F:α->D)(P:Ev->Prop)(d:pc S c=true):∀ (xs:List α) (r:Ev),P r ->
  (∀a∈xs,∀r,P r->W (g (f a) r S) λp=>W (t p.1 p.2) λb=>b.1=k a/\b.2=S/\P p.1/\(k a=M->W (e p.1 S) λx=>x.1=F a/\x.2=S)) ->
  (∀j,P j->Q ((xs.filter k).map F,j,S))->W (en c g t (dA e) (xs.map f) r S) Q
 |[],r,hr,_,h=>by rw[aV,en];dsimp only;rw[ak d,dg];exact h r hr
 |a::xs,r,hr,hs,h=>by
  rw[mP1,en];dsimp only;rw[ak d,c4];obtain⟨p,u,⟨b,v,s,q,o,n⟩⟩:=hs a mS1 r hr;refine⟨p,u,?_⟩;dsimp only;rw[c4];refine⟨b,v,?_⟩;dsimp only;cases hk:k a with
  |true=>
   rw[s,hk,ak O,c4,dA,jJ,q];obtain⟨x,w,n,m⟩:=n hk;refine⟨x,w,?_⟩;dsimp only;rw[m,jJ];refine rr k F P d xs p.1 o (λa l=>hs a (mC1 _ l)) λj i=>?_;have:=h j i;rw[aZ,hk,ak O,mP1,<- n]at this;exact this
  |false=>
   rw[s,hk,aj (by decide),q];refine rr k F P d xs p.1 o (λa l=>hs a (mC1 _ l)) λj i=>?_;have:=h j i;rw[aZ,hk,aj (by decide)]at this;exact this
theorem t9{α:Type}{f:α->Bool}:∀xs:List α,Mi.A0 (xs.map λx=>D.bl (f x))=Z (xs.all f)
 |[]=>rfl
 |x::xs=>by rw[mP1,Mi.A0,t9 xs];rfl
mutual
theorem yo{n m:Nat}(h:n<=m):∀{d:D},d.und n=M->d.und m=M
 | .non,_=>rfl
 | .bl _,_=>rfl
 | .int _,_=>rfl
 | .str _,_=>rfl
 | .tup xs,q=>by rw[D.und]at q ⊢;exact gM h q
 | .rol xs,q=>by rw[D.und]at q ⊢;exact gM h q
 | .fn _,_=>rfl
 | .ref k,q=>by simp[D.und]at q ⊢;lia
theorem gM{n m:Nat}(h:n<=m):∀{ds:List D},D.unds n ds=M->D.unds m ds=M
 |[],_=>rfl
 |d::ds,q=>by
  rw[D.unds,bA1]at q ⊢;exact⟨yo h q.1,gM h q.2⟩
end
theorem gA{n m:Nat}(h:n<=m):∀{o:Ob},o.und n=M->o.und m=M
 | .lst xs,q=>by rw[Ob.und]at q ⊢;exact gM h q
 | .dct xs,q=>by rw[Ob.und]at q ⊢;exact gM h q
 | .dcT xs,q=>by rw[Ob.und]at q ⊢;exact gM h q
 | .dcF xs,q=>by rw[Ob.und]at q ⊢;exact gM h q
 | .iset _,_=>rfl
 | .tst _,_=>rfl
theorem d2{α:Type}{n:Nat}{f:α->D}:∀{xs:List α},(∀x∈xs,(f x).und n=M)->D.unds n (xs.map f)=M
 |[],_=>rfl
 |x::xs,h=>by rw[mP1,D.unds,h x mS1,d2 λy a=>h y (mC1 _ a)];rfl
theorem Ls{x:Nat}:x+1+1=x+2:=rfl
theorem LK{x:Nat}:x+2+1=x+3:=rfl
theorem LJ{x:Nat}:x+3+1=x+4:=rfl
theorem LI{x:Nat}:x+4+1=x+5:=rfl
theorem LH{x:Nat}:x+5+1=x+6:=rfl
theorem LG{x:Nat}:x+6+1=x+7:=rfl
theorem Lr{x:Nat}:x+1+2=x+3:=rfl
theorem gU{xs:List D}{S:cZ}:d4 (.tup xs) S=Z (.int xs.length,S):=rfl
theorem IY{xs:List D}{S:cZ}:d4 (.rol xs) S=Z (.int xs.length,S):=rfl
theorem HZ{S:cZ}:d4 (.str "") S=Z (.int 0,S):=rfl
theorem IR{xs:List D}{S:cZ}:dw S (.tup xs)=Z (J,xs):=rfl
theorem IS{xs:List D}{S:cZ}:dw S (.rol xs)=Z (M,xs):=rfl
theorem Jc{xs:List D}{S:cZ}:i8 S (.tup xs)=[]:=rfl
theorem Jd{xs:List D}{S:cZ}:i8 S (.rol xs)=[]:=rfl
theorem ic{n:Nat}{xs:List D}{S:cZ}(h:S[n]?=Z (.lst xs)):dw S (.ref n)=Z (M,xs):=by simp only[dw,h]
theorem C7{n:Nat}{xs:List D}{S:cZ}(h:S[n]?=Z (.lst xs)):i8 S (.ref n)=[(n,xs)]:=by simp only[i8,h]
def sW(S:cZ)(d:D)(Q:List D×List (Nat×List D)->Prop):Prop:=W (dw S d) λq=>Q (q.2,i8 S d)
theorem qj{xs:List D}{S:cZ}{Q:List D×List (Nat×List D)->Prop}:sW S (.tup xs) Q↔Q (xs,[]):=dg
theorem ee{n:Nat}{xs:List D}{S:cZ}{Q:List D×List (Nat×List D)->Prop}(h:S[n]?=Z (.lst xs))(q:Q (xs,[(n,xs)])):sW S (.ref n) Q:=by
 unfold sW;rw[ic h,C7 h,dg];exact q
theorem jc{m:FE}{r:Ev}{S:cZ}{Q:A5×cZ->Prop}:W (ej m r S) Q↔W (m r S) λp=>sW p.2 p.1 λq=>Q (⟨q.1,q.2⟩,p.2):=by
 unfold ej;rw[c4];refine⟨λh=>h.mono λp q=>?_,λh=>h.mono λp q=>?_⟩
 ·rw[c4]at q;exact q.mono λz w=>dg.mp w
 ·rw[c4];exact W.mono (show W (dw p.2 p.1) _ from q) λz w=>dg.mpr w
theorem A4{d:D}{S:cZ}{Q:D×cZ->Prop}:W (Mi.gTup d S) Q↔sW S d λq=>Q (.tup q.1,S):=by
 unfold Mi.gTup;rw[jJ];exact Iff.rfl
theorem IC{n:Nat}{S:cZ}{Q:D×cZ->Prop}:W (d4 (.ref n) S) Q↔sW S (.ref n) λq=>Q (.int q.1.length,S):=by
 unfold d4 sW;rw[jJ]
noncomputable def pD(e:Nat×Nat):D:=.tup [.int e.1,.int e.2]
theorem pP{f:FN}{o:FE}{a:FA}{r:Ev}{S:cZ}{Q:D×cZ->Prop}(h:W (o r S) λp=>∃n xs,p.1 = .ref n/\p.2[n]?=Z (.lst xs)/\W (a r p.2) λq=>W (f (.ref n::q.1) q.2) Q):W (u4 f o a r S) Q:=by
 unfold u4;rw[c4];refine h.mono ?_;rintro⟨d,b⟩ ⟨n,xs,rfl,e,q⟩;dsimp only at e q ⊢;rw[e];dsimp only;rw[c4];exact q
def eE(row:List (Nat×Nat)):Ob:=.lst (row.map pD)
theorem gu{n:Nat}{row:List (Nat×Nat)}:(eE row).und n=M:=by
 unfold eE;rw[Ob.und];exact d2 λ_ _=>rfl
structure WS (t m:Nat)(T:cZ)(E:List (List (Nat×Nat)))(P:List (Nat×Nat))(U:cZ):Prop where
 tl:T.length=t
 low:U.take t=T
 el:E.length=m
 row:∀i row,E[i]?=some row->U[t+i]?=some (eE row)
 ends:U[t+m]?=some (.lst (gY (t+1) m))
 prs:U[t+m+1]?=some (.lst (P.map pD))
theorem WS.app{t m:Nat}{T:cZ}{E:List (List (Nat×Nat))}{P:List (Nat×Nat)}{U G:cZ}(w:WS t m T E P U):WS t m T E P (U++G):=by
 have b:t+m+1<U.length:=(gE1.mp w.prs).1;refine⟨w.tl,?_,w.el,λi a h=>?_,?_,?_⟩
 ·rw[List.take_append_of_le_length (by omega)];exact w.low
 ·have:=w.row i a h;rw[gL1 (gE1.mp this).1];exact this
 ·rw[gL1 (by omega)];exact w.ends
 ·rw[gL1 (by omega)];exact w.prs
theorem WS.split{t m:Nat}{T:cZ}{E:List (List (Nat×Nat))}{P:List (Nat×Nat)}{U:cZ}(w:WS t m T E P U):U=T++U.drop t:=by
 conv=>lhs;rw[<- cb t U,w.low]
theorem km:∀{k n i:Nat},i<k->(gY n k)[i]?=Z (.ref (n+i))
 |k+1,n,0,_=>rfl
 |k+1,n,i+1,h=>by rw[gY,gC1,km (Nat.lt_of_succ_lt_succ h),show n+1+i=n+(i+1) by lia]
theorem hR:∀k n:Nat,(gY n k).length=k
 |0,_=>rfl
 |k+1,n=>by rw[gY,lC1,hR]
noncomputable def tot(E:List (List (Nat×Nat))):Nat:=(E.map List.length).sum
theorem yu:∀{E:List (List (Nat×Nat))} {k:Nat},k<=E.length->(∀i b,i<k->E[i]?=Z b->4<=b.length)->4*k<=tot E
 |E,0,_,_=>by lia
 |[],k+1,h,_=>by simp at h
 |a::E,k+1,h,q=>by
  have h1:=q 0 a (by lia) O;have h2:=yu (E:=E) (k:=k) (by simpa using h) λi b hi c=>q (i+1) b (by lia) (by simpa using c);simp[tot]at h2 ⊢;lia
noncomputable def nmD(rs:List Nat):List D:=rs.map λi:Nat=>D.int i
theorem eT(rs:List Nat):(nmD rs).length=rs.length:=by simp[nmD]
theorem fC(rs:List Nat):D.unds 0 (nmD rs)=M:=d2 λ_ _=>rfl
abbrev Wk:=Nat×Nat×Nat
noncomputable def ia(w:Wk):D:=.tup [.int w.1,.int w.2.1,.int w.2.2]
def pW(ws:List Wk):List D:=ws.map ia
theorem Bi(ws:List Wk):(pW ws).length=ws.length:=by simp[pW]
theorem Bh(ws:List Wk):D.unds 0 (pW ws)=M:=d2 λ_ _=>rfl
def uv(ws:List Wk)(cs:List Nat):D:=.tup [.tup (pW ws),.tup (nmD cs)]
theorem wM{ws:List Wk}{cs:List Nat}:(uv ws cs).und 0=M:=by simp[uv,D.und,D.unds,Bh,fC]
noncomputable def DM(a b c d:Bool):List D:=(if a then[.str "came"]else[])++(if b then[.str "chalk"]else[])++(if c then[.str "doors"]else[])++(if d then[.str "others"]else[])
theorem Aw(a b c d:Bool):D.unds 0 (DM a b c d)=M:=by cases a<;>cases b<;>cases c<;>cases d<;>rfl
theorem z0{κ:Type}[DecidableEq κ]{k:κ}:dH ([]:List (κ×D)) k=Y:=rfl
theorem fx{κ:Type}[DecidableEq κ]{k a:κ}{d:D}{r:List (κ×D)}:dH ((a,d)::r) k=if a=k then Z d else dH r k:=by
 unfold dH;rw[aW];by_cases h:a=k
 ·simp[h]
 ·simp[h]
theorem tj{κ:Type}[DecidableEq κ]{k:κ}{b:List (κ×D)}:∀{a:List (κ×D)},dH (a++b) k=(dH a k).or (dH b k)
 |[]=>rfl
 |(x,d)::a=>by
  rw[bg,fx,fx,tj (a:=a)];split<;>rfl
theorem pk{κ:Type}[DecidableEq κ]{k:κ}:∀{a:List (κ×D)},(a.any λp=>decide (p.1=k))=J->dH a k=Y
 |[],_=>rfl
 |(x,d)::a,h=>by
  simp only[aX,Bool.or_eq_false_iff,decide_eq_false_iff_not]at h;rw[fx,aj h.1];exact pk h.2
theorem lr{κ:Type}[DecidableEq κ]{k k':κ}{v:D}:∀{a:List (κ×D)},(a.any λp=>decide (p.1=k))=M->dH (a.map λp=>if p.1=k then(p.1,v)else p) k'=if k'=k then Z v else dH a k'
 |[],h=>by simp at h
 |(x,d)::a,h=>by
  rw[mP1];by_cases f:x=k
  ·subst f;rw[ak (show(x,d).1=x from rfl)];rw[fx,fx];by_cases b:k'=x
   ·subst b;simp
   ·rw[aj (Ne.symm b),aj (Ne.symm b),aj b];by_cases g:(a.any λp=>decide (p.1=x))=M
    ·rw[lr g,aj b]
    ·have:(a.map fun p=>if p.1=x then (p.1,v) else p)=a:=by
      have c:(a.any λp=>decide (p.1=x))=J:=Bool.eq_false_iff.mpr g;rw[List.any_eq_false]at c
      conv=>rhs;rw[<- ck a]
      apply cj;intro p i;have:=c p i;simp at this;simp[this]
     rw[this]
  ·simp only[aX,ai f,Bool.false_or]at h;rw[aj (show¬ (x,d).1=k from f)];rw[fx,fx,lr h];by_cases e:x=k'
   ·subst e;simp[f]
   ·simp[e]
theorem tf{κ:Type}[DecidableEq κ]{k k':κ}{v:D}{a:List (κ×D)}:dH (gz a k v) k'=if k'=k then Z v else dH a k':=by
 unfold gz;split
 ·rename_i h;exact lr h
 ·rename_i h;have h':(a.any λp=>decide (p.1=k))=J:=Bool.eq_false_iff.mpr h;rw[tj,fx,z0];by_cases b:k'=k
  ·subst b;rw[pk h',ak O];rfl
  ·rw[aj (Ne.symm b),aj b];cases dH a k'<;>rfl
theorem BM{κ:Type}[DecidableEq κ]{k:κ}{v:D}{a:List (κ×D)}:(gz a k v).length<=a.length+1:=by
 unfold gz;split
 ·rw[lM1];lia
 ·rw[lA1];simp
theorem Ez{κ:Type}[DecidableEq κ]{k:κ}{v:D}{a:List (κ×D)}:gz a k v≠[]:=by
 unfold gz;split
 ·rename_i h;intro z;cases a with
  |nil=>simp at h
  |cons x xs=>simp at z
 ·simp
noncomputable def dO(F:List (TK×D)):Ob:=if F=[]then .dct []else .dcT F
theorem Gy{U:cZ}{n:Nat}{F:List (TK×D)}{a v:D}{k:TK}{Q:D×cZ->Prop}(h:U[n]?=Z (dO F))(hk:keyT a=Z k)(c:F.length<1000)(q:Q (.non,U.set n (dO (gz F k v)))):W (i4 (.ref n) a v U) Q:=by
 refine W.of ?_ q;unfold dO at h ⊢;rw[aj Ez];by_cases b:F=[]
 ·subst b;rw[ak O]at h;simp only[i4,h,hk];rfl
 ·rw[aj b]at h;simp only[i4,h,hk,oS1];rw[ak (nL1 c (by decide))]
theorem GA{U:cZ}{n:Nat}{F:List (TK×D)}{a v:D}{k:TK}{Q:D×cZ->Prop}(h:U[n]?=Z (dO F))(hk:keyT a=Z k)(hv:dH F k=Z v)(q:Q (v,U)):W (da (.ref n) a U) Q:=by
 refine W.of ?_ q;unfold dO at h;by_cases b:F=[]
 ·subst b;cases hv
 ·rw[aj b]at h;simp only[da,h,hk,oS1,hv,oP1]
noncomputable def se(e:Nat×Nat):TK:=.tup [.int e.1,.int e.2]
theorem vK{a b:Nat×Nat}(h:se a=se b):a=b:=by
 obtain⟨a1,a2⟩:=a;obtain⟨b1,b2⟩:=b;simp[se]at h
 ext<;>simp<;>lia
theorem wd{e:Nat×Nat}:keyT (pD e)=Z (se e):=rfl
theorem Gz{U:cZ}{n i:Nat}{xs:List D}{x:D}{Q:D×cZ->Prop}(h:U[n]?=Z (.lst xs))(hx:xs[i]?=Z x)(hb:i<1000)(q:Q (x,U.set n (.lst (xs.eraseIdx i)))):W (An (.ref n) (.int i) U) Q:=by
 have a:=(gE1.mp hx).1;refine W.of ?_ q;simp only[An,h];rw[ak ⟨by lia,by lia⟩];simp only[xi,ak (show(0:Int)<=i by lia)];rw[ak (by lia)];simp[hx]
theorem Am{d:D}{S G:cZ}(hd:d.und 0=M)(a:S.all (Ob.und S.length)=M):gc S.length (d,S++G)=(d,S):=by
 unfold gc;dsimp only;rw[List.take_left,ak (by rw[eQ hd,a];rfl)]
mutual
theorem yL{n:Nat}:∀{d:D},d.und 0=M->d.sh n=d
 | .non,_=>rfl
 | .bl _,_=>rfl
 | .int _,_=>rfl
 | .str _,_=>rfl
 | .tup xs,h=>by rw[D.und]at h;rw[D.sh,kd h]
 | .rol xs,h=>by rw[D.und]at h;rw[D.sh,kd h]
 | .fn _,_=>rfl
 | .ref k,h=>by simp[D.und]at h
theorem kd{n:Nat}:∀{ds:List D},D.unds 0 ds=M->D.shs n ds=ds
 |[],_=>rfl
 |d::ds,h=>by
  rw[D.unds,bA1]at h;rw[D.shs,yL h.1,kd h.2]
end
theorem callL{n:Nat}{f:FN}{ds:List D}{S:cZ}{Q:D×cZ->Prop}(hn:ds.length=n)(c:D.unds 0 ds=M)(h:W (f ds []) λp=>∃xs,p=(.ref 0,[.lst xs])/\D.unds 0 xs=M/\Q (.ref S.length,S++[.lst xs])):W (cY n f ds S) Q:=by
 obtain⟨p,e,xs,rfl,a,q⟩:=h;refine⟨_,kW e hn c O,?_⟩;have d:(D.ref 0).sh S.length = .ref S.length:=rfl;have b:[Ob.lst xs].map (Ob.sh S.length)=[Ob.lst xs]:=by rw[mP1,aV,Ob.sh,kd a]
 rw[d,b];exact q
end Mi
end
local macro_rules | `(tactic| walk_at"w") => `(tactic| simp only[Mi.dg, Mi.j1, Mi.ite_and', Mi.c4, Mi.jJ, Mi.uc, Mi.c7, Mi.de, Mi.ew, Mi.dD, Mi.fw, Mi.iC, Mi.mN, Mi.cV, Mi.cW, Mi.m2, Mi.m1, Mi.mV, Mi.mC, Mi.lD, Mi.A3, Mi.mB, Mi.nN, Mi.ms, Mi.fE, Mi.fY, Mi.lZ, Mi.zT, Mi.dI, Mi.jT, Mi.iN, Mi.gN, Mi.gT, Mi.eH, Mi.iq, Mi.gS, Mi.b1, Mi.b2, Mi.b3, Mi.fG, Mi.d7, Mi.iw, Mi.pQ, Mi.ID, Mi.BG, Mi.IU, Mi.eM, Mi.kK, Mi.GC, Mi.gSub, Mi.hh, Mi.tD, Mi.C0, Mi.CY, Mi.Ln, Mi.Ll, Mi.Lk, Mi.Lj, Mi.Li, Mi.Lh, Mi.Lg, true_and, Mi.kM, Mi.dX, bB, lA1, cm, gC1, List.getElem?_nil, List.set_cons_zero, List.set_cons_succ, lC1, aY, mP1, aV, Mi.Lb, Mi.Kp, Mi.K2, Mi.KZ, Mi.KY, Mi.JA, Mi.Jz, cp, bg, aK, Nat.reduceAdd, Nat.reduceSub, Option.join_some, Option.join_none, oP1, Option.map_none, oS1, Option.bind_none, if_true, if_false, bF1, bV, Bool.not_false, ite_true, ite_false, reduceIte, decide_true, decide_false, Mi.Ls, Mi.Lr, Mi.gU, Mi.jc, Mi.A4, Mi.IC])
noncomputable section
namespace Law
open PySem PySem.Spec PyProof.Rows L2 Mi
noncomputable def gO (i:Nat):cT:=PySem.Challenge.pw_ringmeet_k70_lookers_of_anything.main.body.getD i (.Pass ⟨0,0,0,0⟩)
abbrev BL:List Str:=["all","any","bool","enumerate","int","isinstance","len","list","max","min","range","set","sorted","sum","tuple","zip"]
noncomputable def rB:D:=(D.tup [(D.tup [(D.str "came"),(D.int 5)]),(D.tup [(D.str "chalk"),(D.int 2)]),(D.tup [(D.str "doors"),(D.int 5)]),(D.tup [(D.str "others"),(D.int 2)])])
noncomputable def rD:D:=(D.int 4000)
section
variable{P:cI}{w:cK}{K:Fg1}{mg:Str->Option cF}{base h:cR}(X:K.In h) (G:h.Ns cM mg) (B:Blt BL mg)
include X G B
abbrev no:cT:=gO 1
def ou:FS:=(dD (fY (iY .int (mV 0)) (lZ (iY .bool (mV 0)))))
def fm:FN:=fG 1 ou
theorem sJ {f:cH}(F:dr K "is_whole" no f):
  d0 P w K mg base 1 "is_whole" 1 fm:=xq ["thing"] X G F λa=>
 (qG (qU (gk (ii xv) (gj (pV (ii xv))))))
abbrev jy:cT:=gO 3
def jH:FS:=(dD (fY (iY .tuple (mV 0)) (m2 (b2 ul) (mN (b1 d4) (cV (mV 0) cW)) (mV 1))))
def dY:FN:=fG 2 jH
theorem nH {f:cH}(F:dr K "is_tuple_of" jy f):
  d0 P w K mg base 1 "is_tuple_of" 2 dY:=xq ["thing","many"] X G F λa=>
 (qG (qU (gk (ii xv) (gj (ce (oq mr) (cn ev (a1 xv)) xv)))))
abbrev lK:cT:=gO 4
def ma:FS:=(dD (mN (b1 jW) (cV (dN 1 [0] (uj (cV (m2 (b2 gSub) (mN (b1 d4) (cV (mV 0) cW)) (mC (D.int 1))) cW)) (gN 0) dI (dA (m2 (b2 uk) (m2 (b2 da) (mV 1) (mV 0)) (m2 (b2 da) (mV 1) (m2 (b2 dS) (mV 0) (mC (D.int 1))))))) cW)))
def eU:FN:=fG 1 ma
theorem qy {f:cH}(F:dr K "is_rising" lK f):
  d0 P w K mg base 1 "is_rising" 1 eU:=xq ["things"] X G F λa=>
 (qG (qU (cn (kY O) (a1 (fk ["at"] (ir (a1 (qI zx (cn ev (a1 xv)) qK))) ⟨gq,dj,(ce (oq iU) (jq xv xv) (jq xv (qI dG xv qK)))⟩)))))
abbrev nq:cT:=gO 9
def qu:FT:=(mB (m2 (b2 uk) (mV 2) (mV 3)))
def qt:FS:=(c7 (de (m2 (b2 xr) (m2 (b2 dS) (mV 2) (mV 3)) (mC (D.int 2))) (gN 4))
  (ew (mB (m2 (b2 uk) (m2 (b2 da) (m2 (b2 da) (m2 (b2 da) (mV 0) (mV 4)) (mC (D.int 0))) (mC (D.int 0))) (mV 1))) (de (m2 (b2 dS) (mV 4) (mC (D.int 1))) (gN 2)) (de (mV 4) (gN 3))))
def vn:FS:=(c7 (de (mC (D.int 0)) (gN 2))
  (c7 (de (mN (b1 d4) (cV (mV 0) cW)) (gN 3))
  (c7 (vF qu qt 100000)
  (dD (mV 2)))))
def jS:FN:=fG 5 vn
theorem sL {f:cH}(F:dr K "first_of" nq f):
  d0 P w K mg base 1 "first_of" 2 jS:=xq ["rows","mood","low","high","middle"] X G F λa=>
 (qF (sq qK) (qF (sq (cn ev (a1 xv))) (qF (k6 100000 PassesOwn.never (ct (oq iU) xv xv) (qF (sq (qI DE (qI dG xv xv) qK)) (qG (qV (ct (oq iU) (jq (jq (jq xv xv) qK) qK) xv) (qG (sq (qI dG xv qK))) (qG (sq xv)))))) (qG (qU xv)))))
abbrev vT:cT:=gO 11
def wv:FS:=(c7 (de (mV 0) (gT 2 (eH (gN 1) (eH (gN 2) iq))))
  (dD (c3 (cV (mN (b1 gTup) (cV (dN 1 [] (ej (mV 1)) (gN 0) dI (dA (c3 (cV (mV 0) (cV (mC (D.int 0)) (cV (mC (D.int 0)) cW)))))) cW)) (cV (mV 2) cW)))))
def io:FN:=fG 3 wv
theorem zw {f:cH}(F:dr K "begun" vT f):
  d0 P w K mg base 1 "begun" 1 io:=xq ["standing","rooms","chalk"] X G F λa=>
 (qF (qR xv (tg2 gq gq)) (qG (qU (cX (a2 (cz fR (a1 (fk ["room"] (qd xv) ⟨gq,dj,(cX (a3 xv qK qK))⟩))) xv)))))
abbrev nl:cT:=gO 12
def vm:FS:=(c7 (de (mV 2) (gT 2 (eH (gN 4) (eH (gN 5) iq))))
  (c7 (de (m2 (b2 da) (mV 4) (mV 3)) (gT 3 (eH (gN 6) (eH (gN 7) (eH (gN 8) iq)))))
  (c7 (de (dN 1 [6] (ej (mV 4)) (gN 0) (mB (m2 (b2 ul) (m2 (b2 da) (mV 0) (mC (D.int 0))) (mV 1))) (dA (mV 0))) (gN 9))
  (c7 (de (zU [((mC (D.str "came")),(mV 7)),((mC (D.str "chalk")),(zT (mB (m2 (b2 my) (mV 6) (mV 5))) (mC (D.int 1)) (mC (D.int 0)))),((mC (D.str "doors")),(mN (b1 d4) (cV (m2 (b2 da) (mV 0) (mV 6)) cW))),((mC (D.str "others")),(zT (mB (m2 (b2 (hh λi j=>decide (j<i))) (mN (b1 d4) (cV (mV 9) cW)) (mC (D.int 1)))) (mC (D.int 1)) (mC (D.int 0))))]) (gN 10))
  (dD (mN (b1 gTup) (cV (dN 2 [1,10] (ej (mC rB)) (gT 2 (eH (gN 0) (eH (gN 1) iq))) dI (dA (zT (mB (m2 (b2 my) (mV 0) (mV 2))) (m2 (b2 da) (mV 3) (mV 0)) (mC D.non)))) cW)))))))
def jR:FN:=fG 11 vm
theorem sI {f:cH}(F:dr K "sight_of" nl f)(a:CGl K mg "PARTS" rB):
  d0 P w K mg base 1 "sight_of" 4 jR:=xq ["web","eyes","whole","k","walkers","chalk","room","came","mood","here","parts"] X G F λb=>
 (qF (qR xv (tg2 gq gq)) (qF (qR (jq xv xv) (gi O (dm gq (dm gq (dm gq fA))))) (qF (hE 9 O (T:=["other"]) (keep:=[6]) ⟨O,by decide+kernel,(kc "room" (ci _))⟩ O (qd xv) (λ_ _ _=>⟨gq,(iK (ct (oq mr) (jq xv qK) xv)),xv⟩) (gg O) O (by first|exact Or.inl rfl|exact Or.inr rfl)) (qF (sq (r6 (iJ dt xv (iJ dt (iL (ct (oq nL) xv xv (by with_unfolding_all rfl)) qK qK) (iJ dt (cn ev (a1 (jq xv xv))) (iJ dt (iL (ct Cf (cn ev (a1 xv)) qK) qK qK) vC)))))) (qG (qU (cz fR (a1 (fk ["eye","many"] (qd (rZ a rfl)) ⟨(tg2 gq gq),dj,(iL (ct (oq nL) xv xv (by with_unfolding_all rfl)) (jq xv xv) et)⟩)))))))))
abbrev oU:cT:=gO 15
def xM:FS:=(c7 (de (mV 0) (gT 2 (eH (gN 2) (eH (gN 3) iq))))
  (c7 (de (dN 2 [] (H9 (cV (mV 2) (cV (mV 1) cW))) (gT 2 (eH (gN 0) (eH (gN 1) iq))) (mB (m2 (b2 ul) (m2 (b2 da) (mV 1) (mC (D.int 1))) (mC (D.str "mark")))) (dA (m2 (b2 da) (mV 0) (mC (D.int 0))))) (gN 4))
  (c7 (de (dN 2 [] (H9 (cV (mV 2) (cV (mV 1) cW))) (gT 2 (eH (gN 0) (eH (gN 1) iq))) (mB (m2 (b2 ul) (m2 (b2 da) (mV 1) (mC (D.int 1))) (mC (D.str "wipe")))) (dA (m2 (b2 da) (mV 0) (mC (D.int 0))))) (gN 5))
  (c7 (de (dN 1 [5] (ej (mV 3)) (gN 0) (mB (m2 (b2 mL) (mV 0) (mV 1))) (dA (mV 0))) (gN 6))
  (dD (mN (b1 gTup) (cV (mN (b1 nV) (cV (m2 (b2 dS) (mV 6) (mV 4)) cW)) cW)))))))
def ln:FN:=fG 7 xM
theorem uR {f:cH}(F:dr K "handled" oU f):
  d0 P w K mg base 1 "handled" 2 ln:=xq ["whole","deeds","walkers","chalk","marked","wiped","left"] X G F λa=>
 (qF (qR xv (tg2 gq gq)) (qF (hE 4 O (T:=["walker","deed"]) (keep:=[]) ⟨O,by decide+kernel,(ci _)⟩ O (pU O (bz B) (a2 xv xv)) (λ_ _ _=>⟨(tg2 gq gq),(iK (ct (oq mr) (jq xv qK) dt)),(jq xv qK)⟩) (gg O) O (by first|exact Or.inl rfl|exact Or.inr rfl)) (qF (sq (fk ["walker","deed"] (pU rfl (bz B) (a2 xv xv)) ⟨(tg2 gq gq),(iK (ct (oq mr) (jq xv qK) dt)),(jq xv qK)⟩)) (qF (hE 6 rfl (T:=["room"]) (keep:=[5]) ⟨rfl,by decide+kernel,(kc "wiped" (ci _))⟩ rfl (qd xv) (λ_ _ _=>⟨gq,(iK (ct (oq sP) xv xv (by with_unfolding_all rfl))),xv⟩) (gg O) O (by first|exact Or.inl rfl|exact Or.inr rfl)) (qG (qU (cz fR (a1 (wF rfl rfl (bz B) rfl (bz B) (qI dG xv xv))))))))))
abbrev oT:cT:=gO 16
def xL:FS:=(c7 (de (mV 1) (gT 3 (eH (gN 3) (eH (gN 4) (eH (gN 5) iq)))))
  (c7 (de (mV 2) (gT 3 (eH (gN 6) (eH (gN 7) (eH (gN 8) iq)))))
  (c7 (ew (ms (mB (m2 (b2 Ih) (mV 8) (mC D.non))) (mB (m2 (b2 (hh λi j=>decide (j<=i))) (mV 8) (mN (b1 d4) (cV (m2 (b2 da) (mV 0) (mV 3)) cW))))) (dD (c3 (cV (mV 3) (cV (mV 4) (cV (mV 6) cW))))) iC)
  (c7 (de (m2 (b2 da) (m2 (b2 da) (mV 0) (mV 3)) (mV 8)) (gT 2 (eH (gN 9) (eH (gN 10) iq))))
  (dD (c3 (cV (mV 9) (cV (m2 (b2 dS) (mC (D.int 1)) (mV 10)) (cV (mV 6) cW)))))))))
def lm:FN:=fG 11 xL
theorem uQ {f:cH}(F:dr K "stepped" oT f):
  d0 P w K mg base 1 "stepped" 3 lm:=xq ["web","walker","deed","room","came","past","mood","hand","step","there","back"] X G F λa=>
 (qF (qR xv (gi O (dm gq (dm gq (dm gq fA))))) (qF (qR xv (gi O (dm gq (dm gq (dm gq fA))))) (qF (qV (ge (f0 (ct HF xv et) (fz (ct Ff xv (cn ev (a1 (jq xv xv))))))) (qG (qU (cX (a3 xv xv xv)))) qQ) (qF (qR (jq (jq xv xv) xv) (tg2 gq gq)) (qG (qU (cX (a3 xv (qI dG qK xv) xv))))))))
abbrev su:cT:=gO 17
def tZ:FS:=(c7 (de (m2 (b2 da) (m2 (b2 da) (m2 (b2 da) (mV 0) (mC (D.int 0))) (mC (D.int 0))) (mC (D.int 0))) (gN 1))
  (dD (mN (b1 jW) (cV (dN 3 [1] (ej (m2 (b2 da) (mV 0) (mC (D.int 0)))) (gT 3 (eH (gN 0) (eH (gN 1) (eH (gN 2) iq)))) dI (dA (m2 (b2 ul) (mV 0) (mV 3)))) cW))))
def eG:FN:=fG 2 tZ
theorem wZ {f:cH}(F:dr K "is_met" su f):
  d0 P w K mg base 1 "is_met" 1 eG:=xq ["whole","first"] X G F λa=>
 (qF (sq (jq (jq (jq xv qK) qK) qK)) (qG (qU (cn (kY O) (a1 (fk ["room","came","mood"] (qd (jq xv qK)) ⟨(gi O (dm gq (dm gq (dm gq fA)))),dj,(ce (oq mr) xv xv)⟩))))))
abbrev kf:cT:=gO 20
def nD:FS:=(de (dN 2 [0] (ej (mV 2)) (gN 0) dI (tF (DL (cV (zT (jT (mV 0)) (m2 (b2 dS) (m2 (b2 da) (mV 0) (m1 (b1 mx) (mC (D.int 1)))) (mC (D.int 1))) (mC (D.int 0))) (cV (mV 2) cW))) (gN 1) dI (dA (m2 (b2 dS) (mV 0) (c3 (cV (mV 1) cW)))))) (gN 2))
def rK:FS:=(c7 (de (d8 (cV (c3 cW) cW)) (gN 2))
  (c7 (eM (uj (cV (mV 1) cW)) (gN 3) nD)
  (dD (mV 2))))
def im:FN:=fG 4 rK
theorem oD {f:cH}(F:dr K "some_rooms" kf f):
  d0 P w K mg base 1 "some_rooms" 2 im:=xq ["bound","many","found","k"] X G F λa=>
 (qF (sq (dk (a1 (cX qN)))) (qF (fo (ir (a1 xv)) gq (qG (wH 2 O (T:=["rooms","room"]) (keep:=[0]) ⟨O,by decide+kernel,(kc "bound" (ci _))⟩ O (qd xv) (λ_ _ _=>⟨gq,dj,(jL O (bz B) (a2 (iL (ea xv) (qI dG (jq xv (gv iT qK)) qK) qK) xv)),gq,dj,(qI dG xv (cX (a1 xv)))⟩) (gg O) O (by first|exact Or.inl rfl|exact Or.inr rfl)))) (qG (qU xv))))
abbrev nv:cT:=gO 38
def j0:FS:=(c7 (de (mC (D.int 0)) (gN 2))
  (c7 (ew (mB (m2 (b2 uk) (mV 1) (mN (b1 d4) (cV (mV 0) cW)))) (de (m2 (b2 da) (mV 0) (mV 1)) (gN 2)) iC)
  (c7 (de (m2 (b2 i5) (m2 (b2 kP) (mV 2) (m2 (b2 i5) (m2 (b2 oI) (mC (D.int 10)) (mC (D.int 45))) (m2 (b2 oI) (mC (D.int 10)) (mC (D.int 45))))) (mN (b1 tD) (cV (m2 (b2 (hh λi j=>decide (j<=i))) (mV 2) (m2 (b2 oI) (mC (D.int 10)) (mC (D.int 18)))) cW))) (gN 3))
  (dD (d8 (cV (mV 3) (cV (m2 (b2 kP) (m2 (b2 dS) (m2 (b2 dS) (m2 (b2 dS) (m2 (b2 kP) (mV 2) (mC (D.int 2305843009213693951))) (m2 (b2 i5) (m2 (b2 i5) (mC (D.int 9973)) (mV 1)) (mV 1))) (m2 (b2 i5) (mC (D.int 17)) (mV 1))) (mC (D.int 5))) (mC (D.int 2305843009213693951))) (cV (mC (D.int 0)) cW))))))))
def fq:FN:=fG 4 j0
theorem sO {f:cH}(F:dr K "_law_box" nv f):
  d0 P w K mg base 1 "_law_box" 2 fq:=xq ["_law_script","_law_k","_law_cell","_law_own"] X G F λa=>
 (qF (sq qK) (qF (qV (ct (oq iU) xv (cn ev (a1 xv))) (qG (sq (jq xv xv))) qQ) (qF (sq (qI jC (qI lW xv (qI jC (qI v3 qK qK) (qI v3 qK qK))) (cz AR (a1 (ce Ff xv (qI v3 qK qK)))))) (qG (qU (dk (a3 xv (qI lW (qI dG (qI dG (qI dG (qI lW xv qK) (qI jC (qI jC qK xv) xv)) (qI jC qK xv)) qK) qK) qK)))))))
abbrev lS:cT:=gO 39
def ja:FS:=(c7 (ew (mB (m2 (b2 (hh fun i j=>decide (j<i))) (m2 (b2 da) (mV 0) (mC (D.int 0))) (mC (D.int 0)))) (c7 (de (m2 (b2 kP) (m2 (b2 da) (mV 0) (mC (D.int 0))) (mV 1)) (gN 2))
  (c7 (de (m2 (b2 nX) (m2 (b2 da) (mV 0) (mC (D.int 0))) (mV 1)) (gS (b3 i4) (mV 0) (mC (D.int 0))))
  (dD (mV 2)))) iC)
  (c7 (de (m2 (b2 dS) (m2 (b2 da) (mV 0) (mC (D.int 2))) (mC (D.int 1))) (gS (b3 i4) (mV 0) (mC (D.int 2))))
  (c7 (de (m2 (b2 kP) (m2 (b2 dS) (m2 (b2 dS) (m2 (b2 i5) (m2 (b2 da) (mV 0) (mC (D.int 1))) (mC (D.int 40009))) (m2 (b2 i5) (mC (D.int 7368787)) (m2 (b2 da) (mV 0) (mC (D.int 2))))) (mC (D.int 12345))) (mC (D.int 2305843009213693951))) (gN 3))
  (c7 (de (m2 (b2 kP) (m2 (b2 dS) (m2 (b2 i5) (mV 3) (m2 (b2 dS) (m2 (b2 kP) (mV 3) (mC (D.int 65537))) (m2 (b2 i5) (mC (D.int 101)) (m2 (b2 da) (mV 0) (mC (D.int 2)))))) (mC (D.int 9973))) (mC (D.int 2305843009213693921))) (gS (b3 i4) (mV 0) (mC (D.int 1))))
  (dD (m2 (b2 kP) (m2 (b2 dS) (m2 (b2 nX) (m2 (b2 da) (mV 0) (mC (D.int 1))) (mC (D.int 4099))) (m2 (b2 nX) (m2 (b2 da) (mV 0) (mC (D.int 1))) (mC (D.int 2147483659)))) (mV 1)))))))
def c6:FN:=fG 4 ja
theorem qT {f:cH}(F:dr K "_law_draw" lS f):
  d0 P w K mg base 1 "_law_draw" 2 c6:=xq ["_law_box_here","_law_many","_law_drawn","_law_once"] X G F λa=>
 (qF (qV (ct Cf (jq xv qK) qK) (qF (sq (qI lW (jq xv qK) xv)) (qF (qR (qI uU (jq xv qK) xv) (mH xv qK (qi a.units))) (qG (qU xv)))) qQ) (qF (qR (qI dG (jq xv qK) qK) (mH xv qK (qi a.units))) (qF (sq (qI lW (qI dG (qI dG (qI jC (jq xv qK) qK) (qI jC qK (jq xv qK))) qK) qK)) (qF (qR (qI lW (qI dG (qI jC xv (qI dG (qI lW xv qK) (qI jC qK (jq xv qK)))) qK) qK) (mH xv qK (qi a.units))) (qG (qU (qI lW (qI dG (qI uU (jq xv qK) qK) (qI uU (jq xv qK) qK)) xv)))))))
abbrev lR:cT:=gO 42
def mi:FS:=(c7 (de (m2 (b2 xr) (mN (b1 tz) (cV (dN 1 [] (ej (mV 0)) (gN 0) dI (dA (mN (b1 d4) (cV (mV 0) cW)))) cW)) (mC (D.int 2))) (gN 3))
  (c7 (fw (u4 (b2 kQ) (m2 (b2 da) (mV 0) (mV 1)) (cV (c3 (cV (mV 3) (cV (mC (D.int 0)) cW))) cW)))
  (fw (u4 (b2 kQ) (m2 (b2 da) (mV 0) (mV 2)) (cV (c3 (cV (mV 3) (cV (mC (D.int 1)) cW))) cW)))))
def fv:FN:=fG 4 mi
theorem qS {f:cH}(F:dr K "_law_join" lR f):
  d0 P w K mg base 1 "_law_join" 3 fv:=xq ["_law_ends","_law_one","_law_other","_law_number"] X G F λa=>
 (qF (sq (qI DE (cn (Gm O) (a1 (fk ["_law_row"] (qd xv) ⟨gq,dj,(cn ev (a1 xv))⟩))) qK)) (qF (lq ap (jq xv xv) (a1 (cX (a2 xv qK)))) (qG (lq ap (jq xv xv) (a1 (cX (a2 xv qK)))))))
abbrev jB:cT:=gO 44
def mn:FS:=(de (m2 (b2 dS) (mV 5) (dN 1 [6] (ej (mV 4)) (gN 0) dI (dA (m2 (b2 dS) (mV 1) (c3 (cV (mV 0) cW)))))) (gN 5))
def ml:FS:=(c7 (de (zT (mB (m2 (b2 my) (mV 2) (mV 0))) (u5 (cV (m2 (b2 dS) (mV 3) (mC (D.int 1))) cW)) (d8 (cV (mC D.non) cW))) (gN 4))
  (c7 (de (d8 cW) (gN 5))
  (c7 (eM (ej (mV 1)) (gN 6) mn)
  (de (mV 5) (gN 1)))))
def oN:FS:=(c7 (de (d8 (cV (c3 cW) cW)) (gN 1))
  (c7 (eM (ej (c3 (cV (c3 (cV (mC (D.str "came")) (cV (mC (D.int 4)) cW))) (cV (c3 (cV (mC (D.str "chalk")) (cV (mC (D.int 1)) cW))) (cV (c3 (cV (mC (D.str "doors")) (cV (mC (D.int 4)) cW))) (cV (c3 (cV (mC (D.str "others")) (cV (mC (D.int 1)) cW))) cW)))))) (gT 2 (eH (gN 2) (eH (gN 3) iq))) ml)
  (dD (mV 1))))
def fe:FN:=fG 7 oN
theorem nK {f:cH}(F:dr K "_law_sights" jB f):
  d0 P w K mg base 1 "_law_sights" 1 fe:=xq ["_law_eyes","_law_found","_law_eye","_law_most","_law_parts","_law_longer","_law_one"] X G F λa=>
 (qF (sq (dk (a1 (cX qN)))) (qF (fo (qd (cX (qA (cX (a2 dt qK)) (a3 (cX (a2 dt qK)) (cX (a2 dt qK)) (cX (a2 dt qK)))))) (tg2 gq gq) (qF (sq (iL (ct (oq nL) xv xv (by with_unfolding_all rfl)) (jM O O (bz B) O (bz B) (a1 (qI dG xv qK))) (dk (a1 et)))) (qF (sq (dk qN)) (qF (fo (qd xv) gq (qG (sq (qI dG xv (fk ["_law_part"] (qd xv) ⟨gq,dj,(qI dG xv (cX (a1 xv)))⟩))))) (qG (sq xv)))))) (qG (qU xv))))
abbrev lT:cT:=gO 48
def oC:FS:=(de (zT (jT (mV 1)) (d8 (cV (mV 2) cW)) (c3 (cV (mV 2) cW))) (gN 2))
def jb:FS:=(c7 (de (c3 (cV (mC (D.int 0)) cW)) (gN 2))
  (c7 (eM (uj (cV (mV 0) cW)) (gN 3) oC)
  (dD (mV 2))))
def eg:FN:=fG 4 jb
theorem q0 {f:cH}(F:dr K "_law_deep" lT f):
  d0 P w K mg base 1 "_law_deep" 2 eg:=xq ["_law_many","_law_as_list","_law_found","_law_turn"] X G F λa=>
 (qF (sq (cX (a1 qK))) (qF (fo (ir (a1 xv)) gq (qG (sq (iL (ea xv) (dk (a1 xv)) (cX (a1 xv)))))) (qG (qU xv))))
abbrev iB:cT:=gO 50
def kw:FS:=(fw (u4 (b2 kQ) (mV 5) (cV (c3 (cV (mV 7) (cV (mC (D.int 0)) (cV (mC (D.int 0)) cW)))) cW)))
def ku:FS:=(fw (u4 (b2 kQ) (mV 5) (cV (c3 (cV (c3 (cV (m2 (b2 dS) (c3 (cV (mV 9) cW)) (kF (mV 2) (gf (mC (D.int 1))) gC)) (cV (mV 3) cW))) (cV (mC (D.int 0)) (cV (mC (D.int 0)) cW)))) cW)))
def iG:FS:=(c7 (de (mV 0) (gT 2 (eH (gN 2) (eH (gN 3) iq))))
  (c7 (de (m2 (b2 da) (mV 2) (mC (D.int 0))) (gN 4))
  (c7 (de (d8 (cV (c3 (cV (mV 0) cW)) (cV (c3 (cV (mV 0) (cV (mC (D.int 0)) cW))) (cV (c3 (cV (mV 0) (cV (mC (D.int 0)) (cV (mC (D.int 0)) (cV (mC (D.int 0)) cW))))) (cV (c3 (cV (mV 0) (cV (m1 (b1 mx) (mC (D.int 1))) (cV (mC (D.int 0)) cW)))) (cV (c3 (cV (mV 0) (cV (mC (D.bl M)) (cV (mC (D.int 0)) cW)))) (cV (c3 (cV (mV 0) (cV (mC D.non) (cV (mC (D.int 0)) cW)))) cW))))))) (gN 5))
  (c7 (de (m2 (b2 dS) (mV 5) (d8 (cV (c3 (cV (mV 0) (cV (mC (D.str "0")) (cV (mC (D.int 0)) cW)))) (cV (c3 (cV (mV 0) (cV (mC (D.int 0)) (cV (mV 1) cW)))) (cV (c3 (cV (mV 0) (cV (mC (D.int 0)) (cV (m1 (b1 mx) (mC (D.int 1))) cW)))) (cV (c3 (cV (mV 0) (cV (mC (D.int 0)) (cV (mC D.non) cW)))) (cV (c3 (cV (mV 0) (cV (mC (D.int 0)) (cV (mC (D.bl M)) cW)))) cW))))))) (gN 5))
  (c7 (de (m2 (b2 dS) (mV 5) (d8 (cV (c3 (cV (mV 0) (cV (mC (D.int 0)) (cV (c3 (cV (mC (D.int 0)) cW)) cW)))) (cV (c3 (cV (mV 0) (cV (mC (D.bl J)) (cV (mC (D.int 0)) cW)))) cW)))) (gN 5))
  (c7 (de (d8 (cV (mV 2) (cV (c3 (cV (mV 2) cW)) (cV (c3 (cV (mV 2) (cV (mV 3) (cV (mC (D.int 0)) cW)))) (cV (c3 (cV (mN (b1 vc) (cV (mV 2) cW)) (cV (mV 3) cW))) (cV (c3 (cV (mV 2) (cV (mN (b1 vc) (cV (mV 3) cW)) cW))) (cV (mC D.non) (cV (c3 cW) cW)))))))) (gN 6))
  (c7 (de (m2 (b2 dS) (mV 6) (d8 (cV (c3 (cV (mV 2) (cV (mC D.non) cW))) (cV (c3 (cV (m2 (b2 dS) (mV 2) (c3 (cV (mV 4) cW))) (cV (mV 3) cW))) (cV (c3 (cV (kF (mV 2) (gf (mC (D.int 1))) gC) (cV (mV 3) cW))) (cV (c3 (cV (c3 cW) (cV (mV 3) cW))) (cV (mC (D.str "whole")) cW))))))) (gN 6))
  (c7 (de (m2 (b2 dS) (mV 6) (d8 (cV (c3 (cV (mV 2) (cV (m2 (b2 dS) (mV 3) (c3 (cV (mC (D.int 8)) cW))) cW))) (cV (c3 (cV (mV 2) (cV (c3 (cV (m1 (b1 mx) (mC (D.int 1))) cW)) cW))) (cV (c3 (cV (mV 2) (cV (c3 (cV (mC (D.int 0)) (cV (mC (D.int 0)) cW))) cW))) (cV (c3 (cV (mV 2) (cV (c3 (cV (mC (D.int 1)) (cV (mC (D.int 0)) cW))) cW))) cW)))))) (gN 6))
  (c7 (eM (ej (m2 (b2 dS) (mV 6) (d8 (cV (c3 (cV (mV 2) (cV (c3 (cV (mC (D.str "0")) cW)) cW))) (cV (c3 (cV (mV 2) (cV (c3 (cV (mC (D.bl M)) cW)) cW))) cW))))) (gN 7) kw)
  (c7 (de (d8 (cV (kF (mV 4) gC (gf (mC (D.int 2)))) (cV (m2 (b2 dS) (mV 4) (c3 (cV (mC (D.int 0)) cW))) (cV (mN (b1 vc) (cV (mV 4) cW)) (cV (m2 (b2 dS) (c3 (cV (mC (D.int 8)) cW)) (kF (mV 4) (gf (mC (D.int 1))) gC)) (cV (m2 (b2 dS) (c3 (cV (m1 (b1 mx) (mC (D.int 1))) cW)) (kF (mV 4) (gf (mC (D.int 1))) gC)) (cV (m2 (b2 dS) (c3 (cV (mC (D.bl M)) cW)) (kF (mV 4) (gf (mC (D.int 1))) gC)) cW))))))) (gN 8))
  (c7 (de (m2 (b2 dS) (mV 8) (d8 (cV (c3 (cV (m2 (b2 da) (mV 4) (mC (D.int 0))) (cV (mC (D.int 5)) (cV (mC (D.int 0)) cW)))) (cV (c3 (cV (m2 (b2 da) (mV 4) (mC (D.int 0))) (cV (m1 (b1 mx) (mC (D.int 1))) (cV (mC (D.int 0)) cW)))) (cV (c3 (cV (m2 (b2 da) (mV 4) (mC (D.int 0))) (cV (mC D.non) (cV (mC (D.int 0)) cW)))) (cV (c3 (cV (m2 (b2 da) (mV 4) (mC (D.int 0))) (cV (mC (D.bl J)) (cV (mC (D.int 0)) cW)))) (cV (mC D.non) (cV (c3 cW) (cV (mC (D.int 0)) cW))))))))) (gN 8))
  (c7 (de (m2 (b2 dS) (mV 8) (d8 (cV (c3 (cV (m2 (b2 da) (mV 4) (mC (D.int 0))) (cV (mC (D.int 0)) (cV (mC (D.int 4000)) cW)))) (cV (c3 (cV (m2 (b2 da) (mV 4) (mC (D.int 0))) (cV (mC (D.int 0)) (cV (m1 (b1 mx) (mC (D.int 1))) cW)))) (cV (c3 (cV (m2 (b2 da) (mV 4) (mC (D.int 0))) (cV (mC (D.int 0)) (cV (mC (D.str "0")) cW)))) (cV (c3 (cV (mC (D.str "0")) (cV (mC (D.int 0)) (cV (mC (D.int 0)) cW)))) (cV (c3 (cV (m2 (b2 da) (mV 4) (mC (D.int 0))) (cV (mC (D.int 0)) (cV (mC D.non) cW)))) cW))))))) (gN 8))
  (c7 (eM (ej (mV 8)) (gN 9) ku)
  (dD (mV 5)))))))))))))))
def dM:FN:=fG 10 iG
theorem lj {f:cH}(F:dr K "_law_odd_rows" iB f):
  d0 P w K mg base 1 "_law_odd_rows" 2 dM:=xq ["_law_first","_law_many","_law_walkers","_law_chalk","_law_walker","_law_rows","_law_wholes","_law_whole","_law_some_here","_law_one"] X G F λa=>
 (qF (qR xv (tg2 gq gq)) (qF (sq (jq xv qK)) (qF (sq (dk (qA (cX (a1 xv)) (qA (cX (a2 xv qK)) (qA (cX (qA xv (a3 qK qK qK))) (a3 (cX (a3 xv (gv iT qK) qK)) (cX (a3 xv dy qK)) (cX (a3 xv et qK)))))))) (qF (sq (qI dG xv (dk (qA (cX (a3 xv dt qK)) (qA (cX (a3 xv qK xv)) (a3 (cX (a3 xv qK (gv iT qK))) (cX (a3 xv qK et)) (cX (a3 xv qK dy)))))))) (qF (sq (qI dG xv (dk (a2 (cX (a3 xv qK (cX (a1 qK)))) (cX (a3 xv dy qK)))))) (qF (sq (dk (qA xv (qA (cX (a1 xv)) (qA (cX (a3 xv xv qK)) (qA (cX (a2 (cz rJ (a1 xv)) xv)) (a3 (cX (a2 xv (cz rJ (a1 xv)))) et (cX qN)))))))) (qF (sq (qI dG xv (dk (qA (cX (a2 xv et)) (qA (cX (a2 (qI dG xv (cX (a1 xv))) xv)) (a3 (cX (a2 (eP xv (fT qK) fU) xv)) (cX (a2 (cX qN) xv)) dt)))))) (qF (sq (qI dG xv (dk (qA (cX (a2 xv (qI dG xv (cX (a1 qK))))) (a3 (cX (a2 xv (cX (a1 (gv iT qK))))) (cX (a2 xv (cX (a2 qK qK)))) (cX (a2 xv (cX (a2 qK qK))))))))) (qF (fo (qd (qI dG xv (dk (a2 (cX (a2 xv (cX (a1 dt)))) (cX (a2 xv (cX (a1 dy)))))))) gq (qG (lq ap xv (a1 (cX (a3 xv qK qK)))))) (qF (sq (dk (qA (eP xv fU (fT qK)) (qA (qI dG xv (cX (a1 qK))) (qA (cz rJ (a1 xv)) (a3 (qI dG (cX (a1 qK)) (eP xv (fT qK) fU)) (qI dG (cX (a1 (gv iT qK))) (eP xv (fT qK) fU)) (qI dG (cX (a1 dy)) (eP xv (fT qK) fU)))))))) (qF (sq (qI dG xv (dk (qA (cX (a3 (jq xv qK) qK qK)) (qA (cX (a3 (jq xv qK) (gv iT qK) qK)) (qA (cX (a3 (jq xv qK) et qK)) (qA (cX (a3 (jq xv qK) dy qK)) (a3 et (cX qN) qK)))))))) (qF (sq (qI dG xv (dk (qA (cX (a3 (jq xv qK) qK qK)) (qA (cX (a3 (jq xv qK) qK (gv iT qK))) (a3 (cX (a3 (jq xv qK) qK dt)) (cX (a3 dt qK qK)) (cX (a3 (jq xv qK) qK et)))))))) (qF (fo (qd xv) gq (qG (lq ap xv (a1 (cX (a3 (cX (a2 (qI dG (cX (a1 xv)) (eP xv (fT qK) fU)) xv)) qK qK)))))) (qG (qU xv)))))))))))))))
abbrev np:cT:=gO 2
def ow:FS:=(dD (fY (mN (cY 1 fm) (cV (mV 0) cW)) (FX (b2 (hh λi j=>decide (i<=j))) (b2 uk) (mC (D.int 0)) (mV 0) (mV 1))))
def dV:FN:=fG 2 ow
theorem sK {f:cH}(F:dr K "is_below" np f)(a:d0 P w K mg base 1 "is_whole" 1 fm):
  d0 P w K mg base 2 "is_below" 2 dV:=xq ["thing","bound"] X G F λb=>
 (qG (qU (gk (wn a (a1 xv)) (gj (wG JI (oq iU) qK xv xv)))))
abbrev oV:cT:=gO 8
def sH:FT:=(nN (mB (m2 (b2 uk) (mV 4) (mN (b1 d4) (cV (mV 3) cW)))) (mB (m2 (b2 ul) (m2 (b2 da) (m2 (b2 da) (m2 (b2 da) (mV 3) (mV 4)) (mC (D.int 0))) (mC (D.int 0))) (mV 1))))
def sG:FS:=(c7 (ew (mB (m2 (b2 ul) (m2 (b2 da) (m2 (b2 da) (m2 (b2 da) (mV 3) (mV 4)) (mC (D.int 0))) (mC (D.int 1))) (mV 2))) (dD (m2 (b2 da) (m2 (b2 da) (mV 3) (mV 4)) (mC (D.int 1)))) iC)
  (CC 4 (b2 Ap) (mC (D.int 1))))
def xN:FS:=(c7 (de (m2 (b2 da) (mV 0) (mC (D.int 1))) (gN 3))
  (c7 (de (mN (cY 2 jS) (cV (mV 3) (cV (mV 1) cW))) (gN 4))
  (c7 (vF sH sG 100000)
  (dD (c3 (cV (mV 1) (cV (mC (D.str "leave")) (cV (mC D.non) cW))))))))
def lp:FN:=fG 5 xN
theorem uS {f:cH}(F:dr K "deed_of" oV f)(a:d0 P w K mg base 1 "first_of" 2 jS):
  d0 P w K mg base 2 "deed_of" 3 lp:=xq ["machine","mood","sight","rows","at"] X G F λb=>
 (qF (sq (jq xv qK)) (qF (sq (wn a (a2 xv xv))) (qF (k6 100000 PassesOwn.never (ge (j5 (ct (oq iU) xv (cn ev (a1 xv))) (iI (ct (oq mr) (jq (jq (jq xv xv) qK) qK) xv)))) (qF (qV (ct (oq mr) (jq (jq (jq xv xv) qK) qK) xv) (qG (qU (jq (jq xv xv) qK))) qQ) (qG (Bf 4 (gg O) O (by first|exact Or.inl rfl|exact Or.inr rfl) qK CO)))) (qG (qU (cX (a3 xv dt et)))))))
abbrev vQ:cT:=gO 13
def Di:FS:=(dD (dN 2 [0,1,2] (CS (cV (m2 (b2 da) (mV 2) (mC (D.int 0))) cW)) (gT 2 (eH (gN 0) (eH (gN 1) iq))) dI (dA (c3 (cV (m2 (b2 da) (mV 1) (mC (D.int 2))) (cV (mN (cY 4 jR) (cV (mV 2) (cV (mV 3) (cV (mV 4) (cV (mV 0) cW))))) cW))))))
def rd:FN:=fG 3 Di
theorem zr {f:cH}(F:dr K "wants" vQ f)(a:d0 P w K mg base 1 "sight_of" 4 jR):
  d0 P w K mg base 2 "wants" 3 rd:=xq ["web","eyes","whole"] X G F λb=>
 (qG (qU (fk ["k","walker"] (ie (a1 (jq xv qK))) ⟨(tg2 gq gq),dj,(cX (a2 (jq xv qK) (wn a (qA xv (a3 xv xv xv)))))⟩)))
abbrev vR:cT:=gO 14
def Dj:FS:=(c7 (de (mV 1) (gT 2 (eH (gN 3) (eH (gN 4) iq))))
  (c7 (de (dN 2 [0] (H9 (cV (mV 3) (cV (mV 2) cW))) (gT 2 (eH (gN 0) (eH (gN 1) iq))) dI (dA (mN (cY 3 lm) (cV (mV 2) (cV (mV 0) (cV (mV 1) cW)))))) (gN 5))
  (dD (c3 (cV (mN (b1 gTup) (cV (mV 5) cW)) (cV (mN (cY 2 ln) (cV (mV 1) (cV (mV 2) cW))) cW))))))
def re:FN:=fG 6 Dj
theorem zu {f:cH}(F:dr K "moved" vR f)(a:d0 P w K mg base 1 "handled" 2 ln)(b:d0 P w K mg base 1 "stepped" 3 lm):
  d0 P w K mg base 2 "moved" 3 re:=xq ["web","whole","deeds","walkers","chalk","behind"] X G F λc=>
 (qF (qR xv (tg2 gq gq)) (qF (hE 5 O (T:=["walker","deed"]) (keep:=[0]) ⟨O,by decide+kernel,(kc "web" (ci _))⟩ O (pU O (bz B) (a2 xv xv)) (λ_ _ _=>⟨(tg2 gq gq),dj,(wn b (a3 xv xv xv))⟩) (gg O) O (by first|exact Or.inl rfl|exact Or.inr rfl)) (qG (qU (cX (a2 (cz fR (a1 xv)) (wn a (a2 xv xv))))))))
abbrev jA:cT:=gO 27
def oM:FS:=(dD (dN 2 [0] (DL (cV (mC (D.int 1)) (cV (m2 (b2 dS) (mV 0) (mC (D.int 1))) cW))) (gN 0) dI (tF (ej (mN (cY 2 im) (cV (mV 2) (cV (mV 0) cW)))) (gN 1) dI (dA (mV 1)))))
def g8:FN:=fG 1 oM
theorem nJ {f:cH}(F:dr K "all_choices" jA f)(a:d0 P w K mg base 1 "some_rooms" 2 im):
  d0 P w K mg base 2 "all_choices" 1 g8:=xq ["many"] X G F λb=>
 (qG (qU (wK O (T:=["size","choice"]) (keep:=[0]) ⟨O,by decide+kernel,(kc "many" (ci _))⟩ O (jL O (bz B) (a2 qK (qI dG xv qK))) (λ_ _ _=>⟨gq,dj,(qd (wn a (a2 xv xv))),gq,dj,xv⟩))))
abbrev oW:cT:=gO 40
def pO:FS:=(dD (m2 (b2 da) (mV 1) (mN (cY 2 c6) (cV (mV 0) (cV (mN (b1 d4) (cV (mV 1) cW)) cW)))))
def fM:FN:=fG 2 pO
theorem uT {f:cH}(F:dr K "_law_of" oW f)(a:d0 P w K mg base 1 "_law_draw" 2 c6):
  d0 P w K mg base 2 "_law_of" 2 fM:=xq ["_law_box_here","_law_some_here"] X G F λb=>
 (qG (qU (jq xv (wn a (a2 xv (cn ev (a1 xv)))))))
abbrev iA:cT:=gO 41
def gR:FT:=(mB (m2 (b2 Gb) (mV 2) (d8 cW)))
def gQ:FS:=(fw (u4 (b2 kQ) (mV 3) (cV (u4 (b2 An) (mV 2) (cV (mN (cY 2 c6) (cV (mV 0) (cV (mN (b1 d4) (cV (mV 2) cW)) cW))) cW)) cW)))
def iF:FS:=(c7 (de (c3 (cV (mN (b1 vc) (cV (mV 1) cW)) (cV (d8 cW) cW))) (gT 2 (eH (gN 2) (eH (gN 3) iq))))
  (c7 (vF gR gQ 100000)
  (dD (mV 3))))
def dL:FN:=fG 4 iF
theorem li {f:cH}(F:dr K "_law_shuffled" iA f)(a:d0 P w K mg base 1 "_law_draw" 2 c6):
  d0 P w K mg base 2 "_law_shuffled" 2 dL:=xq ["_law_box_here","_law_some_here","_law_left","_law_found"] X G F λb=>
 (qF (j6 2 3 O (gg O) O O (by decide) O O (a2 (cz rJ (a1 xv)) (dk qN))) (qF (k6 100000 PassesOwn.never (ct (oq HE) xv (dk qN)) (qG (lq ap xv (a1 (qe PySem.F.slot_list_pop PySem.F.type_list_pop GY xv (a1 (wn a (a2 xv (cn ev (a1 xv)))))))))) (qG (qU xv))))
abbrev gP:cT:=gO 49
def gX:FS:=(c7 (de (d8 (cV (mC D.non) (cV (mC (D.bl true)) (cV (mC (D.bl false)) (cV (mC (D.int 0)) (cV (mC (D.int 1)) (cV (m1 (b1 mx) (mC (D.int 1))) (cV (m2 (b2 oI) (mC (D.int 10)) (mC (D.int 40))) (cV (mC (D.str "")) (cV (mC (D.str "sure")) (cV (d8 cW) (cV pj (cV (d8 (cV (c3 cW) cW)) (cV (zU [((mC (D.str "a")),(mC (D.int 1)))]) (cV (mC (D.str "()")) cW))))))))))))))) (gN 0))
  (dD (m2 (b2 dS) (mV 0) (d8 (cV (mN (cY 2 eg) (cV (mC (D.int 39)) (cV (mC (D.bl J)) cW))) (cV (mN (cY 2 eg) (cV (mC (D.int 39)) (cV (mC (D.bl M)) cW))) (cV (c3 (cV (mC D.non) cW)) (cV (c3 (cV (mC (D.bl M)) cW)) (cV (c3 (cV (c3 cW) cW)) (cV (c3 (cV (d8 cW) cW)) (cV (c3 (cV pj cW)) (cV (c3 (cV (mC (D.str "a")) cW)) (cV (c3 (cV (mC (D.int 0)) (cV (mC (D.int 1)) cW))) cW)))))))))))))
def dP:FN:=fG 1 gX
theorem jO {f:cH}(F:dr K "_law_odd_things" gP f)(b:d0 P w K mg base 1 "_law_deep" 2 eg):
  d0 P w K mg base 2 "_law_odd_things" 0 dP:=xo (N:=["_law_found"]) (ps:=[]) X G F sk (λ_ _ _ _ _ _ d c=>Kz c O) λ_ _ _ _ _ _ _ a=>
 (qF (sn 0 (gg O) (dk (qA et (qA dy (qA dy (qA qK (qA qK (qA (gv iT qK) (qA (qI v3 qK qK) (qA dt (qA dt (qA (dk qN) (qA mY (qA (dk (qA (cX qN) qN)) (qA (r6 (iJ dt qK vC)) (qA dt qN))))))))))))))))
  (qG (qU (qI dG (Kk 0) (dk (qA (wo b a (qA qK (qA dy qN))) (qA (wo b a (qA qK (qA dy qN))) (qA (cX (qA et qN)) (qA (cX (qA dy qN)) (qA (cX (qA (cX qN) qN)) (qA (cX (qA (dk qN) qN)) (qA (cX (qA mY qN)) (qA (cX (qA dt qN)) (qA (cX (qA qK (qA qK qN))) qN))))))))))))))
abbrev gy:cT:=gO 51
def gG:FS:=(c7 (de (d8 (cV (c3 cW) (cV (c3 (cV (mV 0) cW)) (cV (c3 (cV (m1 (b1 mx) (mC (D.int 1))) cW)) (cV (c3 (cV (mC (D.int 0)) (cV (mC (D.int 0)) cW))) (cV (c3 (cV (mC (D.int 1)) (cV (mC (D.int 0)) cW))) (cV (d8 (cV (mC (D.int 0)) cW)) (cV (c3 (cV (mC (D.str "0")) cW)) (cV (c3 (cV (mC D.non) cW)) (cV (c3 (cV (mC (D.bl true)) cW)) (cV (c3 (cV (mC (D.bl false)) cW)) (cV (mC (D.int 0)) (cV (mC D.non) (cV (mC (D.str "0")) (cV (c3 (cV (c3 (cV (mC (D.int 0)) cW)) cW)) cW))))))))))))))) (gN 1))
  (dD (m2 (b2 dS) (mV 1) (d8 (cV (c3 (cV (mC (D.int 0)) (cV (mC (D.int 1)) (cV (mC (D.int 1)) cW)))) (cV (c3 (cV (mC (D.int 0)) (cV (mV 0) cW))) (cV (mN (cY 2 eg) (cV (mC (D.int 20)) (cV (mC (D.bl J)) cW))) cW)))))))
def em:FN:=fG 2 gG
theorem jt {f:cH}(F:dr K "_law_odd_choices" gy f)(a:d0 P w K mg base 1 "_law_deep" 2 eg):
  d0 P w K mg base 2 "_law_odd_choices" 1 em:=xq ["_law_many","_law_found"] X G F λb=>
 (qF (sq (dk (qA (cX qN) (qA (cX (a1 xv)) (qA (cX (a1 (gv iT qK))) (qA (cX (a2 qK qK)) (qA (cX (a2 qK qK)) (qA (dk (a1 qK)) (qA (cX (a1 dt)) (qA (cX (a1 et)) (qA (cX (a1 dy)) (qA (cX (a1 dy)) (qA qK (a3 et dt (cX (a1 (cX (a1 qK)))))))))))))))))) (qG (qU (qI dG xv (dk (a3 (cX (a3 qK qK qK)) (cX (a2 qK xv)) (wn a (a2 qK dy))))))))
abbrev lP:cT:=gO 19
def mf:FS:=(c7 (ew (ms (fE (jT (iY .tuple (mV 1)))) (fE (jT (mN (b1 jW) (cV (dN 1 [0] (ej (mV 1)) (gN 0) dI (dA (mN (cY 2 dV) (cV (mV 0) (cV (mN (b1 d4) (cV (mV 1) cW)) cW))))) cW))))) (dD (mC (D.bl false))) iC)
  (dD (mN (cY 1 eU) (cV (mV 1) cW))))
def fW:FN:=fG 2 mf
theorem qL {f:cH}(F:dr K "are_rooms" lP f)(a:d0 P w K mg base 2 "is_below" 2 dV)(b:d0 P w K mg base 1 "is_rising" 1 eU):
  d0 P w K mg base 3 "are_rooms" 2 fW:=xq ["web","thing"] X G F λc=>
 (qF (qV (ge (f0 (eD (ea (ii xv))) (fz (eD (ea (cn (kY O) (a1 (fk ["room"] (qd xv) ⟨gq,dj,(wn a (a2 xv (cn ev (a1 xv))))⟩)))))))) (qG (qU dy)) qQ) (qG (qU (wn b (a1 xv)))))
abbrev nr:cT:=gO 23
def vo:FS:=(dD (dN 2 [1] (ej (mN (cY 3 rd) (cV (mV 0) (cV (m2 (b2 da) (mV 1) (mC (D.int 0))) (cV (mV 2) cW))))) (gT 2 (eH (gN 0) (eH (gN 1) iq))) dI (dA (mN (cY 3 lp) (cV (mV 2) (cV (mV 0) (cV (mV 1) cW)))))))
def gD:FN:=fG 3 vo
theorem sM {f:cH}(F:dr K "deeds_of" nr f)(a:d0 P w K mg base 2 "deed_of" 3 lp)(b:d0 P w K mg base 2 "wants" 3 rd):
  d0 P w K mg base 3 "deeds_of" 3 gD:=xq ["web","machine","whole"] X G F λc=>
 (qG (qU (fk ["mood","sight"] (qd (wn b (a3 xv (jq xv qK) xv))) ⟨(tg2 gq gq),dj,(wn a (a3 xv xv xv))⟩)))
abbrev kh:cT:=gO 24
def nE:FS:=(fw (u4 (b2 kQ) (mV 4) (cV (zT (mB (m2 (b2 my) (mV 5) (mV 3))) (m2 (b2 da) (mV 2) (mV 5)) (c3 (cV (mV 8) (cV (mC (D.str "leave")) (cV (mC D.non) cW))))) cW)))
def rL:FS:=(c7 (de (d8 cW) (gN 4))
  (c7 (eM (CS (cV (m2 (b2 da) (mV 1) (mC (D.int 0))) cW)) (gT 2 (eH (gN 5) (eH (gT 3 (eH (gN 6) (eH (gN 7) (eH (gN 8) iq)))) iq))) nE)
  (dD (mN (cY 3 re) (cV (mV 0) (cV (mV 1) (cV (mV 4) cW)))))))
def fD:FN:=fG 9 rL
theorem oF {f:cH}(F:dr K "moved_some" kh f)(a:d0 P w K mg base 2 "moved" 3 re):
  d0 P w K mg base 3 "moved_some" 4 fD:=xq ["web","whole","all_deeds","choice","done","k","room","came","mood"] X G F λb=>
 (qF (sq (dk qN)) (qF (fo (ie (a1 (jq xv qK))) (tg2 gq (gi O (dm gq (dm gq (dm gq fA))))) (qG (lq ap xv (a1 (iL (ct (oq nL) xv xv (by with_unfolding_all rfl)) (jq xv xv) (cX (a3 xv dt et))))))) (qG (qU (wn a (a3 xv xv xv))))))
abbrev lJ:cT:=gO 32
def l9:FS:=(c7 (ew (ms (fE (jT (mN (cY 2 dY) (cV (mV 1) (cV (mC (D.int 3)) cW))))) (fE (jT (mN (cY 2 dV) (cV (m2 (b2 da) (mV 1) (mC (D.int 0))) (cV (mN (b1 d4) (cV (mV 0) cW)) cW)))))) (dD (mC (D.bl false))) iC)
  (c7 (de (mV 1) (gT 3 (eH (gN 2) (eH (gN 3) (eH (gN 4) iq)))))
  (dD (fY (mN (cY 2 dV) (cV (mV 3) (cV (m2 (b2 dS) (mN (b1 d4) (cV (m2 (b2 da) (mV 0) (mV 2)) cW)) (mC (D.int 1))) cW))) (mN (cY 2 dV) (cV (mV 4) (cV (mC rD) cW)))))))
def ft:FN:=fG 5 l9
theorem qx {f:cH}(F:dr K "is_walker" lJ f)(c:CGl K mg "MOODS" rD)(b:d0 P w K mg base 2 "is_below" 2 dV)(a:d0 P w K mg base 1 "is_tuple_of" 2 dY):
  d0 P w K mg base 3 "is_walker" 2 ft:=xq ["web","thing","room","came","mood"] X G F λd=>
 (qF (qV (ge (f0 (eD (ea (wn a (a2 xv qK)))) (fz (eD (ea (wn b (a2 (jq xv qK) (cn ev (a1 xv))))))))) (qG (qU dy)) qQ) (qF (qR xv (gi O (dm gq (dm gq (dm gq fA))))) (qG (qU (gk (wn b (a2 xv (qI dG (cn ev (a1 (jq xv xv))) qK))) (gj (wn b (a2 xv (rZ c O)))))))))
abbrev lN:cT:=gO 36
def me:FS:=(c7 (ew (ms (fE (jT (iY .tuple (mV 1)))) (mB (m2 (b2 ul) (mN (b1 d4) (cV (mV 1) cW)) (mC (D.int 0))))) (dD (mC (D.bl false))) iC)
  (dD (fY (mN (b1 jW) (cV (dN 1 [0] (ej (mV 1)) (gN 0) dI (dA (mN (cY 2 dV) (cV (mV 0) (cV (mV 1) cW))))) cW)) (mN (cY 1 eU) (cV (mV 1) cW)))))
def fu:FN:=fG 2 me
theorem qB {f:cH}(F:dr K "is_choice" lN f)(a:d0 P w K mg base 2 "is_below" 2 dV)(b:d0 P w K mg base 1 "is_rising" 1 eU):
  d0 P w K mg base 3 "is_choice" 2 fu:=xq ["many","thing"] X G F λc=>
 (qF (qV (ge (f0 (eD (ea (ii xv))) (fz (ct (oq mr) (cn ev (a1 xv)) qK)))) (qG (qU dy)) qQ) (qG (qU (gk (cn (kY O) (a1 (fk ["walker"] (qd xv) ⟨gq,dj,(wn a (a2 xv xv))⟩))) (gj (wn b (a1 xv)))))))
abbrev nt:cT:=gO 43
def gm:FS:=(fw (mN (cY 3 fv) (cV (mV 3) (cV (mN (cY 2 fM) (cV (mV 0) (cV (dN 1 [3] (uj (cV (mV 4) cW)) (gN 0) (mB (m2 (b2 uk) (mN (b1 d4) (cV (m2 (b2 da) (mV 1) (mV 0)) cW)) (mC (D.int 4)))) (dA (mV 0))) cW))) (cV (mV 4) cW)))))
def gl:FS:=(c7 (de (c3 (cV (mN (cY 2 c6) (cV (mV 0) (cV (mV 2) cW))) (cV (mN (cY 2 c6) (cV (mV 0) (cV (mV 2) cW))) cW))) (gT 2 (eH (gN 6) (eH (gN 7) iq))))
  (ew (nN (mB (m2 (b2 uk) (m2 (b2 dS) (mN (b1 d4) (cV (m2 (b2 da) (mV 3) (mV 6)) cW)) (mN (b1 tD) (cV (m2 (b2 ul) (mV 6) (mV 7)) cW))) (mC (D.int 4)))) (mB (m2 (b2 uk) (mN (b1 d4) (cV (m2 (b2 da) (mV 3) (mV 7)) cW)) (mC (D.int 4))))) (fw (mN (cY 3 fv) (cV (mV 3) (cV (mV 6) (cV (mV 7) cW))))) iC))
def kq:FS:=(de (c3 (cV (mV 4) (cV (mV 11) cW))) (gS (b3 i4) (mV 9) (mV 12)))
def ij:FS:=(eM (CS (cV (mV 10) cW)) (gT 2 (eH (gN 11) (eH (gN 12) iq))) kq)
def ox:FS:=(c7 (de (m2 (b2 dS) (mC (D.int 1)) (mN (cY 2 c6) (cV (mV 0) (cV (mV 1) cW)))) (gN 2))
  (c7 (de (dN 1 [] (uj (cV (mV 2) cW)) (gN 0) dI (dA (d8 cW))) (gN 3))
  (c7 (eM (DL (cV (mC (D.int 1)) (cV (mV 2) cW))) (gN 4) gm)
  (c7 (eM (uj (cV (mN (cY 2 c6) (cV (mV 0) (cV (mC (D.int 4)) cW))) cW)) (gN 5) gl)
  (c7 (de (dN 1 [0] (ej (mV 3)) (gN 0) dI (dA (mN (cY 2 dL) (cV (mV 1) (cV (mV 0) cW))))) (gN 8))
  (c7 (de pj (gN 9))
  (c7 (eM (CS (cV (mV 8) cW)) (gT 2 (eH (gN 4) (eH (gN 10) iq))) ij)
  (dD (mN (b1 gTup) (cV (dN 1 [9] (ej (mV 8)) (gN 0) dI (dA (mN (b1 gTup) (cV (dN 2 [1] (ej (mV 0)) (gT 2 (eH (gN 0) (eH (gN 1) iq))) dI (dA (m2 (b2 da) (mV 2) (c3 (cV (mV 0) (cV (m2 (b2 gSub) (mC (D.int 1)) (mV 1)) cW)))))) cW)))) cW))))))))))
def gE:FN:=fG 13 ox
theorem sN {f:cH}(F:dr K "_law_web" nt f)(b:d0 P w K mg base 1 "_law_draw" 2 c6)(a:d0 P w K mg base 1 "_law_join" 3 fv)(c:d0 P w K mg base 2 "_law_of" 2 fM)(d:d0 P w K mg base 2 "_law_shuffled" 2 dL):
  d0 P w K mg base 3 "_law_web" 2 gE:=xq ["_law_box_here","_law_most","_law_many","_law_ends","_law_room","_law_turn","_law_one","_law_other","_law_rows","_law_places","_law_row","_law_door","_law_end"] X G F λe=>
 (qF (sq (qI dG qK (wn b (a2 xv xv)))) (qF (sq (fk ["_law_room"] (ir (a1 xv)) ⟨gq,dj,(dk qN)⟩)) (qF (fo (jL O (bz B) (a2 qK xv)) gq (qG (mX (wn a (a3 xv (wn c (a2 xv (fk ["_law_one"] (ir (a1 xv)) ⟨gq,(iK (ct (oq iU) (cn ev (a1 (jq xv xv))) qK)),xv⟩))) xv))))) (qF (fo (ir (a1 (wn b (a2 xv qK)))) gq (qF (j6 6 7 O (gg O) O O (by decide) O O (a2 (wn b (a2 xv xv)) (wn b (a2 xv xv)))) (qG (qV (ge (j5 (ct (oq iU) (qI dG (cn ev (a1 (jq xv xv))) (cz AR (a1 (ce (oq mr) xv xv)))) qK) (iI (ct (oq iU) (cn ev (a1 (jq xv xv))) qK)))) (qG (mX (wn a (a3 xv xv xv)))) qQ)))) (qF (hE 8 O (T:=["_law_row"]) (keep:=[0]) ⟨O,by decide+kernel,(kc "_law_box_here" (ci _))⟩ O (qd xv) (λ_ _ _=>⟨gq,dj,(wn d (a2 xv xv))⟩) (gg O) O (by first|exact Or.inl rfl|exact Or.inr rfl)) (qF (sq mY) (qF (fo (ie (a1 xv)) (tg2 gq gq) (qG (fo (ie (a1 xv)) (tg2 gq gq) (qG (qR (cX (a2 xv xv)) (mH xv xv (qi e.units))))))) (qG (qU (cz fR (a1 (fk ["_law_row"] (qd xv) ⟨gq,dj,(cz fR (a1 (fk ["_law_number","_law_side"] (qd xv) ⟨(tg2 gq gq),dj,(jq xv (cX (a2 xv (qI zx qK xv))))⟩)))⟩))))))))))))
abbrev iR:cT:=gO 45
def fK:FS:=(c7 (de (m2 (b2 da) (d8 (cV (mC (D.str "leave")) (cV (mC (D.str "leave")) (cV (mC (D.str "mark")) (cV (mC (D.str "wipe")) cW))))) (m2 (b2 i5) (mN (cY 2 c6) (cV (mV 0) (cV (mC (D.int 4)) cW))) (mN (b1 tD) (cV (mV 1) cW)))) (gN 7))
  (c7 (de (c3 (cV (mN (cY 2 c6) (cV (mV 0) (cV (mV 3) cW))) (cV (mV 7) (cV (m2 (b2 da) (d8 (cV (mC D.non) (cV (mC (D.int 0)) (cV (mC (D.int 1)) (cV (mC (D.int 0)) (cV (mC (D.int 2)) (cV (mC (D.int 1)) (cV (mC (D.int 3)) (cV (mC (D.int 0)) cW))))))))) (mN (cY 2 c6) (cV (mV 0) (cV (mC (D.int 8)) cW)))) cW)))) (gN 8))
  (ew (mB (m2 (b2 (hh λi j=>decide (j<i))) (mN (cY 2 c6) (cV (mV 0) (cV (mC (D.int 12)) cW))) (mC (D.int 0)))) (fw (u4 (b2 kQ) (mV 4) (cV (c3 (cV (c3 (cV (mV 5) (cV (mV 6) cW))) (cV (mV 8) cW))) cW))) iC)))
def fJ:FS:=(eM (ej (mN (cY 1 fe) (cV (mV 2) cW))) (gN 6) fK)
def i9:FS:=(c7 (de (mN (cY 2 fM) (cV (mV 0) (cV (d8 (cV (c3 cW) (cV (c3 (cV (mC (D.str "came")) cW)) (cV (c3 (cV (mC (D.str "doors")) cW)) (cV (c3 (cV (mC (D.str "chalk")) cW)) (cV (c3 (cV (mC (D.str "others")) cW)) (cV (c3 (cV (mC (D.str "chalk")) (cV (mC (D.str "others")) cW))) (cV (c3 (cV (mC (D.str "came")) cW)) cW)))))))) cW))) (gN 2))
  (c7 (de (c3 (cV (m2 (b2 dS) (mC (D.int 1)) (mN (cY 2 c6) (cV (mV 0) (cV (mC (D.int 2)) cW)))) (cV (d8 cW) cW))) (gT 2 (eH (gN 3) (eH (gN 4) iq))))
  (c7 (eM (uj (cV (mV 3) cW)) (gN 5) fJ)
  (dD (c3 (cV (mV 2) (cV (mN (b1 gTup) (cV (mV 4) cW)) cW)))))))
def eW:FN:=fG 9 i9
theorem mq {f:cH}(F:dr K "_law_machine" iR f)(a:d0 P w K mg base 1 "_law_draw" 2 c6)(c:d0 P w K mg base 2 "_law_of" 2 fM)(b:d0 P w K mg base 1 "_law_sights" 1 fe):
  d0 P w K mg base 3 "_law_machine" 2 eW:=xq ["_law_box_here","_law_loud","_law_eyes","_law_moods","_law_rows","_law_mood","_law_sight","_law_hand","_law_deed"] X G F λd=>
 (qF (sq (wn c (a2 xv (dk (qA (cX qN) (qA (cX (a1 dt)) (qA (cX (a1 dt)) (qA (cX (a1 dt)) (a3 (cX (a1 dt)) (cX (a2 dt dt)) (cX (a1 dt))))))))))) (qF (j6 3 4 O (gg O) O O (by decide) O O (a2 (qI dG qK (wn a (a2 xv qK))) (dk qN))) (qF (fo (ir (a1 xv)) gq (qG (fo (qd (wn b (a1 xv))) gq (qF (sq (jq (dk (qA dt (a3 dt dt dt))) (qI jC (wn a (a2 xv qK)) (cz AR (a1 xv))))) (qF (sq (cX (a3 (wn a (a2 xv xv)) xv (jq (dk (qA et (qA qK (qA qK (qA qK (qA qK (a3 qK qK qK))))))) (wn a (a2 xv qK)))))) (qG (qV (ct Cf (wn a (a2 xv qK)) qK) (qG (lq ap xv (a1 (cX (a2 (cX (a2 xv xv)) xv))))) qQ))))))) (qG (qU (cX (a2 xv (cz fR (a1 xv)))))))))
abbrev lQ:cT:=gO 46
def mh:FS:=(c7 (de (kF (mN (cY 2 dL) (cV (mV 0) (cV (u5 (cV (mV 1) cW)) cW))) gC (gf (m2 (b2 dS) (mV 2) (mN (cY 2 c6) (cV (mV 0) (cV (m2 (b2 dS) (m2 (b2 gSub) (mV 1) (mV 2)) (mC (D.int 1))) cW)))))) (gN 3))
  (dD (mN (b1 gTup) (cV (mN (b1 jl) (cV (mV 3) cW)) cW))))
def fX:FN:=fG 4 mh
theorem qM {f:cH}(F:dr K "_law_some" lQ f)(b:d0 P w K mg base 1 "_law_draw" 2 c6)(a:d0 P w K mg base 2 "_law_shuffled" 2 dL):
  d0 P w K mg base 3 "_law_some" 3 fX:=xq ["_law_box_here","_law_many","_law_least","_law_bits"] X G F λc=>
 (qF (sq (eP (wn a (a2 xv (jM O O (bz B) O (bz B) (a1 xv)))) fU (fT (qI dG xv (wn b (a2 xv (qI dG (qI zx xv xv) qK))))))) (qG (qU (cz fR (a1 (cn tW (a1 xv)))))))
abbrev lI:cT:=gO 22
def tY:FS:=(dD (mN (cY 4 fD) (cV (mV 0) (cV (mV 2) (cV (mN (cY 3 gD) (cV (mV 0) (cV (mV 1) (cV (mV 2) cW)))) (cV (mV 3) cW))))))
def iW:FN:=fG 4 tY
theorem qw {f:cH}(F:dr K "slow_beat" lI f)(a:d0 P w K mg base 3 "deeds_of" 3 gD)(b:d0 P w K mg base 3 "moved_some" 4 fD):
  d0 P w K mg base 4 "slow_beat" 4 iW:=xq ["web","machine","whole","choice"] X G F λc=>
 (qG (qU (wn b (qA xv (a3 xv (wn a (a3 xv xv xv)) xv)))))
abbrev vS:cT:=gO 26
def Dk:FS:=(c7 (de (mN (cY 3 gD) (cV (mV 0) (cV (mV 1) (cV (mV 2) cW)))) (gN 3))
  (dD (dN 1 [0,2,3] (ej (mN (cY 1 g8) (cV (mN (b1 d4) (cV (m2 (b2 da) (mV 2) (mC (D.int 0))) cW)) cW))) (gN 0) dI (dA (c3 (cV (mV 0) (cV (mN (cY 4 fD) (cV (mV 1) (cV (mV 2) (cV (mV 3) (cV (mV 0) cW))))) cW)))))))
def rf:FN:=fG 4 Dk
theorem zv {f:cH}(F:dr K "leads" vS f)(a:d0 P w K mg base 2 "all_choices" 1 g8)(b:d0 P w K mg base 3 "deeds_of" 3 gD)(c:d0 P w K mg base 3 "moved_some" 4 fD):
  d0 P w K mg base 4 "leads" 3 rf:=xq ["web","machine","whole","all_deeds"] X G F λd=>
 (qF (sq (wn b (a3 xv xv xv))) (qG (qU (fk ["choice"] (qd (wn a (a1 (cn ev (a1 (jq xv qK)))))) ⟨gq,dj,(cX (a2 xv (wn c (qA xv (a3 xv xv xv)))))⟩))))
abbrev jx:cT:=gO 31
def jG:FS:=(c7 (ew (ms (fE (jT (mN (cY 2 dY) (cV (mV 2) (cV (mC (D.int 2)) cW))))) (fE (jT (mN (cY 2 dY) (cV (m2 (b2 da) (mV 2) (mC (D.int 0))) (cV (mV 1) cW)))))) (dD (mC (D.bl false))) iC)
  (dD (fY (mN (b1 jW) (cV (dN 1 [0] (ej (m2 (b2 da) (mV 2) (mC (D.int 0)))) (gN 0) dI (dA (mN (cY 2 ft) (cV (mV 1) (cV (mV 0) cW))))) cW)) (mN (cY 2 fW) (cV (mV 0) (cV (m2 (b2 da) (mV 2) (mC (D.int 1))) cW))))))
def fc:FN:=fG 3 jG
theorem nG {f:cH}(F:dr K "is_whole_of" jx f)(c:d0 P w K mg base 3 "are_rooms" 2 fW)(a:d0 P w K mg base 1 "is_tuple_of" 2 dY)(b:d0 P w K mg base 3 "is_walker" 2 ft):
  d0 P w K mg base 4 "is_whole_of" 3 fc:=xq ["web","many","thing"] X G F λd=>
 (qF (qV (ge (f0 (eD (ea (wn a (a2 xv qK)))) (fz (eD (ea (wn a (a2 (jq xv qK) xv))))))) (qG (qU dy)) qQ) (qG (qU (gk (cn (kY O) (a1 (fk ["walker"] (qd (jq xv qK)) ⟨gq,dj,(wn b (a2 xv xv))⟩))) (gj (wn c (a2 xv (jq xv qK))))))))
abbrev jz:cT:=gO 35
def jI:FS:=(dD (fY (iY .tuple (mV 1)) (mN (b1 jW) (cV (dN 1 [0] (ej (mV 1)) (gN 0) dI (dA (mN (cY 2 fu) (cV (mV 1) (cV (mV 0) cW))))) cW))))
def eO:FN:=fG 2 jI
theorem nI {f:cH}(F:dr K "are_choices" jz f)(a:d0 P w K mg base 3 "is_choice" 2 fu):
  d0 P w K mg base 4 "are_choices" 2 eO:=xq ["many","thing"] X G F λb=>
 (qG (qU (gk (ii xv) (gj (cn (kY O) (a1 (fk ["choice"] (qd xv) ⟨gq,dj,(wn a (a2 xv xv))⟩)))))))
abbrev iz:cT:=gO 47
def iE:FS:=(c7 (de (mN (b1 gTup) (cV (mN (b1 jl) (cV (kF (mN (cY 2 dL) (cV (mV 0) (cV (u5 (cV (mN (b1 d4) (cV (mV 1) cW)) cW)) cW))) gC (gf (m2 (b2 dS) (mC (D.int 1)) (mN (cY 2 c6) (cV (mV 0) (cV (mV 2) cW)))))) cW)) cW)) (gN 3))
  (dD (c3 (cV (mV 3) (cV (zT (mB (m2 (b2 ul) (mN (cY 2 c6) (cV (mV 0) (cV (mC (D.int 2)) cW))) (mC (D.int 0)))) (mN (cY 3 fX) (cV (mV 0) (cV (mN (b1 d4) (cV (mV 1) cW)) (cV (mC (D.int 0)) cW)))) (c3 cW)) cW)))))
def eL:FN:=fG 4 iE
theorem lh {f:cH}(F:dr K "_law_standing" iz f)(c:d0 P w K mg base 1 "_law_draw" 2 c6)(b:d0 P w K mg base 2 "_law_shuffled" 2 dL)(a:d0 P w K mg base 3 "_law_some" 3 fX):
  d0 P w K mg base 4 "_law_standing" 3 eL:=xq ["_law_box_here","_law_web_here","_law_most","_law_rooms"] X G F λd=>
 (qF (sq (cz fR (a1 (cn tW (a1 (eP (wn b (a2 xv (jM O O (bz B) O (bz B) (a1 (cn ev (a1 xv)))))) fU (fT (qI dG qK (wn c (a2 xv xv)))))))))) (qG (qU (cX (a2 xv (iL (ct (oq mr) (wn c (a2 xv qK)) qK) (wn a (a3 xv (cn ev (a1 xv)) qK)) (cX qN)))))))
abbrev lH:cT:=gO 25
def oA:FS:=(fw (u4 (b2 kQ) (mV 4) (cV (mN (cY 4 iW) (cV (mV 0) (cV (mV 1) (cV (m2 (b2 da) (mV 4) (m1 (b1 mx) (mC (D.int 1)))) (cV (mV 5) cW))))) cW)))
def tX:FS:=(c7 (de (d8 (cV (mV 2) cW)) (gN 4))
  (c7 (eM (ej (mV 3)) (gN 5) oA)
  (dD (mV 4))))
def iV:FN:=fG 6 tX
theorem qv {f:cH}(F:dr K "walked_on" lH f)(a:d0 P w K mg base 4 "slow_beat" 4 iW):
  d0 P w K mg base 5 "walked_on" 4 iV:=xq ["web","machine","whole","choices","wholes","choice"] X G F λb=>
 (qF (sq (dk (a1 xv))) (qF (fo (qd xv) gq (qG (lq ap xv (a1 (wn a (qA xv (a3 xv (jq xv (gv iT qK)) xv))))))) (qG (qU xv))))
abbrev lM:cT:=gO 30
def md:FS:=(c7 (ew (fE (jT (mN (cY 2 dY) (cV (mV 2) (cV (mC (D.int 3)) cW))))) (dD (mC (D.bl false))) iC)
  (c7 (de (mV 2) (gT 3 (eH (gN 3) (eH (gN 4) (eH (gN 5) iq)))))
  (c7 (ew (ms (fE (jT (mN (cY 1 fm) (cV (mV 4) cW)))) (ms (mB (m2 (b2 uk) (mV 4) (mC (D.int 0)))) (fE (jT (mN (cY 2 dV) (cV (mV 5) (cV (mV 1) cW))))))) (dD (mC (D.bl J))) iC)
  (dD (fY (mN (cY 3 fc) (cV (mV 0) (cV (mV 1) (cV (mV 3) cW)))) (lZ (mN (cY 1 eG) (cV (mV 3) cW))))))))
def eV:FN:=fG 6 md
theorem qz {f:cH}(F:dr K "is_ranked" lM f)(d:d0 P w K mg base 2 "is_below" 2 dV)(a:d0 P w K mg base 1 "is_met" 1 eG)(c:d0 P w K mg base 1 "is_tuple_of" 2 dY)(e:d0 P w K mg base 1 "is_whole" 1 fm)(b:d0 P w K mg base 4 "is_whole_of" 3 fc):
  d0 P w K mg base 5 "is_ranked" 3 eV:=xq ["web","many","thing","whole","rank","helper"] X G F λg=>
 (qF (qV (eD (ea (wn c (a2 xv qK)))) (qG (qU dy)) qQ) (qF (qR xv (gi O (dm gq (dm gq (dm gq fA))))) (qF (qV (ge (f0 (eD (ea (wn e (a1 xv)))) (f0 (ct (oq iU) xv qK) (fz (eD (ea (wn d (a2 xv xv)))))))) (qG (qU dy)) qQ) (qG (qU (gk (wn b (a3 xv xv xv)) (gj (pV (wn a (a1 xv))))))))))
abbrev lO:cT:=gO 33
def oB:FS:=(c7 (ew (jT (mN (cY 1 eG) (cV (mV 7) cW))) JM iC)
  (c7 (ew (mB (m2 (b2 mL) (mV 7) (mV 3))) (dD (mC (D.bl J))) iC)
  (ew (nN (mB (m2 (b2 (hh λi j=>decide (j<=i))) (m2 (b2 da) (m2 (b2 da) (mV 3) (mV 7)) (mC (D.int 0))) (mV 4))) (ms (mB (m2 (b2 my) (mV 5) (mV 6))) (mB (m2 (b2 Gb) (m2 (b2 da) (mV 3) (mV 7)) (c3 (cV (mV 4) (cV (mV 5) cW))))))) (dD (mC (D.bl J))) iC)))
def t0:FS:=(c7 (de (m2 (b2 da) (mV 3) (mV 2)) (gT 2 (eH (gN 4) (eH (gN 5) iq))))
  (c7 (eM (ej (mN (cY 3 rf) (cV (mV 0) (cV (mV 1) (cV (mV 2) cW))))) (gT 2 (eH (gN 6) (eH (gN 7) iq))) oB)
  (dD (mC (D.bl M)))))
def iX:FN:=fG 8 t0
theorem qC {f:cH}(F:dr K "goes_down" lO f)(a:d0 P w K mg base 1 "is_met" 1 eG)(b:d0 P w K mg base 4 "leads" 3 rf):
  d0 P w K mg base 5 "goes_down" 4 iX:=xq ["web","machine","whole","ranks","rank","helper","choice","behind"] X G F λc=>
 (qF (qR (jq xv xv) (tg2 gq gq)) (qF (fo (qd (wn b (a3 xv xv xv))) (tg2 gq gq) (qF (qV (ea (wn a (a1 xv))) (qG pT) qQ) (qF (qV (ct (oq sP) xv xv (by with_unfolding_all rfl)) (qG (qU dy)) qQ) (qG (qV (ge (j5 (ct Ff (jq (jq xv xv) qK) xv) (iI (ge (f0 (ct (oq nL) xv xv (by with_unfolding_all rfl)) (fz (ct (oq HE) (jq xv xv) (cX (a2 xv xv))))))))) (qG (qU dy)) qQ))))) (qG (qU dy))))
abbrev kg:cT:=gO 29
def gr:FS:=(c7 (ew (ms (fE (jT (iY .tuple (mV 3)))) (fE (jT (mN (b1 jW) (cV (dN 1 [0,2] (ej (mV 3)) (gN 0) dI (dA (mN (cY 3 eV) (cV (mV 1) (cV (mN (b1 d4) (cV (m2 (b2 da) (mV 2) (mC (D.int 0))) cW)) (cV (mV 0) cW)))))) cW))))) (dD (mC (D.bl false))) iC)
  (c7 (de (n4 3 [] (ej (mV 3)) (gT 3 (eH (gN 0) (eH (gN 1) (eH (gN 2) iq)))) dI (n0 (mV 0) (c3 (cV (mV 1) (cV (mV 2) cW))))) (gN 4))
  (c7 (de (mN (cY 1 io) (cV (mV 2) cW)) (gN 5))
  (c7 (ew (ms (mB (m2 (b2 uk) (mN (b1 l6) (cV (mV 4) cW)) (mN (b1 d4) (cV (mV 3) cW)))) (fE (ms (jT (mN (cY 1 eG) (cV (mV 5) cW))) (mB (m2 (b2 my) (mV 5) (mV 4)))))) (dD (mC (D.bl J))) iC)
  (dD (mN (b1 jW) (cV (rv 1 [0,1,4] (mV 4) (gN 0) dI (dA (mN (cY 4 iX) (cV (mV 1) (cV (mV 2) (cV (mV 0) (cV (mV 3) cW))))))) cW)))))))
def dU:FN:=fG 6 gr
theorem oE {f:cH}(F:dr K "shows_sure" kg f)(d:d0 P w K mg base 1 "begun" 1 io)(b:d0 P w K mg base 5 "goes_down" 4 iX)(a:d0 P w K mg base 1 "is_met" 1 eG)(c:d0 P w K mg base 5 "is_ranked" 3 eV):
  d0 P w K mg base 6 "shows_sure" 4 dU:=xq ["web","machine","standing","thing","ranks","start"] X G F λe=>
 (qF (qV (ge (f0 (eD (ea (ii xv))) (fz (eD (ea (cn (kY O) (a1 (fk ["part"] (qd xv) ⟨gq,dj,(wn c (a3 xv (cn ev (a1 (jq xv qK))) xv))⟩)))))))) (qG (qU dy)) qQ) (qF (sq (Lp ["whole","rank","helper"] e.units (qd xv) ⟨(gi O (dm gq (dm gq (dm gq fA)))),dj,xv,(cX (a2 xv xv))⟩)) (qF (sq (wn d (a1 xv))) (qF (qV (ge (f0 (ct (oq iU) (cn Go (a1 xv)) (cn ev (a1 xv))) (fz (eD (ge (f0 (ea (wn a (a1 xv))) (fz (ct (oq nL) xv xv (by with_unfolding_all rfl))))))))) (qG (qU dy)) qQ) (qG (qU (cn (kY O) (a1 (wI O (T:=["whole"]) (keep:=[0,1,4]) ⟨O,by decide+kernel,(kc "web" (kc "machine" (kc "ranks" (ci _))))⟩ O xv (λ_ _ _=>⟨gq,dj,(wn b (qA xv (a3 xv xv xv)))⟩))))))))))
abbrev jw:cT:=gO 34
def hA:FS:=(c7 (de (mN (b1 d4) (cV (m2 (b2 da) (mV 2) (mC (D.int 0))) cW)) (gN 5))
  (c7 (ew (ms (fE (jT (mN (cY 2 eO) (cV (mV 5) (cV (mV 3) cW))))) (fE (jT (mN (cY 2 eO) (cV (mV 5) (cV (mV 4) cW)))))) (dD (mC (D.bl J))) iC)
  (c7 (ew (fE (jT (mN (b1 jW) (cV (dN 1 [4] (uj (cV (mV 5) cW)) (gN 0) dI (dA (mN (b1 C1) (cV (dN 1 [0] (ej (mV 1)) (gN 0) dI (dA (m2 (b2 my) (mV 1) (mV 0)))) cW)))) cW)))) (dD (mC (D.bl J))) iC)
  (c7 (de (mN (cY 4 iV) (cV (mV 0) (cV (mV 1) (cV (mN (cY 1 io) (cV (mV 2) cW)) (cV (m2 (b2 dS) (mV 3) (mV 4)) cW))))) (gN 6))
  (dD (fY (m2 (b2 ul) (m2 (b2 da) (mV 6) (mN (b1 d4) (cV (mV 3) cW))) (m2 (b2 da) (mV 6) (m1 (b1 mx) (mC (D.int 1))))) (lZ (mN (b1 C1) (cV (dN 1 [] (ej (mV 6)) (gN 0) dI (dA (mN (cY 1 eG) (cV (mV 0) cW)))) cW)))))))))
def d6:FN:=fG 7 hA
theorem nF {f:cH}(F:dr K "shows_dodge" jw f)(a:d0 P w K mg base 4 "are_choices" 2 eO)(d:d0 P w K mg base 1 "begun" 1 io)(b:d0 P w K mg base 1 "is_met" 1 eG)(c:d0 P w K mg base 5 "walked_on" 4 iV):
  d0 P w K mg base 6 "shows_dodge" 5 d6:=xq ["web","machine","standing","way","again","many","wholes"] X G F (hb:=λ_ _ _ _ _ _ h e=>Le e λ_ _ _ _ _=>rfl) λg=>
 (qF (sq (cn ev (a1 (jq xv qK)))) (qF (qV (ge (f0 (eD (ea (wn a (a2 xv xv)))) (fz (eD (ea (wn a (a2 xv xv))))))) (qG (qU dy)) qQ) (qF (qV (eD (ea (cn (kY O) (a1 (fk ["walker"] (ir (a1 xv)) ⟨gq,dj,(cn (DS O) (a1 (fk ["choice"] (qd xv) ⟨gq,dj,(ce (oq nL) xv xv (by with_unfolding_all rfl))⟩)))⟩))))) (qG (qU dy)) qQ) (qF (sq (wn c (qA xv (a3 xv (wn d (a1 xv)) (qI dG xv xv))))) (qG (qU (gk (ce (oq mr) (jq xv (cn ev (a1 xv))) (jq xv (gv iT qK))) (gj (pV (cn (DS O) (a1 (fk ["whole"] (qd xv) ⟨gq,dj,(wn b (a1 xv))⟩))))))))))))
abbrev ss:cT:=gO 52
def qs:FS:=(ew (mB (m2 (b2 fh) (mN (cY 4 dU) (cV (mV 3) (cV (mV 4) (cV (mV 5) (cV (mV 9) cW))))) (mC (D.bl J)))) (dD (mC (D.bl J))) iC)
def qr:FS:=(ew (mB (m2 (b2 fh) (mN (cY 4 dU) (cV (mV 3) (cV (mV 4) (cV (mV 5) (cV (c3 (cV (mV 10) cW)) cW))))) (mC (D.bl J)))) (dD (mC (D.bl J))) iC)
def qq:FS:=(c7 (ew (mB (m2 (b2 fh) (mN (cY 5 d6) (cV (mV 3) (cV (mV 4) (cV (mV 5) (cV (mV 9) (cV (mV 11) cW)))))) (mC (D.bl false)))) (dD (mC (D.bl false))) iC)
  (ew (mB (m2 (b2 fh) (mN (cY 5 d6) (cV (mV 3) (cV (mV 4) (cV (mV 5) (cV (c3 cW) (cV (mV 9) cW)))))) (mC (D.bl J)))) (dD (mC (D.bl J))) iC))
def qp:FS:=(c7 (de (mN (cY 2 fq) (cV (mV 0) (cV (mV 1) cW))) (gN 2))
  (c7 (de (c3 (cV (mN (cY 2 gE) (cV (mV 2) (cV (mC (D.int 5)) cW))) (cV (mN (cY 2 eW) (cV (mV 2) (cV (mC (D.bl M)) cW))) cW))) (gT 2 (eH (gN 3) (eH (gN 4) iq))))
  (c7 (de (mN (cY 3 eL) (cV (mV 2) (cV (mV 3) (cV (mN (b2 vb) (cV (mC (D.int 3)) (cV (mN (b1 d4) (cV (mV 3) cW)) cW))) cW)))) (gN 5))
  (c7 (de (c3 (cV (c3 (cV (mN (b1 gTup) (cV (dN 1 [] (ej (m2 (b2 da) (mV 5) (mC (D.int 0)))) (gN 0) dI (dA (c3 (cV (mV 0) (cV (mC (D.int 0)) (cV (mC (D.int 0)) cW)))))) cW)) (cV (m2 (b2 da) (mV 5) (mC (D.int 1))) cW))) (cV (mN (b1 d4) (cV (m2 (b2 da) (mV 5) (mC (D.int 0))) cW)) cW))) (gT 2 (eH (gN 6) (eH (gN 7) iq))))
  (c7 (de (c3 (cV (mV 6) (cV (mC (D.int 0)) (cV (mC (D.int 0)) cW)))) (gN 8))
  (c7 (eM (ej (m2 (b2 dS) (m2 (b2 dS) (mN (cY 0 dP) cW) (dN 1 [8] (ej (mN (cY 2 dM) (cV (mV 6) (cV (mV 7) cW)))) (gN 0) dI (dA (c3 (cV (mV 1) (cV (mV 0) cW)))))) (d8 (cV (mV 8) (cV (d8 (cV (mV 8) cW)) (cV (c3 (cV (mV 8) (cV (mV 8) cW))) cW)))))) (gN 9) qs)
  (c7 (eM (ej (mN (cY 2 dM) (cV (mV 6) (cV (mV 7) cW)))) (gN 10) qr)
  (c7 (de (c3 (cV (CA (cV (mV 7) cW)) cW)) (gN 11))
  (c7 (de (m2 (b2 dS) (mN (cY 0 dP) cW) (dN 1 [] (ej (mN (cY 1 em) (cV (mV 7) cW))) (gN 0) dI (dA (c3 (cV (mV 0) cW))))) (gN 12))
  (c7 (eM (ej (m2 (b2 dS) (mV 12) (d8 (cV (m2 (b2 dS) (mV 11) (c3 (cV (mC D.non) cW))) (cV (d8 (cV (m2 (b2 da) (mV 11) (mC (D.int 0))) cW)) (cV (m2 (b2 da) (mV 11) (mC (D.int 0))) cW)))))) (gN 9) qq)
  (c7 (ew (nN (mB (m2 (b2 ul) (mV 7) (mC (D.int 1)))) (mB (m2 (b2 fh) (mN (cY 4 dU) (cV (mV 3) (cV (mV 4) (cV (mV 5) (cV (c3 cW) cW))))) (mC (D.bl M))))) (dD (mC (D.bl J))) iC)
  (c7 (ew (mB (m2 (b2 fh) (mN (cY 5 d6) (cV (mV 3) (cV (mV 4) (cV (mV 5) (cV (c3 cW) (cV (c3 cW) cW)))))) (mC (D.bl J)))) (dD (mC (D.bl J))) iC)
  (ew (nN (mB (m2 (b2 (hh λi j=>decide (j<i))) (mV 7) (mC (D.int 1)))) (mB (m2 (b2 fh) (mN (cY 4 dU) (cV (mV 3) (cV (mV 4) (cV (mV 5) (cV (c3 cW) cW))))) (mC (D.bl J))))) (dD (mC (D.bl J))) iC)))))))))))))
def B7:FS:=(nM [M,M,J,J,J,J,J,J,J,J,J,J,J] [M,J,J,J,J,J,J,J,J,J,J,J,J] qp)
def AW:FS:=(c7 (eM (uj (cV (mN (b2 CW) (cV (mC (D.int 1)) (cV (mN (b2 vb) (cV (mC (D.int 4)) (cV (mN (b1 d4) (cV (mV 0) cW)) cW))) cW))) cW)) (gN 1) B7)
  (dD (mC (D.bl M))))
def m_law:FN:=fG 13 AW
theorem Fb {f:cH}{fd:cS}(F:xZ K "law" "law" ss f fd)(i:d0 P w K mg base 1 "_law_box" 2 fq)(h:d0 P w K mg base 3 "_law_machine" 2 eW)(g:d0 P w K mg base 2 "_law_odd_choices" 1 em)(d:d0 P w K mg base 1 "_law_odd_rows" 2 dM)(e:d0 P w K mg base 2 "_law_odd_things" 0 dP)(l:d0 P w K mg base 4 "_law_standing" 3 eL)(j:d0 P w K mg base 3 "_law_web" 2 gE)(c:d0 P w K mg base 6 "shows_dodge" 5 d6)(a:d0 P w K mg base 6 "shows_sure" 4 dU):
  k3 P w K mg base uh 7 f fd ["_law_script"] (yF K 1 m_law):=D0 (k:=6) (n:=1) (N:=["_law_script","_law_k","_law_box_here","_law_web_here","_law_machine_here","_law_standing_here","_law_first","_law_many","_law_row","_law_thing","_law_one","_law_every","_law_some_here"]) (ps:=["_law_script"]) (b:=AW) F sk O λp A m s H E o=>
 (qF (fo (ir (a1 (cn (Iy O) (a2 qK (cn (DR O) (a2 qK (cn ev (a1 xv)))))))) gq (wE [M,M,J,J,J,J,J,J,J,J,J,J,J] [M,J,J,J,J,J,J,J,J,J,J,J,J] (qF (sq (wn i (a2 xv xv))) (qF (j6 3 4 O (gg O) O O (by decide) O O (a2 (wn j (a2 xv qK)) (wn h (a2 xv dy)))) (qF (sq (wn l (a3 xv xv (cn (DR O) (a2 qK (cn ev (a1 xv))))))) (qF (j6 6 7 O (gg O) O O (by decide) O O (a2 (cX (a2 (cz fR (a1 (fk ["_law_room"] (qd (jq xv qK)) ⟨gq,dj,(cX (a3 xv qK qK))⟩))) (jq xv qK))) (cn ev (a1 (jq xv qK))))) (qF (sq (cX (a3 xv qK qK))) (qF (fo (qd (qI dG (qI dG (rY e o (by first|decide|omega) rfl) (fk ["_law_one"] (qd (wn d (a2 xv xv))) ⟨gq,dj,(cX (a2 xv xv))⟩)) (dk (a3 xv (dk (a1 xv)) (cX (a2 xv xv)))))) gq (qG (qV (ct gB (wn a (qA xv (a3 xv xv xv))) dy) (qG (qU dy)) qQ))) (qF (fo (qd (wn d (a2 xv xv))) gq (qG (qV (ct gB (wn a (qA xv (a3 xv xv (cX (a1 xv))))) dy) (qG (qU dy)) qQ))) (qF (sq (cX (a1 (yb rfl rfl (bz B) rfl (bz B) (a1 xv))))) (qF (sq (qI dG (rY e o (by first|decide|omega) rfl) (fk ["_law_one"] (qd (wn g (a1 xv))) ⟨gq,dj,(cX (a1 xv))⟩))) (qF (fo (qd (qI dG xv (dk (a3 (qI dG xv (cX (a1 et))) (dk (a1 (jq xv qK))) (jq xv qK))))) gq (qF (qV (ct gB (wn c (qA xv (qA xv (a3 xv xv xv)))) dy) (qG (qU dy)) qQ) (qG (qV (ct gB (wn c (qA xv (qA xv (a3 xv (cX qN) xv)))) dy) (qG (qU dy)) qQ)))) (qF (qV (ge (j5 (ct (oq mr) xv qK) (iI (ct gB (wn a (qA xv (a3 xv xv (cX qN)))) dy)))) (qG (qU dy)) qQ) (qF (qV (ct gB (wn c (qA xv (qA xv (a3 xv (cX qN) (cX qN))))) dy) (qG (qU dy)) qQ) (qG (qV (ge (j5 (ct Cf xv qK) (iI (ct gB (wn a (qA xv (a3 xv xv (cX qN)))) dy)))) (qG (qU dy)) qQ)))))))))))))))) (qG (qU dy)))
end
theorem all_mk {l:PySem.W.OpenLaw}{w:cK}{K:Fg1}{h:cR}{mg:Str->Option cF}{fa f1 f2 f3 f4 f5 f6 f7 f8 f9 f10 f11 f12 f13 f14 S f16 A aq t f20 f21 N ao f24 f25 f26 E f28 f29 f30 f31 C H f34 f35 f36 f37 f38 f39 f40 f41 f42 f43 f44:cH}(X:K.In h)(G:h.Ns cM mg)(hfa:mg "law"=some (.ref fa))
  {g2 g3 g6 g9 j:cH}
  {t1 t4 t5 t7 t8 t10 x t13 t14:Tok}
  {od3 od6 od9 m D:Option cH} {n3 n6 n9 n12 n2:Nat} {sl3 au sl9 f sl2:Array (Option cF)}
  (a1:dr K "is_whole" no f1)
  (a2:dr K "is_tuple_of" jy f2)
  (a3:dr K "is_rising" lK f3)
  (a4:dr K "first_of" nq f4)
  (a5:dr K "begun" vT f5)
  (a6:dr K "sight_of" nl f6)
  (a7:dr K "handled" oU f7)
  (a8:dr K "stepped" oT f8)
  (a9:dr K "is_met" su f9)
  (L:dr K "some_rooms" kf f10)
  (a11:dr K "_law_box" nv f11)
  (a12:dr K "_law_draw" lS f12)
  (a13:dr K "_law_join" lR f13)
  (V:dr K "_law_sights" jB f14)
  (a15:dr K "_law_deep" lT S)
  (a16:dr K "_law_odd_rows" iB f16)
  (a17:dr K "is_below" np A)
  (a18:dr K "deed_of" oV aq)
  (I:dr K "wants" vQ t)
  (r:dr K "moved" vR f20)
  (a21:dr K "all_choices" jA f21)
  (a22:dr K "_law_of" oW N)
  (a23:dr K "_law_shuffled" iA ao)
  (a24:dr K "_law_odd_things" gP f24)
  (W:dr K "_law_odd_choices" gy f25)
  (a26:dr K "are_rooms" lP f26)
  (a27:dr K "deeds_of" nr E)
  (q:dr K "moved_some" kh f28)
  (a29:dr K "is_walker" lJ f29)
  (a30:dr K "is_choice" lN f30)
  (a31:dr K "_law_web" nt f31)
  (a32:dr K "_law_machine" iR C)
  (am:dr K "_law_some" lQ H)
  (a34:dr K "slow_beat" lI f34)
  (y:dr K "leads" vS f35)
  (a36:dr K "is_whole_of" jx f36)
  (a37:dr K "are_choices" jz f37)
  (a38:dr K "_law_standing" iz f38)
  (a39:dr K "walked_on" lH f39)
  (a40:dr K "is_ranked" lM f40)
  (a41:dr K "goes_down" lO f41)
  (a42:dr K "shows_sure" kg f42)
  (U:dr K "shows_dodge" jw f43)
  (g:dr K "law" ss f44)
  (e_MOODS:wN1 K cM "MOODS"=Z (Z (Value.int (4000) t1)))
  (e_PARTS:wN1 K cM "PARTS"=Z (Z (Value.ref g2)))
  (h2:K.lookup g2=Z ⟨.type "tuple",D,.seq ([(Value.ref g3),(Value.ref g6),(Value.ref g9),(Value.ref j)]:List cF).toArray n2,sl2⟩)
  (h3:K.lookup g3=Z ⟨.type "tuple",od3,.seq ([(Value.str "came" t4),(Value.int (5) t5)]:List cF).toArray n3,sl3⟩)
  (h6:K.lookup g6=Z ⟨.type "tuple",od6,.seq ([(Value.str "chalk" t7),(Value.int (2) t8)]:List cF).toArray n6,au⟩)
  (h9:K.lookup g9=Z ⟨.type "tuple",od9,.seq ([(Value.str "doors" t10),(Value.int (5) x)]:List cF).toArray n9,sl9⟩)
  (h12:K.lookup j=Z ⟨.type "tuple",m,.seq ([(Value.str "others" t13),(Value.int (2) t14)]:List cF).toArray n12,f⟩)
  (z:IH K BL):∃fd:cS,(∀(s:cG) (v:cF),BindsTo s fd ⟨[v],[]⟩ [("_law_script",v)]) /\ ∀base:cR,K.In base->base.Ns cM mg->k3 l.prog w K mg base uh 7 fa fd ["_law_script"] (yF K 1 m_law):=by
 have e:=hfa.symm.trans (wM1 X G g.ns);cases e;have B:Blt BL mg:=z.blt X G;have c1:CGl K mg "MOODS" rD:=AO (wM1 X G e_MOODS) oj;have c0:CGl K mg "PARTS" rB:=AO (wM1 X G e_PARTS) (oi h2 (by show 4<=cO;decide) (eN (oi h3 (by show 2<=cO;decide) (eN rE (eN oj kT))) (eN (oi h6 (by show 2<=cO;decide) (eN rE (eN oj kT))) (eN (oi h9 (by show 2<=cO;decide) (eN rE (eN oj kT))) (eN (oi h12 (by show 2<=cO;decide) (eN rE (eN oj kT))) kT)))));obtain⟨_,⟨⟨_,_,kV,dc,pm,an,cd,ct,_,rfl,lL,cL⟩,kL⟩⟩:=g.fn;refine⟨wF1 "law" "law" (gW ss) (eK ss) (dv ss) .none kV dc pm an cd ct,λs v=>.of_eq O,λbase _ _=>?_⟩;have o0:=sJ (P:=l.prog) (w:=w) (base:=base) X G B a1;have c:=nH (P:=l.prog) (w:=w) (base:=base) X G B a2;have o9:=qy (P:=l.prog) (w:=w) (base:=base) X G B a3;have o1:=sL (P:=l.prog) (w:=w) (base:=base) X G B a4;have k:=zw (P:=l.prog) (w:=w) (base:=base) X G B a5;have o2:=sI (P:=l.prog) (w:=w) (base:=base) X G B a6 c0;have o3:=uR (P:=l.prog) (w:=w) (base:=base) X G B a7;have o4:=uQ (P:=l.prog) (w:=w) (base:=base) X G B a8;have a:=wZ (P:=l.prog) (w:=w) (base:=base) X G B a9;have o5:=oD (P:=l.prog) (w:=w) (base:=base) X G B L;have o34:=sO (P:=l.prog) (w:=w) (base:=base) X G B a11;have d:=qT (P:=l.prog) (w:=w) (base:=base) X G B a12;have o14:=qS (P:=l.prog) (w:=w) (base:=base) X G B a13;have F:=nK (P:=l.prog) (w:=w) (base:=base) X G B V;have o7:=q0 (P:=l.prog) (w:=w) (base:=base) X G B a15;have o37:=lj (P:=l.prog) (w:=w) (base:=base) X G B a16;have p:=sK X G B a17 o0;have o10:=uS X G B a18 o1;have T:=zr X G B I o2;have o12:=zu X G B r o3 o4;have o20:=nJ X G B a21 o5;have o:=uT X G B a22 d;have b:=li X G B a23 d;have R:=jO X G B a24 o7;have o36:=jt X G B W o7;have wq:=qL X G B a26 p o9;have n:=sM X G B a27 o10 T;have i:=oF X G B q o12;have o22:=qx X G B a29 c1 p c;have o23:=qB X G B a30 p o9;have o40:=sN X G B a31 d o14 o b;have o35:=mq X G B a32 d o F;have o24:=qM X G B am d b;have o25:=qw X G B a34 n i;have o28:=zv X G B y o20 n i;have u:=nG X G B a36 wq c o22;have o32:=nI X G B a37 o23;have Q:=lh X G B a38 d b o24;have o33:=qv X G B a39 o25;have o31:=qz X G B a40 p a c o0 u;have o30:=qC X G B a41 a o28;have o42:=oE X G B a42 k o30 a o31;have o41:=nF X G B U o32 k a o33;exact Fb (P:=l.prog) (w:=w) (base:=base) X G B (Aq lL cL kL) o34 o35 o36 o37 R Q o40 o41 o42
noncomputable def hnd(g m c:Int):Ob:=.lst [.int g,.int m,.int c]
noncomputable def Fu(m c:Int):Int:=(m*40009+7368787*c+12345)%2305843009213693951
def uX(m c:Int):Int:=(Fu m c*(Fu m c%65537+101*c)+9973)%2305843009213693921
theorem Iz{a b c:D}:vp [a,b,c] 0=Z a:=by rfl
theorem J7{a b c:D}:vp [a,b,c] 1=Z b:=by rfl
theorem J4{a b c:D}:vp [a,b,c] 2=Z c:=by rfl
theorem Ge{T:cZ}{g m c k:Int}(hg:0<g)(hk:0<k)(d:k<2^62):
  c6 [.ref 0,.int k] (hnd g m c::T)=Z (.int (g%k),hnd (g/k) m c::T):=by
 have a:k<2^64:=by lia
 have b:k<18446744073709551616:=a;simp[c6,fG,d7,ja,c7,ew,mB,m2,b2,hh,mV,mC,da,nW,A8,dw,hnd,hg,hk,b,de,gN,kP,nX,gS,b3,i4,l5,jV,dD,Iz,xi]
theorem Gd{T:cZ}{g m c k:Int}(hg:¬ 0<g)(hk:0<k)(hc:0<=c)(f:c<2^60):
  c6 [.ref 0,.int k] (hnd g m c::T)=Z (.int ((uX m (c+1)/4099+uX m (c+1)/2147483659)%k),hnd g (uX m (c+1)) (c+1)::T):=by
 have e:ef m 40009=M:=sU (by decide) (by decide);have d:ef 7368787 (c+1)=M:=ph (by decide) (by decide);have b:ef 101 (c+1)=M:=ph (by decide) (by decide);have q:=Int.emod_lt_of_pos (m*40009+7368787*(c+1)+12345) (show(0:Int)<2305843009213693951 by decide);have h:=Int.emod_nonneg (m*40009+7368787*(c+1)+12345) (show(2305843009213693951:Int)≠0 by decide);have a:ef ((m*40009+7368787*(c+1)+12345)%2305843009213693951) ((m*40009+7368787*(c+1)+12345)%2305843009213693951%65537+101*(c+1))=M:=ph (by omega) (by omega);simp[c6,fG,d7,ja,c7,ew,mB,m2,b2,hh,mV,mC,da,nW,A8,dw,hnd,hg,hk,de,gN,kP,nX,gS,b3,i4,l5,jV,dD,Iz,J7,J4,xi,iC,dS,i5,e,d,b,a,Fu,uX]
def Hnd(o:Ob)(n:Nat):Prop:=∃g m c:Int,o=hnd g m c/\0<=c/\c<=n
theorem Hnd.und{o:Ob}{n k:Nat}(h:Hnd o n):o.und k=M:=by
 obtain⟨g,m,c,rfl,_⟩:=h;rfl
theorem Hnd.more{o:Ob}{n k:Nat}(h:Hnd o n)(hk:n<=k):Hnd o k:=by
 obtain⟨g,m,c,e,a,h1⟩:=h;exact⟨g,m,c,e,a,by lia⟩
theorem Df(ns:List Int)(k:Int)(l:0<=k)(hk:k<64):∃g m,fq [.rol (ns.map D.int),.int k] []=Z (.ref 0,[hnd g m 0]):=by
 have j:ef (10^45) (10^45)=M:=by decide+kernel
 have f:ef 9973 k=M:=ph (by decide) (by decide);have d:ef (9973*k) k=M:=sU (by omega) (by omega);have c:ef 17 k=M:=ph (by decide) (by decide);have i:ef 0 0=M:=ph (by decide) (by decide);have e:∀(x:Int) (b:Prop) [Decidable b],ef x (if b then 1 else 0)=M:=λx b _=>by
  split
  ·exact sU (by decide) (by decide)
  ·exact sU (by decide) (by decide)
 have lt:uk (.int k) (.int ns.length) []=Z (.bl (decide (k<ns.length)),[]):=by rfl
 by_cases h:k<ns.length
 ·have a:vp (ns.map D.int) k=some (.int (ns[k.toNat]'(by lia))):=by
   unfold vp xi;rw[ak l,ak (by simpa using h)];simp[show k.toNat<ns.length by lia]
  generalize n:ns[k.toNat]'(by lia)=x at a
  simp[fq,fG,d7,j0,c7,ew,mB,m2,b2,b1,mN,cV,cW,hh,mV,mC,da,nW,A8,d4,dw,de,gN,kP,i5,dS,oI,tD,dD,d8,lt,h,a,f,d,c,e,cO,hnd,iC];simp[show ef 1000000000000000000000000000000000000000000000 1000000000000000000000000000000000000000000000=M from j,f,d,c,e]
 ·simp[fq,fG,d7,j0,c7,ew,mB,m2,b2,b1,mN,cV,cW,hh,mV,mC,da,nW,A8,d4,dw,de,gN,kP,i5,dS,oI,tD,dD,d8,lt,h,f,d,c,e,cO,hnd,iC];simp[show ef 1000000000000000000000000000000000000000000000 1000000000000000000000000000000000000000000000=M from j,i,f,d,c,e]
theorem Gq(ns:List Int)(k:Int)(b:0<=k)(hk:k<64):∃o,cY 2 fq [.rol (ns.map D.int),.int k] []=Z (.ref 0,[o])/\Hnd o 0:=by
 have a:=Df ns k b hk;obtain⟨g,m,e⟩:=a;refine⟨hnd g m 0,?_,_,_,_,O,Int.le_refl _,Int.le_refl _⟩;rw[kW (n:=2) e O (by rw[D.unds,D.und,k7];rfl) (by simp[D.und])];simp[D.sh,Ob.sh,D.shs,hnd]
def dq(U:cZ):Prop:=U.all (Ob.und U.length)=M
structure HS (n:Nat)(B U:cZ):Prop where
 len:B.length<=U.length
 pos:0<B.length
 same:∀i,i<B.length->0<i->U[i]?=B[i]?
 hand:∃o,U[0]?=some o/\Hnd o n
 shut:dq U
theorem HS.more{n n':Nat}{B U:cZ}(s:HS n B U)(hn:n<=n'):HS n' B U:=by
 obtain⟨o,e,h⟩:=s.hand;exact⟨s.len,s.pos,s.same,⟨o,e,h.more hn⟩,s.shut⟩
theorem HS.self{n:Nat}{U:cZ}{o:Ob}(e:U[0]?=Z o)(h:Hnd o n)(a:dq U):HS n U U:=
 ⟨nR1 _,(gE1.mp e).1,λ_ _ _=>rfl,⟨o,e,h⟩,a⟩
theorem HS.here{n:Nat}{B U:cZ}(s:HS n B U):HS n U U:=by
 obtain⟨o,e,h⟩:=s.hand;exact .self e h s.shut
theorem HS.trans{n n':Nat}{B U V:cZ}(a:HS n B U)(b:HS n' U V):HS n' B V:=
 ⟨aB a.len b.len,a.pos,λi hi h1=>(b.same i (nL1 hi a.len) h1).trans (a.same i hi h1),b.hand,b.shut⟩
theorem HS.at{n:Nat}{B U:cZ}(s:HS n B U){i:Nat}{o:Ob}(e:B[i]?=Z o)(h1:0<i):U[i]?=Z o:=by
 rw[s.same i (gE1.mp e).1 h1];exact e
theorem sr{U:cZ}{G:cZ}(s:dq U)(hg:∀o∈G,o.und (U++G).length=M):dq (U++G):=by
 unfold dq at *
 rw[cq,bA1];rw[bv]at s;refine⟨bv.mpr λo a=>gA (by rw[lA1];lia) (s o a),bv.mpr hg⟩
theorem kb{U:cZ}{i:Nat}{o:Ob}(s:dq U)(ho:o.und U.length=M):dq (U.set i o):=by
 unfold dq at *
 rw[aS,bv]at *
 intro x a;rcases List.mem_or_eq_of_mem_set a with z|z
 ·exact s x z
 ·rw[z];exact ho
theorem HS.app{n:Nat}{B U G:cZ}(s:HS n B U)(hg:∀o∈G,o.und (U++G).length=M):HS n B (U++G):=by
 obtain⟨o,e,h⟩:=s.hand;have a:=s.len;refine⟨by rw[lA1];lia,s.pos,λi hi h1=>?_,⟨o,?_,h⟩,sr s.shut hg⟩
 ·rw[gL1 (by lia)];exact s.same i hi h1
 ·rw[gL1 (gE1.mp e).1];exact e
theorem HS.app1{n:Nat}{B U:cZ}{o:Ob}(s:HS n B U)(hg:o.und 0=M):HS n B (U++[o]):=
 s.app λx a=>by rw[cr.mp a];exact gA (bf _) hg
theorem HS.set{n i:Nat}{B U:cZ}{o:Ob}(s:HS n B U)(hi:B.length<=i)(ho:o.und U.length=M):HS n B (U.set i o):=by
 obtain⟨o',e,h⟩:=s.hand;have h1:=s.pos;refine⟨by rw[aS];exact s.len,s.pos,λj b a=>?_,⟨o',?_,h⟩,kb s.shut ho⟩
 ·rw[gS1 (by lia)];exact s.same j b a
 ·rw[gS1 (by lia)];exact e
theorem draw_W{n:Nat}{B U:cZ}{k:Int}{Q:D×cZ->Prop}(s:HS n B U)(hn:n<=2^50)(hk:0<k)(f:k<2^62)(q:∀(d:Nat) U',HS (n+1) B U'->HS (n+1) U U'->U'.length=U.length->(d:Int)<k->Q (.int d,U')):W (cY 2 c6 [.ref 0,.int k] U) Q:=by
 obtain⟨o,e,g,m,c,rfl,j,h1⟩:=s.hand;obtain⟨T,rfl⟩:∃T,U=hnd g m c::T:=by
  cases U with
  |nil=>cases e
  |cons a T=>cases e;exact⟨T,O⟩
 have call:∀d o',c6 [.ref 0,.int k] (hnd g m c::T)=Z (d,o'::T)->cY 2 c6 [.ref 0,.int k] (hnd g m c::T)=Z (d,o'::T):=λd o e=>xH e O (by simp[D.unds,D.und]) (by simp);have up:∀o':Ob,Hnd o' (n+1)->HS (n+1) (hnd g m c::T) (o'::T):=λo' l=>by
  refine⟨nR1 _,by simp,λi hi p=>?_,⟨o',O,l⟩,?_⟩
  ·cases i with
   |zero=>lia
   |succ i=>rfl
  ·have:=s.shut;unfold dq at *
   rw[bK,bA1]at *
   exact⟨l.und,this.2⟩
 by_cases h:0<g
 ·have b:=Int.emod_nonneg g (show k≠0 by lia);obtain⟨d,e⟩:=Int.eq_ofNat_of_zero_le b;refine⟨_,call _ _ (Ge h hk f),?_⟩;rw[e];have u:=up (hnd (g/k) m c) ⟨_,_,_,O,j,by lia⟩;exact q d _ (s.trans u) u O (by rw[<- e];exact Int.emod_lt_of_pos _ hk)
 ·have b:=Int.emod_nonneg (uX m (c+1)/4099+uX m (c+1)/2147483659) (show k≠0 by lia);obtain⟨d,e⟩:=Int.eq_ofNat_of_zero_le b;refine⟨_,call _ _ (Gd h hk j (by lia)),?_⟩;rw[e];have u:=up (hnd g (uX m (c+1)) (c+1)) ⟨_,_,_,O,by lia,by push_cast;lia⟩;exact q d _ (s.trans u) u O (by rw[<- e];exact Int.emod_lt_of_pos _ hk)
theorem tV{n c c':Nat}{f:FN}{ds:List D}{B U:cZ}{Q:D×cZ->Prop}(hn:ds.length=n)(k:D.unds 0 ds=J)(s:HS c B U)(q:W (f ds U) λp=>HS c' U p.2/\p.1.und 0=M /\ ∀g,HS c' B g->HS c' U g->g.length=U.length->Q (p.1,g)):W (cY n f ds U) Q:=by
 refine tS hn k (q.mono ?_);rintro⟨d,V⟩ ⟨v,h,q⟩;dsimp only at v h q;have m:=v.len;have r:=v.pos;have tl:(V.take U.length).length=U.length:=by rw[aO];lia
 obtain⟨o,e,j⟩:=v.hand;have get:∀i,i<U.length->(V.take U.length)[i]?=V[i]?:=λi hi=>by rw[aQ hi]
 have sh:(V.take U.length).all (Ob.und U.length)=M:=by
  rw[bv];intro x l;obtain⟨i,hi⟩:=bm l;have b:i<U.length:=by rw[<- tl];exact(gE1.mp hi).1
  rw[get i b]at hi;by_cases a:i=0
  ·subst a;rw[e]at hi;cases hi;exact j.und
  ·rw[v.same i b (by lia)]at hi;have:=s.shut;unfold dq at this;rw[bv]at this;exact this x (gM1 hi)
 have u:HS c' U (V.take U.length):=by
  refine⟨by rw[tl];lia,v.pos,λi hi a=>by rw[get i hi];exact v.same i hi a,⟨o,by rw[get 0 (by lia)];exact e,j⟩,?_⟩;unfold dq;rw[tl];exact sh
 have e:gc U.length (d,V)=(d,V.take U.length):=by
  unfold gc;dsimp only;rw[ak (by rw[eQ h,sh];rfl)]
 rw[e];exact q _ (s.trans u) u tl
theorem HD{c r:Nat}{B U:cZ}{xs:List D}{Q:D×cZ->Prop}(s:HS c B U)(hc:c<=2^45)(hr:U[r]? = Z (.lst xs))(h:0<r)(m:xs.length<=100000)(k:0<xs.length)(hx:∀ x∈xs,x.und 0=M)(q:∀x f,x∈xs->HS (c+1) B f->HS (c+1) U f->f.length=U.length->Q (x,f)):W (cY 2 fM [.ref 0,.ref r] U) Q:=by
 refine tV (c':=c+1) O O s ?_;unfold fM;refine j3 ?_;unfold pO;walk_at"w";refine ee hr ?_;dsimp only;refine draw_W s.here (by lia) (by lia) (by lia) λj f h1 h2 l n=>?_;have d:j<xs.length:=by lia
 refine wy (i:=j) (h2.at hr h) (gG1 d) ?_;exact⟨h2,hx _ (bO d),λg a b e=>q _ g (bO d) a b e⟩
theorem oa:∀{xs:List D} {i:Nat} (h:i<xs.length),(xs[i]::xs.eraseIdx i).Perm xs
 |x::xs,0,h=>List.Perm.refl _
 |x::xs,i+1,h=>by
  have:=oa (xs:=xs) (i:=i) (by simpa using h);rw[List.eraseIdx_cons_succ,List.getElem_cons_succ];exact(List.Perm.swap _ _ _).trans (this.cons x)
theorem yd{c:FT}{b:FS}{Q:Fl×Ev×cZ->Prop}(I:Nat->Ev->cZ->Prop)(step:∀k r S,I k r S->W (c r S) fun p=>if p.1=true then 0<k/\W (b r p.2) fun q=>q.1 = .nx/\I (k-1) q.2.1 q.2.2 else Q (.nx,r,p.2)):
  ∀(a k:Nat) (r:Ev) (S:cZ),k<a->I k r S->W (vF c b a r S) Q
 |0,k,r,S,hf,_=>by lia
 |a+1,k,r,S,hf,hi=>by
  rw[vF];dsimp only;rw[c4];obtain⟨⟨t,n⟩,e,h⟩:=step k r S hi;refine⟨_,e,?_⟩;dsimp only at h ⊢;cases t with
  |true=>
   rw[ak O]at h ⊢;obtain⟨m,⟨f,l,i⟩,j,d,g⟩:=h;dsimp only at d g;subst d;rw[j,oS1];exact yd I step a (k-1) l i (by lia) g
  |false=>
   rw[aj (by decide)]at h ⊢;exact dg.mpr h
inductive SH (c n:Nat)(xs:List D)(U:cZ)(r0:Nat)(k:Nat)(r:Ev)(S:cZ):Prop where
 |mk (left found:List D) (h1:HS (c+(n-k)) U S) (h2:S[U.length]?=some (.lst left)) (h3:S[U.length+1]?=some (.lst found)) (h4:(found++left).Perm xs) (h5:left.length=k)
  (h6:r=[some (.ref 0),some (.ref r0),some (.ref U.length),some (.ref (U.length+1))]):SH c n xs U r0 k r S
theorem hH{n:Nat}:∀{xs:List D},D.unds n xs=M ↔ ∀x∈xs,x.und n=M
 |[]=>by simp[D.unds]
 |x::xs=>by rw[D.unds,bA1,hH (xs:=xs)];simp
theorem uI{c r:Nat}{B U:cZ}{xs:List D}{Q:D×cZ->Prop}(s:HS c B U)(hc:c<=2^45)(hr:U[r]? = Z (.lst xs))(V:xs.length<=100)(hx:D.unds 0 xs=M)(q:∀k ys f,HS (c+xs.length) B f->HS (c+xs.length) U f->U.length<=k->f[k]?=Z (.lst ys)->ys.Perm xs->Q (.ref k,f)):W (cY 2 dL [.ref 0,.ref r] U) Q:=by
 refine tS O O ?_;unfold dL;refine j3 ?_;unfold iF;have au:=s.here;refine dW (λl S=>S=U++[.lst xs,.lst []]/\l=[Z (.ref 0),Z (.ref r),Z (.ref U.length),Z (.ref (U.length+1))]) ?_ ?_
 ·((try walk_at"w");repeat(simp only[vc,ic hr];try walk_at"w"))
 rintro l S ⟨rfl,rfl⟩;have G:∀{ys zs:List D},(ys++zs).Perm xs->D.unds 0 ys=M/\D.unds 0 zs=M:=λ{ys zs} p=>by
  have h:=hH.mp hx;exact⟨hH.mpr λx h1=>h x (p.mem_iff.mp (aF _ h1)),hH.mpr λx h1=>h x (p.mem_iff.mp (mA1 _ h1))⟩
 refine dW (λl S=>SH c xs.length xs U r 0 l S) ?_ ?_
 ·refine yd (SH c xs.length xs U r) ?_ 100000 xs.length _ _ (by lia) ⟨xs,[],?_,by rw[dX];rfl,by rw[kM];rfl,.refl _,O,O⟩
  ·rintro k l S ⟨a,b,h1,h2,n,e,t,rfl⟩;obtain ⟨ao,L⟩:=G e;have am:a.length<=xs.length/\b.length+a.length=xs.length:=by
    have:=e.length_eq;rw[lA1]at this;lia
   have N:=h1.len;have y:=(gE1.mp n).1;have d:∀o,(S++[o])[U.length]?=Z (.lst a):=λo=>by rw[gL1 (by lia)];exact h2
   have i:∀o,(S++[o])[U.length+1]?=Z (.lst b):=λo=>by rw[gL1 y];exact n
   unfold gR;walk_at"w";rw[CU (d _) (by rw[cu])];walk_at"w";have P:(!a.isEmpty)=decide (0<k):=by
    rw[<- t];cases a<;>simp
   rw[P];by_cases u:0<k
   ·rw[ak (by rw[al];exact u)];refine⟨u,?_⟩;unfold gQ fw;rw[c4];refine pP ?_;walk_at"w";refine⟨_,_,O,i _,?_⟩;refine pP ?_;walk_at"w";refine⟨_,_,O,d _,?_⟩
    try walk_at"w"
    refine ee (d _) ?_;dsimp only;refine draw_W (h1.app1 (o:=.lst []) O) (by lia) (by lia) (by lia) λj f a1 a2 a3 T=>?_;have g:j<a.length:=by lia
    try walk_at"w"
    have H:=s.pos;have A:0<U.length:=by have:=s.len;lia
    refine Gz (a2.at (d _) A) (gG1 g) (by lia) ?_;have b3:(f.set U.length (.lst (a.eraseIdx j)))[U.length+1]?=Z (.lst b):=by
     rw[gS1 (by lia)];exact a2.at (i _) (by lia)
    have C:U.length+1<f.length:=by rw[a3,lA1];lia
    have R:=oa g;have m:(b++[a[j]]++a.eraseIdx j).Perm xs:=by
     rw[bB];exact(List.Perm.append_left b R).trans e
    obtain⟨v,F⟩:=G m;refine(ud b3).mpr ⟨dz (by lia),?_⟩;refine SH.mk (a.eraseIdx j) (b++[a[j]]) ?_ ?_ ?_ m (by rw[ca g];lia) O
    ·refine((HS.more (n':=c+(xs.length-(k-1))) a1 (by lia)).set (nR1 _) (by rw[Ob.und];exact fI F)).set (by lia) (by rw[Ob.und];exact fI v)
    ·rw[gS1 (by lia),aG (by lia)]
    ·rw[aG (by rw[aS];exact C)]
   ·rw[aj (by rw[al];exact u)];have E:k=0:=by lia
    subst E;exact⟨a,b,h1.app1 O,d _,i _,e,t,O⟩
  ·rw[Nat.sub_self,Nat.add_zero];refine au.app λo K=>?_;rcases aD.mp K with z|z
   ·rw[z,Ob.und];exact fI hx
   ·rw[cr.mp z];rfl
 rintro l S ⟨a,b,h1,h2,n,e,t,rfl⟩;walk_at"w";have w:a=[]:=List.eq_nil_of_length_eq_zero t;subst w;rw[aK]at e;have I:gc U.length (.ref (U.length+1),S)=(.ref (U.length+1),S):=by
  unfold gc;rw[aj];simp[D.und];intro z;lia
 rw[I];exact q _ b S ((s.trans h1).more (by lia)) (h1.more (by lia)) (by lia) n e
abbrev df:=List (List (Nat×Nat))
structure EW (b m:Nat)(E:df)(U:cZ):Prop where
 el:E.length=m
 row:∀(i:Nat) (row:List (Nat×Nat)),E[i]?=some row->U[b+i]?=some (eE row)
 ends:U[b+m]?=some (.lst (gY b m))
theorem EW.over{n b m:Nat}{E:df}{U V:cZ}(e:EW b m E U)(s:HS n U V)(d:0<b):EW b m E V:=
 ⟨e.el,λi a c=>s.at (e.row i a c) (by lia),s.at e.ends (by lia)⟩
theorem EW.setRow{b m i:Nat}{E:df}{U:cZ}{row:List (Nat×Nat)}(w:EW b m E U)(hi:i<m):EW b m (E.set i row) (U.set (b+i) (eE row)):=by
 have c:b+m<U.length:=(gE1.mp w.ends).1;refine⟨by rw[aS];exact w.el,λj a h=>?_,by rw[gS1 (by lia)];exact w.ends⟩;by_cases e:i=j
 ·subst e;rw[aG (by rw[w.el];exact hi)]at h;cases h;rw[aG (by lia)]
 ·rw[gS1 e]at h;rw[gS1 (by lia)];exact w.row j a h
theorem rM{b m i:Nat}{E:df}{U:cZ}{Q:D×cZ->Prop}(w:EW b m E U)(hi:i<m)(q:Q (.ref (b+i),U)):W (da (.ref (b+m)) (.int i) U) Q:=
 wy (xs:=gY b m) (x:=.ref (b+i)) w.ends (km hi) q
theorem py:∀E:df,kJ (E.map λa=>D.int (a.length:Nat))=Z (E.map λa=>((a.length:Nat):Int))
 |[]=>rfl
 |r::E=>by rw[mP1,mP1,kJ,py E];rfl
theorem sj:∀E:df,(E.map λa=>((a.length:Nat):Int)).sum=((Mi.tot E:Nat):Int)
 |[]=>rfl
 |r::E=>by
  have:=sj E;unfold Mi.tot at *
  rw[mP1,mP1,List.sum_cons,List.sum_cons,this]
  push_cast;rfl
theorem Gx{E:df}{S:cZ}{n:Nat}{Q:D×cZ->Prop}(h:S[n]?=Z (.lst (E.map λa=>D.int (a.length:Nat))))(q:Q (.int (Mi.tot E:Nat),S)):W (tz (.ref n) S) Q:=by
 refine W.of ?_ q;unfold tz;rw[ic h];dsimp only;rw[py,oS1,sj]
theorem IA{g:G1}{m:FE}{r:Ev}{S:cZ}{Q:D×cZ->Prop}(h:W (m r S) λp=>W (g p.1 p.2) Q):W (mN (b1 g) (cV m cW) r S) Q:=by
 unfold mN cV cW;rw[c4,c4];refine h.mono ?_;rintro⟨d,a⟩ q;walk_at"w";exact q
theorem wA{b m i:Nat}{E:df}{U G:cZ}{Q:D×cZ->Prop}(w:EW b m E U)(hi:i<m)(q:Q (.ref (b+i),U++G)):W (da (.ref (b+m)) (.int i) (U++G)) Q:=
 wy (xs:=gY b m) (x:=.ref (b+i)) (by rw[gL1 (gE1.mp w.ends).1];exact w.ends) (km hi) q
theorem Ae{b m a c e:Nat}{E:df}{U:cZ}{Q:D×cZ->Prop}(ao:dq U)(w:EW b m E U)(ht:Mi.tot E=2*e)(ha:a<m)(hc:c<m)(hm:m<=8){f:List (Nat×Nat)}(n:E[a]? = some f)(au:f.length<=8)(L:∀ rb,E[c]? = some rb->rb.length<=8)(q:∀rb,(E.set a (f++[(e,0)]))[c]?=some rb->Q (.non,(U.set (b+a) (eE (f++[(e,0)]))).set (b+c) (eE (rb++[(e,1)])))):
  W (cY 3 fv [.ref (b+m),.int a,.int c] U) Q:=by
 have K:b+m<U.length:=(gE1.mp w.ends).1;refine tS O O ?_;unfold fv;refine j3 ?_;unfold mi;have y:∀S,xr (.int ((Mi.tot E:Nat):Int)) (.int 2) S=Z (.int (e:Nat),S):=λS=>by
  simp only[xr];rw[ak ⟨by lia,by lia⟩,ht]
  congr 3
  push_cast;lia
 refine dW (λr S=>S=U++[.lst (E.map λrow=>D.int (row.length:Nat))]/\r=[Z (.ref (b+m)),Z (.int a),Z (.int c),Z (.int (e:Nat))]) ?_ ?_
 ·walk_at"w";refine ee w.ends ?_;refine ip (λi p r S=>S=U/\p=(E.take i).map (λrow=>D.int (row.length:Nat)) /\ ∃x,r=[x]) (gY b m) 0 [] _ _ ⟨O,by simp,_,O⟩ (λi p r S h=>by rw[h.1];exact fO w.ends) ?_ ?_
  ·rintro i d v p r S ⟨rfl,rfl,x,rfl⟩;have l:=(gE1.mp v).1;rw[hR]at l;rw[km l]at v;cases v;rw[bI];obtain⟨row,k⟩:∃row,E[i]?=some row:=⟨_,gG1 (by rw[w.el];exact l)⟩;walk_at"w";refine ee (xs:=row.map pD) (w.row i row k) ?_;rw[b9,k];simp
  ·rintro xs r S ⟨rfl,G,x,rfl⟩;rw[cp,bI,hR,<- w.el,bS]at G;subst G;walk_at"w";refine⟨dz (by rw[lM1,w.el];lia),?_⟩;refine Gx (E:=E) (by rw[dX];rfl) ?_
   ((try walk_at"w");repeat(simp only[y];try walk_at"w"))
 rintro r S ⟨rfl,rfl⟩;generalize I:Ob.lst (E.map λrow=>D.int (row.length:Nat))=lens;have am:lens.und U.length=M:=by rw[<- I,Ob.und];exact d2 λ_ _=>rfl
 have s:=w.setRow (row:=f++[(e,0)]) ha;have j:∀(V:cZ) (i:Nat) (o:Ob),V[i]?=Z o->(V++[lens])[i]?=Z o:=λV i o h=>by rw[gL1 (gE1.mp h).1];exact h
 have st:∀(V:cZ) (i:Nat) (o:Ob),i<V.length->(V++[lens]).set i o=V.set i o++[lens]:=λV i o h=>by rw[List.set_append_left _ _ h]
 have t:b+a<U.length:=(gE1.mp (w.row a f n)).1;refine dW (λr S=>S=U.set (b+a) (eE (f++[(e,0)]))++[lens]/\r=[Z (.ref (b+m)),Z (.int a),Z (.int c),Z (.int (e:Nat))]) ?_ ?_
 ·unfold fw;rw[c4];refine pP ?_;walk_at"w";refine wA w ha ?_;refine⟨b+a,f.map pD,O,j _ _ _ (w.row a f n),?_⟩;walk_at"w";refine(ud (xs:=f.map pD) (j _ _ _ (w.row a f n))).mpr ⟨dz (by rw[lM1];lia),?_⟩;have C:(f.map pD++[D.tup [D.int ↑e,D.int 0]])=(f++[(e,0)]).map pD:=by simp[pD]
  rw[C,st _ _ _ t];trivial
 rintro r S ⟨rfl,rfl⟩;obtain⟨rb,g⟩:∃rb,(E.set a (f++[(e,0)]))[c]?=some rb:=⟨_,gG1 (by rw[s.el];exact hc)⟩;have N:rb.length<=10:=by
  by_cases z:a=c
  ·subst z;rw[aG (by rw[w.el];exact ha)]at g;cases g;simp;lia
  ·rw[gS1 z]at g;have:=L rb g;lia
 have B:b+c<(U.set (b+a) (eE (f++[(e,0)]))).length:=(gE1.mp (s.row c rb g)).1;unfold fw;rw[c4];refine pP ?_;walk_at"w";refine wA s hc ?_;refine⟨b+c,rb.map pD,O,j _ _ _ (s.row c rb g),?_⟩;walk_at"w";refine(ud (xs:=rb.map pD) (j _ _ _ (s.row c rb g))).mpr ⟨dz (by rw[lM1];lia),?_⟩;have C:(rb.map pD++[D.tup [D.int ↑e,D.int 1]])=(rb++[(e,1)]).map pD:=by simp[pD]
 rw[C,st _ _ _ B];have u:((U.set (b+a) (eE (f++[(e,0)]))).set (b+c) (eE (rb++[(e,1)]))).all (Ob.und U.length)=M:=by
  have:=kb (i:=b+c) (o:=eE (rb++[(e,1)])) (kb (i:=b+a) (o:=eE (f++[(e,0)])) ao gu) gu;unfold dq at this;rw[aS,aS]at this;exact this
 have H:gc U.length (.non,(U.set (b+a) (eE (f++[(e,0)]))).set (b+c) (eE (rb++[(e,1)]))++[lens])=(.non,(U.set (b+a) (eE (f++[(e,0)]))).set (b+c) (eE (rb++[(e,1)]))):=by
  have A:((U.set (b+a) (eE (f++[(e,0)]))).set (b+c) (eE (rb++[(e,1)]))++[lens]).take U.length=(U.set (b+a) (eE (f++[(e,0)]))).set (b+c) (eE (rb++[(e,1)])):=by
   rw[List.take_append_of_le_length (by simp),b0 (by simp)]
  unfold gc;dsimp only;rw[A,ak (by rw[u];rfl)]
 have F:=q rb g;rw[<- H]at F;exact F
noncomputable def oO:Nat->List (Nat×Nat)
 |0=>[]
 |e+1=>(e,1)::(e,0)::oO e
theorem t6:∀e,(oO e).length=2*e
 |0=>rfl
 |e+1=>by rw[oO,lC1,lC1,t6 e];lia
theorem fV:∀{e:Nat} {x:Nat×Nat},x∈oO e↔x.1<e/\x.2<=1
 |0,x=>by simp[oO]
 |e+1,x=>by
  rw[oO,aD,aD,fV (e:=e)];obtain⟨a,b⟩:=x;simp only[Prod.mk.injEq];lia
theorem jQ:∀e,(oO e).Nodup
 |0=>bj
 |e+1=>by
  rw[oO,aL,aL];refine⟨λh=>?_,λh=>?_,jQ e⟩
  ·rcases aD.mp h with h|h
   ·simp at h
   ·have:=(fV.mp h).1;simp at this
  ·have:=(fV.mp h).1;simp at this
theorem nZ:∀{E:df} {i:Nat} {row:List (Nat×Nat)} {x:Nat×Nat},E[i]?=Z row->(E.set i (row++[x])).flatten.Perm (x::E.flatten)
 |[],i,_,_,h=>by simp at h
 |a::E,0,row,x,h=>by
  simp at h;subst h;rw[List.set_cons_zero,cv,cv,bB];exact cc
 |a::E,i+1,row,x,h=>by
  have:=nZ (E:=E) (i:=i) (row:=row) (x:=x) (by simpa using h);rw[List.set_cons_succ,cv,cv];exact(List.Perm.append_left a this).trans cc
structure DI (m:Nat)(E:df)(e:Nat):Prop where
 len:E.length=m
 all:E.flatten.Perm (oO e)
 le:∀(i:Nat) (row:List (Nat×Nat)),E[i]?=some row->row.length<=4
theorem DI.start(m:Nat):DI m (aM m []) 0:=by
 refine⟨by simp,by simp[oO],λi a h=>?_⟩;rw[aP]at h;split at h
 ·cases h;simp
 ·cases h
theorem DI.tot{m:Nat}{E:df}{e:Nat}(d:DI m E e):Mi.tot E=2*e:=by
 unfold Mi.tot;rw[<- List.length_flatten,d.all.length_eq,t6]
theorem DI.join{m a c e:Nat}{E:df}{f h:List (Nat×Nat)}(d:DI m E e)(ha:E[a]? = some f)(k:f.length<4)(hb:(E.set a (f++[(e,0)]))[c]? = some h)(l:h.length<4):
  DI m ((E.set a (f++[(e,0)])).set c (h++[(e,1)])) (e+1):=by
 refine⟨by rw[aS,aS];exact d.len,?_,λj g b=>?_⟩
 ·exact(nZ hb).trans (((nZ ha).trans (d.all.cons _)).cons _)
 ·by_cases z:c=j
  ·subst z;rw[aG (gE1.mp hb).1]at b;cases b;simp;lia
  ·rw[gS1 z]at b;by_cases i:a=j
   ·subst i;rw[aG (gE1.mp ha).1]at b;cases b;simp;lia
   ·rw[gS1 i]at b;exact d.le j g b
theorem Ee{n b m i:Nat}{most:Int}{am U:cZ}{E:df}{Q:Fl×Ev×cZ->Prop}(s:HS n am U)(hb:am.length=b)(hn:n<=2^44)(w:EW b m E U)(d:DI m E i)(hi:i+1<m)(hm:m<=8)(he:∀(j:Nat) (row:List (Nat×Nat)),i+1<=j->E[j]?=some row->row=[])(q:∀K au,HS (n+1) am au->EW b m K au->DI m K (i+1)->(∀(j:Nat) (row:List (Nat×Nat)),i+2<=j->K[j]?=some row->row=[]) ->
   Q (.nx,[Z (.ref 0),Z (.int most),Z (.int m),Z (.ref (b+m)),Z (.int ((i+1:Nat):Int)),Y,Y,Y,Y,Y,Y,Y,Y],au)):
  W (gm [Z (.ref 0),Z (.int most),Z (.int m),Z (.ref (b+m)),Z (.int ((i+1:Nat):Int)),Y,Y,Y,Y,Y,Y,Y,Y] U) Q:=by
 have hbl:=s.len;have hp:=s.pos;have g:∀j,j<m -> ∃row,E[j]?=Z row:=λj l=>⟨_,gG1 (by rw[d.len];exact l)⟩
 let k:Nat->Bool:=λj=>decide ((E.getD j []).length<4)
 unfold gm fw;rw[c4];simp(implicitDefEqProofs:=J) only[mN,cV,mV,gC1,cm,cW,oS1,dg,c4,iw,kK,Kp,mP1,Option.join_some,aV,bg,cp,pQ,BG];rw[kC,Int.toNat_natCast];refine⟨gn (by lia),?_⟩;refine rr k (λj:Nat=>.int j) (λr=>∃x,r=[x,Z (.ref (b+m))]) O (af (i+1)) _ ⟨_,O⟩ ?_ ?_
 ·rintro j l r ⟨x,rfl⟩;have t:j<m:=by have:=aA.mp l;lia
  obtain⟨row,f⟩:=g j t;walk_at"w";refine rM w t ?_;walk_at"w";refine ee (xs:=row.map pD) (w.row j row f) ?_;walk_at"w";refine⟨?_,⟨_,O⟩,λ_=>trivial⟩;simp only[k,bE,f,Option.getD_some,lM1];rw[bM,al,al];lia
 ·rintro r' _;walk_at"w";have v:(List.range (i+1)).filter k≠[]:=by
   intro z;have F:∀(j:Nat) (row:List (Nat×Nat)),j<i+1->E[j]?=Z row->4<=row.length:=λj row l hr=>by
    have:=List.filter_eq_nil_iff.mp z j (aA.mpr l);simp only[k,bE,hr,Option.getD_some,al]at this;lia
   have:=yu (E:=E) (k:=i+1) (by rw[d.len];lia) F;have:=d.tot;lia
  generalize aq:(af (i+1)).filter k=L at v;have T:∀j∈L,j<i+1/\k j=M:=λj l=>by
   rw[<- aq,List.mem_filter]at l;exact⟨aA.mp l.1,l.2⟩
  have hLl:L.length<=8:=by
   rw[<- aq];have:=List.length_filter_le k (af (i+1));simp at this;lia
  refine⟨dz (by rw[lM1];lia),?_⟩;have wq:(Ob.lst (L.map λj:Nat=>D.int j)).und 0=M:=by rw[Ob.und];exact Mi.d2 λ_ _=>rfl
  have s1:HS n am (U++[.lst (L.map λj:Nat=>D.int j)]):=s.app1 wq;have P:HS n U (U++[.lst (L.map λj:Nat=>D.int j)]):=s.here.app1 wq;refine HD s1 (by lia) (xs:=L.map λj:Nat=>D.int j) (by rw[dX];rfl) (by lia) (by rw[lM1];lia) (by rw[lM1];exact List.length_pos_iff.mpr v) (λx R=>by obtain⟨y,_,rfl⟩:=b7.mp R;rfl) λx U2 R X ao l2=>?_;obtain⟨j,l,rfl⟩:=b7.mp R;obtain⟨hj1,C⟩:=T j l;obtain⟨row,f⟩:=g j (by lia);have V:row.length<4:=by
   simp only[k,bE,f,Option.getD_some,al]at C;exact C
  obtain⟨S,A⟩:=g (i+1) hi;have B:=he (i+1) S (nR1 _) A;subst B;have w2:EW b m E U2:=(w.over P (by lia)).over ao (by lia);have u:j≠i+1:=by lia
  walk_at"w";refine Ae (a:=j) (c:=i+1) (e:=i) X.shut w2 d.tot (by lia) hi hm f (by lia) (λS h=>by have:=d.le _ S h;lia) λN p=>?_;have H:N=[]:=by
   rw[gS1 u,A]at p;cases p;rfl
  subst H;have w3:=(w2.setRow (row:=row++[(i,0)]) (show j<m by lia)).setRow (row:=[]++[(i,1)]) hi;have s3:=(X.set (i:=b+j) (o:=eE (row++[(i,0)])) (by lia) gu).set (i:=b+(i+1)) (o:=eE ([]++[(i,1)])) (by lia) gu;refine q _ _ s3 w3 (d.join f V p (by simp)) λj' G t I=>?_;rw[gS1 (by lia),gS1 (by lia)]at I;exact he j' G (by lia) I
theorem Fs{n b m e:Nat}{most:Int}{C U:cZ}{E:df}{y A T S:Option D}{Q:Fl×Ev×cZ->Prop}(s:HS n C U)(hb:C.length=b)(hn:n<=2^44)(w:EW b m E U)(d:DI m E e)(he:e<=100)(au:0<m)(hm:m<=8)(q:∀N I L H F,HS (n+2) C I->EW b m N I->DI m N L->L<=e+1 ->
   Q (.nx,[Z (.ref 0),Z (.int most),Z (.int m),Z (.ref (b+m)),y,A,H,F,Y,Y,Y,Y,Y],I)):
  W (gl [Z (.ref 0),Z (.int most),Z (.int m),Z (.ref (b+m)),y,A,T,S,Y,Y,Y,Y,Y] U) Q:=by
 have wq:=s.len;have hp:=s.pos;have f:∀j,j<m -> ∃row,E[j]?=Z row:=λj R=>⟨_,gG1 (by rw[d.len];exact R)⟩;unfold gl;refine dW (λr V=>∃(a c:Nat),a<m/\c<m/\HS (n+2) C V/\EW b m E V/\r=[Z (.ref 0),Z (.int most),Z (.int m),Z (.ref (b+m)),y,A,Z (.int (a:Nat)),Z (.int (c:Nat)),Y,Y,Y,Y,Y]) ?_ ?_
 ·walk_at"w";refine draw_W s (by lia) (by lia) (by lia) λa U1 aq am l1 B=>?_;walk_at"w";refine draw_W aq (by lia) (by lia) (by lia) λc U2 u G l2 hc=>?_;walk_at"w";exact⟨a,c,by lia,by lia,u,(w.over am (by lia)).over G (by lia),O⟩
 rintro r V ⟨a,c,B,hc,u,p,rfl⟩;obtain⟨t,k⟩:=f a B;obtain⟨K,x⟩:=f c hc;have e1:((a:Int) == (c:Int))=decide (a=c):=by
  rw[bM,beq_iff_eq,al];lia
 have ei:(if decide (a=c)=M then(1:Int)else 0)=((if a=c then 1 else 0:Nat):Int):=by
  by_cases z:a=c<;>simp[z]
 have l:Q (.nx,[Z (.ref 0),Z (.int most),Z (.int m),Z (.ref (b+m)),y,A,Z (.int (a:Nat)),Z (.int (c:Nat)),Y,Y,Y,Y,Y],V):=q E V e _ _ u p d (by lia);walk_at"w";refine rM p B ?_;walk_at"w";refine ee (xs:=t.map pD) (p.row a t k) ?_
 ((try walk_at"w");repeat(simp only[e1];try walk_at"w"))
 rw[ei,lM1];by_cases ao:t.length+(if a=c then 1 else 0)<4
 ·rw[ak (by rw[al];lia)];refine rM p hc ?_;walk_at"w";refine ee (xs:=K.map pD) (p.row c K x) ?_;walk_at"w";rw[lM1];by_cases c2:K.length<4
  ·rw [if_pos (by rw [decide_eq_true_eq];lia)];refine Ae (a:=a) (c:=c) (e:=e) u.shut p d.tot B hc hm k (by have:=d.le a t k;lia) (fun v h=>by have:=d.le _ v h;lia) fun v g=>?_;have X:v.length<4:=by
    by_cases z:a=c
    ·subst z;rw[aG (by rw[d.len];lia)]at g;cases g;rw[ak O]at ao;simp;lia
    ·rw[gS1 z,x]at g;cases g;lia
   have la:t.length<4:=by split at ao<;>lia
   have P:=(p.setRow (row:=t++[(e,0)]) (show a<m by lia)).setRow (row:=v++[(e,1)]) (show c<m by lia);have s3:=(u.set (i:=b+a) (o:=eE (t++[(e,0)])) (by lia) gu).set (i:=b+c) (o:=eE (v++[(e,1)])) (by lia) gu;exact q _ _ (e+1) _ _ s3 P (d.join k la g X) (by lia)
  ·rw[aj (by rw[al];lia)];exact l
 ·rw[aj (by rw[al];lia)]
  try walk_at"w"
  exact l
def At(R:df)(r d:Nat)(x:Nat×Nat):Prop:=∃row,R[r]?=Z row/\row[d]?=Z x
theorem At.mem{R:df}{r d:Nat}{x:Nat×Nat}(h:At R r d x):x∈R.flatten:=by
 obtain⟨a,h1,h2⟩:=h;exact cw.mpr ⟨a,gM1 h1,gM1 h2⟩
theorem xO{R:df}{x:Nat×Nat}(h:x∈R.flatten):∃p:Nat×Nat,At R p.1 p.2 x:=by
 obtain⟨a,h1,h2⟩:=cw.mp h;obtain⟨r,c⟩:=bm h1;obtain⟨d,b⟩:=bm h2;exact⟨(r,d),a,c,b⟩
theorem pf{α:Type}:∀{l:List α} {i j:Nat} {x:α},l.Nodup->l[i]?=Z x->l[j]?=Z x->i=j
 |[],i,j,x,_,h,_=>by simp at h
 |a::l,0,0,x,_,_,_=>rfl
 |a::l,0,j+1,x,n,h1,h2=>by
  simp at h1 h2;subst h1;exact absurd (gM1 h2) (aL.mp n).1
 |a::l,i+1,0,x,n,h1,h2=>by
  simp at h1 h2;subst h2;exact absurd (gM1 h1) (aL.mp n).1
 |a::l,i+1,j+1,x,n,h1,h2=>by
  exact congrArg (· + 1) (pf (i:=i) (j:=j) (x:=x) (aL.mp n).2 (by simpa using h1) (by simpa using h2))
theorem mU:∀{R:df} {r d b d':Nat} {x:Nat×Nat},R.flatten.Nodup->At R r d x->At R b d' x->r=b/\d=d'
 |[],r,d,b,d',x,_,⟨_,h,_⟩,_=>by simp at h
 |a::R,r,d,b,d',x,n,⟨row,h1,h2⟩,⟨row',h1',h2'⟩=>by
  rw[cv,bu]at n;cases r with
  |zero=>
   simp at h1;subst h1;cases b with
   |zero=>
    simp at h1';subst h1';exact⟨O,pf n.1 h2 h2'⟩
   |succ b=>
    have m1:x∈R.flatten:=cw.mpr ⟨row',gM1 (by simpa using h1'),gM1 h2'⟩;exact absurd O (n.2.2 x (gM1 h2) x m1)
  |succ r=>
   cases b with
   |zero=>
    simp at h1';subst h1';have m1:x∈R.flatten:=cw.mpr ⟨row,gM1 (by simpa using h1),gM1 h2⟩;exact absurd O (n.2.2 x (gM1 h2') x m1)
   |succ b=>
    obtain⟨e,c⟩:=mU (R:=R) n.2.1 ⟨row,by simpa using h1,h2⟩ ⟨row',by simpa using h1',h2'⟩;exact⟨by rw[e],c⟩
open Classical in
noncomputable def plc(R:df)(x:Nat×Nat):Nat×Nat:=if h:∃p:Nat×Nat,At R p.1 p.2 x then Classical.choose h else(0,0)
theorem qm{R:df}{x:Nat×Nat}(h:x∈R.flatten):At R (plc R x).1 (plc R x).2 x:=by
 have h':=xO h;unfold plc;rw[dif_pos h'];exact Classical.choose_spec h'
theorem EJ{R:df}{r d:Nat}{x:Nat×Nat}(n:R.flatten.Nodup)(h:At R r d x):plc R x=(r,d):=by
 obtain⟨b,a⟩:=mU n (qm h.mem) h;exact Prod.ext b a
noncomputable def opp(x:Nat×Nat):Nat×Nat:=(x.1,1-x.2)
def wN(R:df):df:=R.map λrow=>row.map λx=>plc R (opp x)
structure Gw (m:Nat)(w:df):Prop where
 len:w.length=m
 le:∀row∈w,row.length<=4
 back:∀r d p,At w r d p->At w p.1 p.2 (r,d)
 ne:∀r d p,At w r d p->p≠(r,d)
theorem pY{R:df}{r d:Nat}{p:Nat×Nat}:At (wN R) r d p ↔ ∃x,At R r d x/\p=plc R (opp x):=by
 unfold At wN;constructor
 ·rintro⟨a,h1,h2⟩;rw[gP1]at h1;obtain⟨b,e,rfl⟩:=oM1.mp h1;rw[gP1]at h2;obtain⟨x,c,rfl⟩:=oM1.mp h2;exact⟨x,⟨b,e,c⟩,O⟩
 ·rintro⟨x,⟨a,h1,h2⟩,rfl⟩;exact⟨a.map λx=>plc R (opp x),by rw[gP1,h1];rfl,by rw[gP1,h2];rfl⟩
theorem Bp{m e:Nat}{R:df}(d:DI m R e):Gw m (wN R):=by
 have n:R.flatten.Nodup:=d.all.nodup_iff.mpr (jQ e);have opp_mem:∀x,x∈R.flatten->opp x∈R.flatten/\opp (opp x)=x/\opp x≠x:=λx c=>by
  have:=fV.mp (d.all.mem_iff.mp c);obtain⟨a,b⟩:=x;simp at this;refine⟨d.all.mem_iff.mpr (fV.mpr ⟨this.1,by simp[opp]⟩),?_,?_⟩
  ·simp[opp];lia
  ·simp[opp];lia
 refine⟨by unfold wN;rw[lM1];exact d.len,?_,?_,?_⟩
 ·intro g q;obtain⟨r,h,rfl⟩:=b7.mp q;obtain⟨i,hi⟩:=bm h;rw[lM1];exact d.le i r hi
 ·intro r o p f;obtain⟨x,c,rfl⟩:=pY.mp f;obtain⟨h1,h2,_⟩:=opp_mem x c.mem;exact pY.mpr ⟨opp x,qm h1,by rw[h2,EJ n c]⟩
 ·intro r o p f z;obtain⟨x,c,rfl⟩:=pY.mp f;obtain⟨h1,_,l⟩:=opp_mem x c.mem;have k:=qm h1;rw[z]at k;obtain⟨g,a1,a2⟩:=c;obtain⟨j,b1,b2⟩:=k;rw[a1]at b1;cases b1;rw[a2]at b2;exact l (Option.some.inj b2).symm
theorem zh{f:Nat×Nat->D}:∀{a b:List D},a.Perm b -> ∀l:List (Nat×Nat),b=l.map f -> ∃c:List (Nat×Nat),a=c.map f/\c.Perm l:=by
 intro a b h
 induction h with
 |nil=>intro l e;exact⟨[],O,by cases l with|nil=>exact .refl _|cons _ _=>simp at e⟩
 |cons x _ ih=>
  intro l e;cases l with
  |nil=>simp at e
  |cons y l=>
   simp at e;obtain⟨c,d,p⟩:=ih l e.2;exact⟨y::c,by rw[mP1,e.1,d],p.cons y⟩
 |swap x y o=>
  intro l e
  match l,e with
  |a::b::l,e=>
   simp at e;exact⟨b::a::l,by rw[mP1,mP1,e.1,e.2.1,e.2.2],List.Perm.swap _ _ _⟩
 |trans _ _ i g=>
  intro l e;obtain⟨k,d,j⟩:=g l e;obtain⟨n,m,p2⟩:=i k d;exact⟨n,m,p2.trans j⟩
theorem oY:∀(k n:Nat),gY n (k+1)=gY n k++[.ref (n+k)]
 |0,n=>rfl
 |k+1,n=>by
  rw[gY,oY k (n+1),gY,bg,show n+1+k=n+(k+1) by lia]
theorem yU{n k m:Nat}(h:n+k<=m):D.unds m (gY n k)=M:=by
 induction k generalizing n with
 |zero=>rfl
 |succ k ih=>rw[gY,D.unds,ih (by lia),D.und];simp;lia
theorem Ax{U:cZ}{m:Nat}:EW U.length m (aM m []) (U++(aM m (.lst [])++[.lst (gY U.length m)])):=by
 refine⟨by simp,λi a h=>?_,?_⟩
 ·have hi:i<m:=by have:=(gE1.mp h).1;simpa using this
  rw[aP,ak hi]at h;cases h;rw[kM,gL1 (by simpa using hi),aP,ak hi];rfl
 ·rw[kM,gR1 (by simp)];simp
structure pR (b:Nat)(ks:List Nat)(R:df)(V:cZ):Prop where
 len:ks.length=R.length
 at_:∀(i k:Nat) (row:List (Nat×Nat)),ks[i]?=some k->R[i]?=some row->V[k]?=some (eE row)
 low:∀k∈ks,b<=k
theorem pR.over{n b:Nat}{ks:List Nat}{R:df}{U V:cZ}(e:pR b ks R U)(s:HS n U V)(c:0<b):pR b ks R V:=
 ⟨e.len,λi k a h1 h2=>s.at (e.at_ i k a h1 h2) (by have:=e.low k (gM1 h1);lia),e.low⟩
noncomputable def sy(k:Nat):D:=.ref k
theorem pB:∀{R E:df},R.length=E.length->(∀(i:Nat) (r e:List (Nat×Nat)),R[i]?=Z r->E[i]?=Z e->r.Perm e)->R.flatten.Perm E.flatten
 |[],[],_,_=>.refl _
 |[],_::_,h,_=>by simp at h
 |_::_,[],h,_=>by simp at h
 |r::R,e::E,h,q=>by
  rw[cv,cv];exact(q 0 r e O O).append (pB (by simpa using h) λi a b h1 h2=>q (i+1) a b (by simpa using h1) (by simpa using h2))
theorem C4{n b m e:Nat}{K U:cZ}{E:df}{Q:List D×Ev×cZ->Prop}(s:HS n K U)(hb:K.length=b)(hn:n<=2^44)(w:EW b m E U)(d:DI m E e)(hm:m<=8)(q:∀ks R V x,HS (n+40) K V->pR b ks R V->DI m R e->(∀k∈ks,k<V.length)->Q (ks.map sy,[x,some (.ref 0)],V)):
  W (en [(b+m,gY b m)] (gN 0) dI (dA (mN (cY 2 dL) (cV (mV 1) (cV (mV 0) cW)))) (gY b m) [Y,Z (.ref 0)] U) Q:=by
 have aq:=s.pos;have wq:=s.len;have f:∀j,j<m -> ∃row,E[j]?=Z row:=λj l=>⟨_,gG1 (by rw[d.len];exact l)⟩;refine ip (λi u r S=>∃ks R x,i<=m/\HS (n+5*i) K S/\EW b m E S/\u=ks.map sy/\r=[x,Z (.ref 0)]/\ks.length=i/\pR b ks R S/\(∀(j:Nat) (r e:List (Nat×Nat)),R[j]?=Z r->E[j]?=Z e->r.Perm e)/\(∀k∈ks,k<S.length)) (gY b m) 0 [] _ _ ⟨[],[],Y,by lia,s,w,O,O,O,⟨O,λi k row h1=>by simp at h1,λk h=>by simp at h⟩,λj r e h1=>by simp at h1,λk h=>by simp at h⟩ ?_ ?_ ?_
 ·rintro i u r S ⟨ks,R,x,_,_,H,_⟩;exact fO H.ends
 ·rintro i dd N u r S ⟨ks,R,x,hi,C,H,rfl,rfl,h,a,am,y⟩;have p:=(gE1.mp N).1;rw[hR]at p;rw[km p]at N;cases N;rw[bI]at *
  obtain⟨row,g⟩:=f i p;have hrl:=d.le i row g;walk_at"w";refine uI C (by lia) (H.row i row g) (by rw[lM1];lia) (Mi.d2 λ_ _=>rfl) λk ys V T o hkl F L=>?_;rw[lM1]at T o;obtain⟨c,rfl,au⟩:=zh L row O;have hSl:=C.len;have G:=a.over o (by lia);refine⟨ks++[k],R++[c],_,by lia,T.more (by lia),H.over o (by lia),by simp[sy],O,by simp[h],⟨by simp[a.len],λj B ao h1 h2=>?_,λB A=>?_⟩,λj ao X h1 h2=>?_,λB A=>?_⟩
  ·by_cases l:j<ks.length
   ·rw[gL1 l]at h1;rw[gL1 (by rw[<- a.len];exact l)]at h2;exact G.at_ j B ao h1 h2
   ·have v:j=ks.length:=by have:=(gE1.mp h1).1;simp at this;lia
    subst v;rw[cu]at h1;rw[a.len,cu]at h2;cases h1;cases h2;exact F
  ·rcases aE.mp A with z|z
   ·exact a.low B z
   ·simp at z;lia
  ·by_cases l:j<R.length
   ·rw[gL1 l]at h1;exact am j ao X h1 h2
   ·have v:j=R.length:=by have:=(gE1.mp h1).1;simp at this;lia
    subst v;rw[cu]at h1;cases h1;rw[<- a.len,h,g]at h2;cases h2;exact au
  ·have hv2:=o.len;show B<V.length;rcases aE.mp A with z|z
   ·have:=y B z;lia
   ·simp at z;subst z;exact(gE1.mp F).1
 ·rintro xs r S ⟨ks,R,x,hi,C,H,P,rfl,h,a,am,y⟩;rw[cp]at P;subst P;rw[bI,hR]at C h;have t:R.length=E.length:=by rw[<- a.len,h,d.len]
  have dR:DI m R e:=⟨by rw[t];exact d.len,(pB t am).trans d.all,λj row l=>by
   obtain⟨c,I⟩:=f j (by rw[<- d.len,<- t];exact(gE1.mp l).1);rw[(am j row c l I).length_eq];exact d.le j c I⟩
  exact q ks R S x (C.more (by lia)) a dR y
theorem DV{m:FA}{r:Ev}{S:cZ}{Q:A5×cZ->Prop}{d:D}{S1:cZ}(h:m r S=Z ([d],S1))(q:sW S1 d λp=>Q (⟨C3 0 p.1,p.2⟩,S1)):W (CS m r S) Q:=by
 unfold CS;rw[h,oS1];dsimp only;rw[c4];exact W.mono (show W (dw S1 d) _ from q) λz w=>dg.mpr w
theorem BK{F:List (TK×D)}{k:TK}{v:D}{n:Nat}(h:∀p∈F,p.2.und n=M)(hv:v.und n=M):∀p∈gz F k v,p.2.und n=M:=by
 intro p a;unfold gz at a;split at a
 ·obtain⟨q,b,rfl⟩:=b7.mp a;split
  ·exact hv
  ·exact h q b
 ·rcases aE.mp a with z|z
  ·exact h p z
  ·simp at z;subst z;exact hv
theorem Er{V:cZ}{pl k r:Nat}{F:List (TK×D)}{R:df}{row:List (Nat×Nat)}{I B E H K G C u ao A:Option D}{Q:Fl×Ev×cZ->Prop}(N:R.flatten.Nodup)(hr:R[r]? = some row)(hpl:pl<V.length)(hk:V[k]? = some (eE row))(n:k≠pl)(hF:F.length+row.length<500)(wq:∀p∈F,p.2.und 0=true)(o:∀b d x,b<r->At R b d x->dH F (se x)=some (pD (b,d)))(q:∀c f g,c.length<=F.length+row.length->(∀p∈c,p.2.und 0=true)->(∀b d x,b<r+1->At R b d x->dH c (se x)=some (pD (b,d))) ->
   Q (.nx,[I,B,E,H,Z (.int (r:Nat)),K,G,C,u,Z (.ref pl),Z (.ref k),f,g],V.set pl (dO c))):
  W (ij [I,B,E,H,Z (.int (r:Nat)),K,G,C,u,Z (.ref pl),Z (.ref k),ao,A] (V.set pl (dO F))) Q:=by
 unfold ij eM;rw[c4];refine DV (d:=.ref k) (S1:=V.set pl (dO F)) O ?_;refine ee (xs:=row.map pD) (by rw[gS1 n.symm];exact hk) ?_;refine fg (λi b S=>∃c f g,i<=row.length/\c.length<=F.length+i/\(∀p∈c,p.2.und 0=M)/\S=V.set pl (dO c)/\b=[I,B,E,H,Z (.int (r:Nat)),K,G,C,u,Z (.ref pl),Z (.ref k),f,g]/\(∀b d x,b<r->At R b d x->dH c (se x)=Z (pD (b,d)))/\(∀d x,d<i->row[d]?=Z x->dH c (se x)=Z (pD (r,d)))) _ 0 _ _ ⟨F,_,_,by lia,by lia,wq,O,O,o,λd x t=>by lia⟩ ?_ ?_ ?_
 ·rintro i b S ⟨c,_,_,_,_,_,rfl,_⟩;exact fO (by rw[gS1 n.symm];exact hk)
 ·rintro i dd t b S ⟨c,am,w,hi,L,h,rfl,rfl,h1,h2⟩;dsimp only at t;rw[mQ,gP1]at t;obtain⟨z,aq,rfl⟩:=oM1.mp t;obtain⟨x,l,rfl⟩:=oM1.mp aq;have X:=(gE1.mp l).1;rw[bI]at *
  walk_at"w";unfold kq;walk_at"w";refine Gy (F:=c) (by rw[aG hpl]) wd (by lia) ?_;have m:At R r i x:=⟨row,hr,l⟩;refine⟨gz c (se x) (pD (r,i)),_,_,by lia,by have:=BM (k:=se x) (v:=pD (r,i)) (a:=c);lia,BK h O,by rw[List.set_set];rfl,O,λb d y s j=>?_,λd y U j=>?_⟩
  ·rw[tf];by_cases e:se y=se x
   ·have:=vK e;subst this;have:=(mU N j m).1;lia
   ·rw[aj e];exact h1 b d y s j
  ·rw[tf];by_cases e:se y=se x
   ·have:=vK e;subst this;have:=(mU N ⟨row,hr,j⟩ m).2;subst this;rw[ak O]
   ·rw[aj e];by_cases z:d<i
    ·exact h2 d y z j
    ·have:d=i:=by lia
     subst this;rw[l]at j;cases j;exact absurd O e
 ·rintro b S ⟨c,am,w,hi,L,h,rfl,rfl,h1,h2⟩;rw[mP,lM1,bI]at L h2;refine q c _ _ L h λb d x s l=>?_;by_cases z:b<r
  ·exact h1 b d x z l
  ·have:b=r:=by lia
   subst this;obtain⟨P,T,au⟩:=l;rw[hr]at T;cases T;exact h2 d x (gE1.mp au).1 au
def dQ(w:df):D:=.tup (w.map λrow=>.tup (row.map pD))
structure fH (m:Nat)(w:df):Prop where
 len:w.length=m
 le:∀row∈w,row.length<=4
 to:∀row∈w,∀e∈row,∃r,w[e.1]?=some r/\e.2<r.length
theorem fB(w:df):(dQ w).und 0=M:=by
 unfold dQ;rw[D.und];exact d2 λa _=>by rw[D.und];exact d2 λ_ _=>rfl
theorem Gw.ok{m:Nat}{w:df}(g:Gw m w):fH m w:=by
 refine⟨g.len,g.le,λb i e c=>?_⟩;obtain⟨r,h1⟩:=bm i;obtain⟨d,h2⟩:=bm c;obtain⟨a,f,h⟩:=g.back r d e ⟨b,h1,h2⟩;exact⟨a,f,(gE1.mp h).1⟩
theorem Gi{F:List (TK×D)}{n:Nat}(h:∀p∈F,p.2.und n=M):(Mi.dO F).und n=M:=by
 unfold Mi.dO;split
 ·rfl
 ·rw[Ob.und];exact Mi.d2 λp a=>h p a
theorem Ld{R:df}:dQ (wN R) = .tup (R.map λa=>.tup (a.map λx=>pD (plc R (opp x)))):=by
 unfold dQ wN;simp only[bq]
 congr 1
 apply cj;intro a _;simp only[Function.comp_apply,bq];rfl
theorem Gc{c m:Nat}{most:Int}{U S:cZ}{Q:Fl×Ev×cZ->Prop}(y:HS c U S)(hc:c<=2^41)(t:S.length=U.length)(K:0<m)(wq:m<=8)(k:FS)(q:∀E e a n l h V,HS (c+40) U V->EW U.length m E V->DI m E e->W (k [some (.ref 0),some (.int most),some (.int (m:Nat)),some (.ref (U.length+m)),a,n,l,h,none,none,none,none,none] V) Q):
  W (c7 (de (dN 1 [] (uj (cV (mV 2) cW)) (gN 0) dI (dA (d8 cW))) (gN 3))
   (c7 (eM (DL (cV (mC (D.int 1)) (cV (mV 2) cW))) (gN 4) gm)
   (c7 (eM (uj (cV (mN (cY 2 c6) (cV (mV 0) (cV (mC (D.int 4)) cW))) cW)) (gN 5) gl) k))
   [Z (.ref 0),Z (.int most),Z (.int (m:Nat)),Y,Y,Y,Y,Y,Y,Y,Y,Y,Y] S) Q:=by
 have X:=y.pos;refine dW (λr V=>HS c U V/\EW U.length m (aM m []) V/\r=[Z (.ref 0),Z (.int most),Z (.int (m:Nat)),Z (.ref (U.length+m)),Y,Y,Y,Y,Y,Y,Y,Y,Y]) ?_ ?_
 ·walk_at"w";refine⟨gn (by lia),?_⟩;rw[Int.toNat_natCast];refine ip (λi v r V=>v=gY U.length i/\V=S++aM i (.lst []) /\ ∃x,r=[x]) (gZ 0 m) 0 [] _ _ ⟨O,by simp,_,O⟩ (λ_ _ _ _ _=>rfl) ?_ ?_
  ·rintro i d s v r V ⟨rfl,rfl,x,rfl⟩;walk_at"w";rw[bI];refine⟨?_,?_,_,O⟩
   ·rw[oY,t,lR1]
   ·rw[List.replicate_succ']
  ·rintro xs r V ⟨e,rfl,_⟩;rw[cp,bI,eR]at e;subst e;rw[bI,eR];walk_at"w";rw[hR];refine⟨dz (by lia),y.app λo am=>?_,?_,?_⟩
   ·rcases aE.mp am with z|z
    ·rw[List.eq_of_mem_replicate z];rfl
    ·simp at z;subst z;rw[Ob.und];exact yU (by simp[t])
   ·have:=Ax (U:=S) (m:=m);rw[t]at this;exact this
   ·simp[t]
 rintro r V ⟨L,ao,rfl⟩;refine dW (λr V=>∃E a,HS (c+20) U V/\EW U.length m E V/\DI m E (m-1)/\r=[Z (.ref 0),Z (.int most),Z (.int (m:Nat)),Z (.ref (U.length+m)),a,Y,Y,Y,Y,Y,Y,Y,Y]) ?_ ?_
 ·walk_at"w";refine⟨AU (by decide) (by decide),gn (by lia),?_⟩;refine fg (λi r V=>i<=m-1 /\ ∃E a,HS (c+i) U V/\EW U.length m E V/\DI m E i/\(∀(j:Nat) (p:List (Nat×Nat)),i+1<=j->E[j]?=Z p->p=[])/\r=[Z (.ref 0),Z (.int most),Z (.int (m:Nat)),Z (.ref (U.length+m)),a,Y,Y,Y,Y,Y,Y,Y,Y]) _ 0 _ _ ?_ (λ_ _ _ _=>rfl) ?_ ?_
  ·refine⟨by lia,_,Y,L,ao,DI.start m,λj p _ B=>?_,O⟩;rw[aP]at B;split at B
   ·cases B;rfl
   ·cases B
  ·rintro i d s r V ⟨hi,E,a,f,w,g,A,rfl⟩;have b:=(gE1.mp s).1;rw [eR] at b;have C:d = .int ((i+1:Nat):Int):=by
    rw[q9,gP1,cf b]at s;simp at s;rw[<- s]
    push_cast
    congr 1
    lia
   subst C;rw[bI]at *
   walk_at"w";refine Ee f O (by lia) w g (by lia) (by lia) A λF au s' G d' u=>?_;exact⟨O,by lia,F,_,s',G,d',u,O⟩
  ·rintro r V ⟨hi,E,a,f,w,g,A,rfl⟩;rw[eR]at *
   have R:0+((m:Int)-1).toNat=m-1:=by lia
   rw[R]at f g;exact⟨O,E,_,f.more (by lia),w,g,O⟩
 rintro r V ⟨E,a,f,w,g,rfl⟩;refine dW (λr V=>∃E e a n l h,HS (c+40) U V/\EW U.length m E V/\DI m E e/\r=[Z (.ref 0),Z (.int most),Z (.int (m:Nat)),Z (.ref (U.length+m)),a,n,l,h,Y,Y,Y,Y,Y]) ?_ ?_
 ·walk_at"w";refine draw_W f (by lia) (by lia) (by lia) λk V1 y H t aq=>?_;walk_at"w";have P:=f.len;refine⟨gn (by lia),?_⟩;rw[Int.toNat_natCast];refine fg (λi r V=>i<=k /\ ∃E e a n l h,HS (c+21+2*i) U V/\EW U.length m E V/\DI m E e/\e<=8+i/\r=[Z (.ref 0),Z (.int most),Z (.int (m:Nat)),Z (.ref (U.length+m)),a,n,l,h,Y,Y,Y,Y,Y]) _ 0 _ _ ⟨by lia,E,m-1,_,_,_,_,y,w.over H (by lia),g,by lia,O⟩ (λ_ _ _ _=>rfl) ?_ ?_
  ·rintro i d s r V ⟨hi,E,e,a,n,l,h,f,w,g,A,rfl⟩;have b:=(gE1.mp s).1;rw[eR]at b;rw[bI]at *
   walk_at"w";refine Fs f O (by lia) w g (by lia) K (by lia) λF au I N T s' G d' u=>?_;exact⟨O,by lia,F,I,_,_,_,_,s',G,d',by lia,O⟩
  ·rintro r V ⟨hi,E,e,a,n,l,h,f,w,g,A,rfl⟩;rw[eR,bI]at *
   exact⟨O,E,e,_,_,_,_,f.more (by lia),w,g,O⟩
 rintro r V ⟨E,e,a,n,l,h,f,w,g,rfl⟩;exact q E e a n l h V f w g
theorem GT{c most:Nat}{B U:cZ}{Q:D×cZ->Prop}(s:HS c B U)(hc:c<=2^40)(hm0:0<most)(hm8:most<=8)(q:∀m w U',0<m->m<=most->fH m w->HS (c+200) B U'->HS (c+200) U U'->U'.length=U.length->Q (dQ w,U')):W (cY 2 gE [.ref 0,.int most] U) Q:=by
 have hp:=s.pos;have hbl:=s.len;refine tV (c':=c+200) O O s ?_;have s0:HS c U U:=s.here;unfold gE;refine j3 ?_;unfold ox;refine dW (λr S=>∃m,0<m/\m<=most/\HS (c+1) U S/\S.length=U.length/\r=[Z (.ref 0),Z (.int most),Z (.int (m:Nat)),Y,Y,Y,Y,Y,Y,Y,Y,Y,Y]) ?_ ?_
 ·walk_at"w";refine draw_W s0 (by lia) (by lia) (by lia) λk U1 s1 _ l1 A=>?_;walk_at"w";exact⟨k+1,by lia,by lia,s1,l1,by simp[Int.add_comm]⟩
 rintro r S ⟨m,m0,mm,s1,l1,rfl⟩;refine Gc s1 (by lia) l1 m0 (by lia) _ λE e L x5 x6 x7 V sE w dE=>?_;refine dW (λr V=>∃ks R L x5 x6 x7 h,HS (c+100) U V/\pR U.length ks R V/\DI m R e/\(∀k∈ks,k<h)/\U.length<=h/\V.length=h+1/\V[h]?=Z (.lst (ks.map sy))/\r=[Z (.ref 0),Z (.int most),Z (.int (m:Nat)),Z (.ref (U.length+m)),L,x5,x6,x7,Z (.ref h),Y,Y,Y,Y]) ?_ ?_
 ·walk_at"w";refine ee w.ends ?_;refine C4 sE O (by lia) w dE (by lia) λks R V2 x s2 g u am=>?_;walk_at"w";have hl2:=s2.len;refine⟨dz (by rw[lM1,g.len,u.len];lia),ks,R,_,_,_,_,V2.length,(s2.more (by lia)).app λo N=>?_,⟨g.len,λi k row h1 h2=>?_,g.low⟩,u,am,hl2,by simp,by rw[cu],O⟩
  ·simp at N;subst N;rw[Ob.und];refine Mi.d2 λk A=>?_;have:=am k A;simp[sy,D.und];lia
  ·have:=g.at_ i k row h1 h2;rw[gL1 (gE1.mp this).1];exact this
 rintro r V ⟨ks,R,L,x5,x6,x7,h,sV,A,u,am,hdp,hVl,v,rfl⟩;have nd:R.flatten.Nodup:=u.all.nodup_iff.mpr (jQ e);refine dW (λr V1=>V1=V++[.dct []]/\r=[Z (.ref 0),Z (.int most),Z (.int (m:Nat)),Z (.ref (U.length+m)),L,x5,x6,x7,Z (.ref h),Z (.ref V.length),Y,Y,Y]) ?_ ?_
 ·((try walk_at"w");repeat(simp only[pj];try walk_at"w"))
 rintro r V1 ⟨rfl,rfl⟩;generalize I:V++[Ob.dct []]=V1;have hpl:V.length<V1.length:=by rw[<- I];simp
 have sV1:HS (c+100) U V1:=by rw[<- I];exact sV.app1 O
 have j:∀(i:Nat) (o:Ob),V[i]?=Z o->V1[i]?=Z o:=λi o hi=>by rw[<- I,gL1 (gE1.mp hi).1];exact hi
 have P:V1=V1.set V.length (Mi.dO []):=by
  have:V1[V.length]?=Z (Mi.dO []):=by rw[<- I,cu];rfl
  obtain⟨hl,hx⟩:=gE1.mp this;rw[<- hx,List.set_getElem_self]
 refine dW (λr V2=>∃F L T aq X,V2=V1.set V.length (Mi.dO F)/\(∀C d x,At R C d x->dH F (se x)=Z (pD (C,d)))/\(∀p∈F,p.2.und 0=M)/\r=[Z (.ref 0),Z (.int most),Z (.int (m:Nat)),Z (.ref (U.length+m)),L,x5,x6,x7,Z (.ref h),Z (.ref V.length),T,aq,X]) ?_ ?_
 ·unfold eM;rw[c4];refine DV (d:=.ref h) (S1:=V1) O ?_;refine ee (j h _ v) ?_;refine fg (λi r V2=>∃F L T aq X,i<=m/\F.length<=4*i/\V2=V1.set V.length (Mi.dO F)/\(∀C d x,C<i->At R C d x->dH F (se x)=Z (pD (C,d)))/\(∀p∈F,p.2.und 0=M)/\r=[Z (.ref 0),Z (.int most),Z (.int (m:Nat)),Z (.ref (U.length+m)),L,x5,x6,x7,Z (.ref h),Z (.ref V.length),T,aq,X]) _ 0 _ _ ⟨[],_,_,_,_,by lia,by simp,P,λC d x hr=>by lia,λp hp=>by simp at hp,O⟩ ?_ ?_ ?_
  ·rintro i r V2 ⟨F,_,_,_,_,_,_,rfl,_⟩;exact fO (by rw[gS1 (by lia)];exact j h _ v)
  ·rintro i dd hd r V2 ⟨F,y4,y10,y11,y12,hi,hF,rfl,h1,hu,rfl⟩;dsimp only at hd;rw[mQ,gP1]at hd;obtain⟨z,hz,rfl⟩:=oM1.mp hd;obtain⟨k,t,rfl⟩:=oM1.mp hz;have H:=(gE1.mp t).1;rw[bI]at *
   obtain⟨row,f⟩:∃row,R[i]?=some row:=⟨_,gG1 (by rw[<- A.len];exact H)⟩;have him:i<m:=by rw[<- u.len,<- A.len];exact H
   have hkd:=am k (gM1 t);have hrl:=u.le i row f
   ((try walk_at"w");repeat(simp only[sy];try walk_at"w"))
   refine Er (r:=i) nd f hpl (j k _ (A.at_ i k row t f)) (by lia) (by lia) hu h1 λF' o12 o13 hl hu' h1'=>?_;exact⟨O,F',_,_,_,_,by lia,by lia,O,h1',hu',O⟩
  ·rintro r V2 ⟨F,y4,y10,y11,y12,hi,hF,rfl,h1,hu,rfl⟩;rw[mP,lM1,bI]at h1;refine⟨O,F,_,_,_,_,O,λC d x hx=>h1 C d x ?_ hx,hu,O⟩;obtain⟨row,e1,_⟩:=hx;rw[A.len];exact(gE1.mp e1).1
 rintro r V2 ⟨F,y4,y10,y11,y12,rfl,hF,hu,rfl⟩;generalize au:V1.set V.length (Mi.dO F)=V2;have sV2:HS (c+100) U V2:=by rw[<- au];exact sV1.set (by lia) (Gi λp hp=>eQ (hu p hp))
 have n:∀(i:Nat) (o:Ob),V[i]?=Z o->V2[i]?=Z o:=λi o hi=>by
  rw[<- au,gS1 (by have:=(gE1.mp hi).1;lia)];exact j i o hi
 have ao:V2[V.length]?=Z (Mi.dO F):=by rw[<- au,aG hpl]
 have hmem:∀x∈R.flatten,opp x∈R.flatten:=λx hx=>by
  have:=fV.mp (u.all.mem_iff.mp hx);exact u.all.mem_iff.mpr (fV.mpr ⟨this.1,by simp[opp]⟩)
 walk_at"w";refine ee (S:=V2) (n h _ v) ?_;refine ip (λi acc r S=>∃G x,S=V2++G/\(∀o∈G,o.und 0=M)/\r=[x,Z (.ref V.length)]/\acc=(R.take i).map λrow=>D.tup (row.map λx=>pD (plc R (opp x)))) (ks.map sy) 0 [] _ _ ⟨[],Y,by simp,λo N=>by simp at N,O,O⟩ ?_ ?_ ?_
 ·rintro i acc r S ⟨G,x,rfl,_⟩;exact fO (by rw[gL1 (gE1.mp (n h _ v)).1];exact n h _ v)
 ·rintro i d hd acc r S ⟨G,x,rfl,hG,rfl,rfl⟩;rw[gP1]at hd;obtain⟨k,t,rfl⟩:=oM1.mp hd;have H:=(gE1.mp t).1;obtain⟨row,f⟩:∃row,R[i]?=some row:=⟨_,gG1 (by rw[<- A.len];exact H)⟩;have hrl:=u.le i row f;have g:=n k _ (A.at_ i k row t f);have hk3:(V2++G)[k]?=Z (.lst (row.map pD)):=by rw[gL1 (gE1.mp g).1];exact g
  ((try walk_at"w");repeat(simp only[sy];try walk_at"w"))
  refine ee hk3 ?_;refine s9 (λx=>pD (plc R (opp x))) (λr=>∃x y,r=[x,y,Z (.ref V.length)]) (fO hk3) row _ ⟨_,_,O⟩ ?_ ?_
  ·rintro y hy r ⟨a,b,rfl⟩;rw[pD];walk_at"w";have hy2:=(fV.mp (u.all.mem_iff.mp (cw.mpr ⟨row,gM1 f,hy⟩)));rw[show((1:Int)-(y.2:Int))=((1-y.2:Nat):Int) by lia];have hopp:=hmem y (cw.mpr ⟨row,gM1 f,hy⟩);have wq:=hF _ _ _ (qm hopp);refine GA (F:=F) (k:=se (opp y)) (by rw[gL1 (gE1.mp ao).1];exact ao) (wd (e:=opp y)) wq ?_;exact⟨O,O,_,_,O⟩
  ·rintro C _;walk_at"w";refine⟨dz (by rw[lM1];lia),?_⟩;refine ee (xs:=row.map λx=>pD (plc R (opp x))) (by rw[<- bB,<- lA1,dX];rfl) ?_;refine⟨G++[Ob.lst (row.map λx=>pD (plc R (opp x)))],_,O,λo N=>?_,O,?_⟩
   ·rcases aE.mp N with z|z
    ·exact hG o z
    ·simp at z;subst z;rw[Ob.und];exact Mi.d2 λ_ _=>rfl
   ·rw[bI,b9,f];simp
 ·rintro xs r S ⟨G,x,rfl,hG,rfl,e1⟩;rw[cp,bI,lM1,A.len,bS]at e1;subst e1;walk_at"w";have hRl:=u.len;refine⟨dz (by rw[lM1];lia),?_⟩;refine ee (xs:=R.map λrow=>D.tup (row.map λx=>pD (plc R (opp x)))) (by rw[<- bB,<- lA1,dX];rfl) ?_;have e2:=Ld (R:=R);have K:D.unds 0 (R.map λrow=>D.tup (row.map λx=>pD (plc R (opp x))))=M:=Mi.d2 λrow _=>by rw[D.und];exact Mi.d2 λ_ _=>rfl
  refine⟨(sV2.app λo N=>?_).more (by lia),by rw[D.und];exact K,λU' a b l=>?_⟩
  ·rcases aE.mp N with z|z
   ·exact gA (bf _) (hG o z)
   ·simp at z;subst z;rw[Ob.und];exact fI K
  ·rw[<- e2];exact q m _ U' m0 mm (Bp u).ok a b l
theorem kH{w:df}{S:cZ}:d4 (dQ w) S=Z (.int w.length,S):=by simp[dQ,d4,dw]
noncomputable def DP(ws:List Wk)(rm:Nat):Nat:=(ws.filter λu=>u.1 == rm).length
noncomputable def pt(b:Bool)(x:Nat):D:=if b=M then .int x else .non
def KW(a b c d:Bool)(x y z w:Nat):D:=.tup [pt a x,pt b y,pt c z,pt d w]
noncomputable def wj:List D:=[.str "leave",.str "mark",.str "wipe"]
noncomputable def yE:List D:=[.non,.int 0,.int 1,.int 2,.int 3]
structure ug (x:D):Prop where
 is:∃m h t,x = .tup [.int (m:Nat),h,t]/\m<4000/\h∈wj/\t∈yE
theorem ug.und{x:D}(h:ug x):x.und 0=M:=by
 obtain⟨m,x,t,rfl,_,h1,h2⟩:=h.is;have b:x.und 0=M:=by simp[wj]at h1;rcases h1 with z|z|z<;>subst z<;>rfl
 have a:t.und 0=M:=by simp[yE]at h2;rcases h2 with z|z|z|z|z<;>subst z<;>rfl
 simp[D.und,D.unds,b,a]
noncomputable def cx(b:Bool)(x:Nat):Nat:=if b=M then x else 0
def mS:List Bool->List Nat->Nat
 |b::bs,x::xs=>cx b x*8^bs.length+mS bs xs
 |_,_=>0
theorem lz:∀{bs:List Bool} {xs:List Nat},(∀x∈xs,x<=7)->mS bs xs<8^bs.length
 |[],_,_=>by rw[mS];simp;simp
 |b::bs,[],_=>by
  rw[mS]
  ·exact Nat.pos_of_ne_zero (by simp)
  ·simp
 |b::bs,x::xs,h=>by
  have h1:=lz (bs:=bs) λy a=>h y (mC1 _ a);have h2:cx b x<=7:=by unfold cx;split;exact h x mS1;lia
  rw[mS,lC1,Nat.pow_succ];have c:cx b x*8^bs.length<=7*8^bs.length:=cy _ h2;lia
theorem Lq{S:cZ}{n:Nat}{xs ys:List D}:mz S (n+1) (.tup xs) (.tup ys)=AA (mz S n) xs ys:=by
 rw[mz];simp[dw]
theorem Kt{S:cZ}{n:Nat}{xs ys:List D}:wb S (n+1) (.tup xs) (.tup ys)=zX (mz S n) (wb S n) xs ys:=by
 rw[wb];simp[JN,dw]
theorem DN{S:cZ}{n:Nat}{b:Bool}{x y:Nat}:mz S (n+1) (pt b x) (pt b y)=Z (decide (cx b x=cx b y)):=by
 cases b with
 |false=>rfl
 |true=>
  show Z ((x:Int) == (y:Int))=Z (decide (x=y))
  congr 1
  rw[bM,beq_iff_eq,al];lia
theorem HV{S:cZ}{n:Nat}{b:Bool}{x y:Nat}(h:cx b x≠cx b y):wb S (n+1) (pt b x) (pt b y)=Z (decide (cx b x<cx b y)):=by
 cases b with
 |false=>exact absurd O h
 |true=>
  show Z (decide ((x:Int)<(y:Int)))=Z (decide (x<y))
  congr 1
  rw[bM,al,al];omega
theorem JY{A B P u v:Nat}(a:u<P)(hv:v<P):(A*P+u=B*P+v↔A=B/\u=v)/\(A*P+u<B*P+v↔A<B\/(A=B/\u<v)):=by
 rcases Nat.lt_trichotomy A B with h|h|h
 ·have:=cy P (show A+1<=B from h);rw[Nat.succ_mul]at this;constructor<;>lia
 ·subst h;constructor<;>lia
 ·have:=cy P (show B+1<=A from h);rw[Nat.succ_mul]at this;constructor<;>lia
theorem Az{S:cZ}{n:Nat}:∀ {bs:List Bool} {xs ys:List Nat},xs.length=bs.length->ys.length=bs.length->(∀ x∈xs,x<=7)->(∀ y∈ys,y<=7) ->
  AA (mz S (n+1)) (cA pt bs xs) (cA pt bs ys)=Z (decide (mS bs xs=mS bs ys))
 |[],xs,ys,_,_,_,_=>by simp[AA,mS]
 |b::bs,[],ys,h,_,_,_=>by simp at h
 |b::bs,x::xs,[],_,h,_,_=>by simp at h
 |b::bs,x::xs,y::ys,h1,h2,hx,hy=>by
  have ih:=Az (S:=S) (n:=n) (bs:=bs) (xs:=xs) (ys:=ys) (by simpa using h1) (by simpa using h2) (λz a=>hx z (mC1 _ a)) (λz a=>hy z (mC1 _ a));have b1:=lz (bs:=bs) (xs:=xs) λz a=>hx z (mC1 _ a);have b2:=lz (bs:=bs) (xs:=ys) λz a=>hy z (mC1 _ a);rw[cB,cB,AA,DN,ih,mS,mS];have c:=(JY (A:=cx b x) (B:=cx b y) b1 b2).1;rw[oS1,oP1]
  congr 1
  rw[bM,bA1,al,al,al];exact c.symm
theorem zW{S:cZ}{n:Nat}:∀ {bs:List Bool} {xs ys:List Nat},xs.length=bs.length->ys.length=bs.length->(∀ x∈xs,x<=7)->(∀ y∈ys,y<=7) ->
  zX (mz S (n+1)) (wb S (n+1)) (cA pt bs xs) (cA pt bs ys)=Z (decide (mS bs xs<mS bs ys))
 |[],xs,ys,_,_,_,_=>by simp[zX,mS]
 |b::bs,[],ys,h,_,_,_=>by simp at h
 |b::bs,x::xs,[],_,h,_,_=>by simp at h
 |b::bs,x::xs,y::ys,h1,h2,hx,hy=>by
  have ih:=zW (S:=S) (n:=n) (bs:=bs) (xs:=xs) (ys:=ys) (by simpa using h1) (by simpa using h2) (λz a=>hx z (mC1 _ a)) (λz a=>hy z (mC1 _ a));have b1:=lz (bs:=bs) (xs:=xs) λz a=>hx z (mC1 _ a);have b2:=lz (bs:=bs) (xs:=ys) λz a=>hy z (mC1 _ a);have c:=(JY (A:=cx b x) (B:=cx b y) b1 b2).2;rw[cB,cB,zX,DN,oS1,mS,mS];by_cases z:cx b x=cx b y
  ·rw[ak (ah z),ih]
   congr 1
   rw[bM,al,al];lia
  ·rw[aj (by rw[al];exact z),HV z]
   congr 1
   rw[bM,al,al];lia
structure Ky where
 m:Nat
 x:Nat
 y:Nat
 z:Nat
 w:Nat
structure Ky.Ok (k:Ky):Prop where
 m:k.m<4000
 x:k.x<=4
 y:k.y<=4
 z:k.z<=4
 w:k.w<=4
abbrev E4:=Bool×Bool×Bool×Bool
noncomputable def E4.bs(e:E4):List Bool:=[e.1,e.2.1,e.2.2.1,e.2.2.2]
noncomputable def Ky.xs(k:Ky):List Nat:=[k.x,k.y,k.z,k.w]
noncomputable def IV(b:Bool)(x:Nat):TK:=if b=M then .int x else .non
def Ky.sg(k:Ky)(e:E4):D:=KW e.1 e.2.1 e.2.2.1 e.2.2.2 k.x k.y k.z k.w
def Ky.d(k:Ky)(e:E4):D:=.tup [.int k.m,k.sg e]
def Ky.tk(k:Ky)(e:E4):TK:=.tup [.int k.m,.tup [IV e.1 k.x,IV e.2.1 k.y,IV e.2.2.1 k.z,IV e.2.2.2 k.w]]
def Ky.code(k:Ky)(e:E4):Nat:=k.m*4096+mS e.bs k.xs
theorem Ky.keyT(k:Ky)(e:E4):Mi.keyT (k.d e)=Z (k.tk e):=by
 obtain⟨a,b,c,d⟩:=e;cases a<;>cases b<;>cases c<;>cases d<;>rfl
theorem Ky.tkD(k:Ky)(e:E4):Mi.tkD (k.tk e)=k.d e:=(ri (k.keyT e)).1
theorem Ky.sg_zip(k:Ky)(e:E4):k.sg e = .tup (cA pt e.bs k.xs):=rfl
theorem Ky.Ok.all{k:Ky}(h:k.Ok):∀x∈k.xs,x<=7:=by
 intro x a;have:=h.x;have:=h.y;have:=h.z;have:=h.w
 simp[Ky.xs]at a;lia
theorem hY{k:Ky}(h:k.Ok)(e:E4):mS e.bs k.xs<4096:=lz (bs:=e.bs) h.all
theorem Ky.lt{k l:Ky}{e:E4}{S:cZ}{n:Nat}(hk:k.Ok)(a:l.Ok):wb S (n+3) (k.d e) (l.d e)=Z (decide (k.code e<l.code e)):=by
 have c:mz S (n+2) (.int k.m) (.int l.m)=Z ((k.m:Int) == (l.m:Int)):=rfl;have g:wb S (n+2) (.int k.m) (.int l.m)=Z (decide ((k.m:Int)<(l.m:Int))):=rfl;have d:mz S (n+2) (k.sg e) (l.sg e)=Z (decide (mS e.bs k.xs=mS e.bs l.xs)):=by rw[Ky.sg_zip,Ky.sg_zip,Lq,Az O O hk.all a.all]
 have f:wb S (n+2) (k.sg e) (l.sg e)=Z (decide (mS e.bs k.xs<mS e.bs l.xs)):=by rw[Ky.sg_zip,Ky.sg_zip,Kt,zW O O hk.all a.all]
 unfold Ky.d Ky.code;have h:=(JY (A:=k.m) (B:=l.m) (hY hk e) (hY a e)).2;rw[Kt,zX,c,oS1];by_cases z:k.m=l.m
 ·rw[ak (by rw[beq_iff_eq];lia),zX,d,oS1];by_cases b:mS e.bs k.xs=mS e.bs l.xs
  ·rw[ak (ah b),zX]
   congr 1
   rw[eq_comm,decide_eq_false_iff_not];lia
  ·rw[aj (by rw[al];exact b),f]
   congr 1
   rw[bM,al,al];lia
 ·rw[aj (by rw[beq_iff_eq];lia),g]
  congr 1
  rw[bM,al,al];lia
theorem Ky.und(k:Ky)(e:E4)(n:Nat):(k.d e).und n=M:=by
 rw[<- k.tkD e];exact ym _
theorem Ky.sgu(k:Ky)(e:E4)(n:Nat):(k.sg e).und n=M:=by
 have:=k.und e n;unfold Ky.d at this;simp only[D.und,D.unds,bH,cC]at this;exact this
noncomputable def dO(F:List (TK×D)):Ob:=match F with
 |[]=>.dct []
 |_=>.dcT F
abbrev Rw:=Ky×D
def uJ(e:E4)(p:Rw):D:=.tup [p.1.d e,p.2]
def k0(p:Rw):Prop:=p.1.Ok/\ug p.2
def Inc(e:E4)(L:List Rw):Prop:=L.Pairwise λp q=>p.1.code e<q.1.code e
theorem Inc.le{e:E4}{L:List Rw}(h:Inc e L)(ok:∀p∈L,k0 p){i j:Nat}{p q:Rw}(hi:L[i]?=Z p)(a:L[j]?=Z q)(d:i<=j):p.1.m<=q.1.m/\(i<j->p.1.code e<q.1.code e):=by
 have b:=(ok p (gM1 hi)).1;have g:=(ok q (gM1 a)).1;by_cases z:i=j
 ·subst z;rw[hi]at a;cases a;exact⟨nR1 _,λz=>by lia⟩
 ·obtain⟨h1,c⟩:=gE1.mp hi;obtain⟨h2,f⟩:=gE1.mp a;have:=List.pairwise_iff_getElem.mp h i j h1 h2 (by lia);rw[c,f]at this;refine⟨?_,λ_=>this⟩;have k:=hY b e;have l:=hY g e;unfold Ky.code at this;lia
theorem yQ{e:E4}{L:List Rw}(ok:∀p∈L,k0 p)(n:Nat):(D.tup (L.map (uJ e))).und n=M:=by
 rw[D.und];refine Mi.d2 λp a=>?_;have h1:=p.1.und e n;have h2:=eQ (n:=n) (ok p a).2.und;simp[uJ,D.und,D.unds,h1,h2]
abbrev Pr:=Wk×D
def xt(e:E4):D:=.tup (DM e.1 e.2.1 e.2.2.1 e.2.2.2)
theorem mM(e:E4):(xt e).und 0=M:=by unfold xt;rw[D.und];exact Aw _ _ _ _
def iH(e:E4)(L:List Rw):D:=.tup [xt e,.tup (L.map (uJ e))]
theorem ji{e:E4}{L:List Rw}(ok:∀p∈L,k0 p):(iH e L).und 0=M:=by
 have h1:=mM e;have h2:=yQ (e:=e) ok 0;unfold iH;rw[D.und,D.unds,D.unds,h1,h2];rfl
def ky(w:df)(ws:List Wk)(cs:List Nat)(u:Wk):Ky:=⟨u.2.2,u.2.1,if cs.contains u.1 then 1 else 0,((w[u.1]?).getD []).length,if 1<DP ws u.1 then 1 else 0⟩
structure Dp (m:Nat)(w:df)(ws:List Wk)(cs:List Nat):Prop where
 web:fH m w
 m8:m<=8
 few:ws.length<=8
 cl:cs.length<=8
 wk:∀u∈ws,∃row,w[u.1]?=some row/\u.2.1<=row.length/\u.2.2<4000
 ch:∀r∈cs,r<m
theorem Dp.lt{m:Nat}{w:df}{ws:List Wk}{cs:List Nat}(h:Dp m w ws cs):∀u∈ws,u.1<m:=λu b=>by
 obtain⟨a,e,_⟩:=h.wk u b;have:=(gE1.mp e).1;rw[h.web.len]at this;exact this
theorem Dp.ky{m:Nat}{w:df}{ws:List Wk}{cs:List Nat}(h:Dp m w ws cs):∀u∈ws,(ky w ws cs u).Ok:=λu c=>by
 obtain⟨a,e,h1,h2⟩:=h.wk u c;have b:=h.web.le a (gM1 e);refine⟨h2,?_,?_,?_,?_⟩
 ·show u.2.1<=4;lia
 ·show(if cs.contains u.1 then 1 else 0)<=4;split<;>lia
 ·show((w[u.1]?).getD []).length<=4;rw[e];exact b
 ·show(if 1<DP ws u.1 then 1 else 0)<=4;split<;>lia
noncomputable def V3(S:cZ)(a b c:List D):cZ:=S++[.lst a,.lst b,.lst c]
noncomputable def ll:List E4:=[(J,J,J,J),(M,J,J,J),(J,J,M,J),(J,M,J,J),(J,J,J,M),(J,M,J,M),(M,J,J,J)]
noncomputable def wP(b:Bool)(n:Nat):List Nat:=if b then af (n+1)else[0]
def KS(e:E4)(m:Nat):List Ky:=(wP e.1 4).flatMap λx=>(wP e.2.1 1).flatMap λy=>(wP e.2.2.1 4).flatMap λz=>(wP e.2.2.2 1).map λw=>⟨m,x,y,z,w⟩
def IZ:Ob->Bool
 | .lst xs=>D.unds 0 xs
 |_=>J
theorem wf{o:Ob}(h:IZ o=M):o.und 0=M /\ ∀n,o.sh n=o:=by
 unfold IZ at h;split at h
 ·rename_i xs;exact⟨by rw[Ob.und];exact h,λn=>by rw[Ob.sh,kd h]⟩
 ·cases h
def Iw(e:E4):Bool:=match fe [xt e] []with
 |some (.ref j,G)=>(match G[j]? with
  |some (.lst xs)=>D.sames xs ((KS e 0).map λk=>k.sg e)
  |_=>J)&&G.all IZ
 |_=>J
theorem C8:∀e∈ll,Iw e=M:=by
 intro e a;simp only[ll,aD,bG,or_false]at a;rcases a with rfl|rfl|rfl|rfl|rfl|rfl|rfl<;>kernel_rfl!
theorem Hg{e:E4}(m a:Nat):(KS e m).map (λk=>k.sg e)=(KS e a).map λk=>k.sg e:=by
 unfold KS;simp only[List.map_flatMap,bq];rfl
theorem yK{e:E4}{S:cZ}{Q:D×cZ->Prop}(he:e∈ll)(q:∀j G,(∀o∈G,o.und 0=M)->(S++G)[S.length+j]?=Z (.lst ((KS e 0).map λk=>k.sg e))->Q (.ref (S.length+j),S++G)):W (cY 1 fe [xt e] S) Q:=by
 have hc:=C8 e he;unfold Iw at hc;split at hc
 ·rename_i j G f;rw[bA1]at hc;obtain⟨h1,h2⟩:=hc;split at h1
  ·rename_i xs d;have ex:=D.sames_eq h1;subst ex;have b:∀o∈G,IZ o=M:=bv.mp h2;refine⟨_,kW f O (by rw[D.unds,mM];rfl) (by simp[D.und]),?_⟩;have c:G.map (Ob.sh S.length)=G:=(cj λo a=>(wf (b o a)).2 _).trans (ck _);rw[c];exact q j G (λo a=>(wf (b o a)).1) (by rw[kM];exact d)
  ·cases h1
 ·cases hc
theorem wB{e:E4}{m:Nat}(hm:m<4000):∀k∈KS e m,k.Ok/\k.m=m:=by
 intro k c;unfold KS at c;obtain⟨x,h,c⟩:=cD.mp c;obtain⟨y,f,c⟩:=cD.mp c;obtain⟨z,j,c⟩:=cD.mp c;obtain⟨w,i,rfl⟩:=b7.mp c;have up:∀b n (a:Nat),a∈wP b n->a<=n:=λb n a d=>by
  unfold wP at d;split at d
  ·have:=aA.mp d;lia
  ·rw[cr.mp d];exact bf _
 have h1:=up _ _ _ h;have h2:=up _ _ _ f;have g:=up _ _ _ j;have l:=up _ _ _ i;exact⟨⟨hm,h1,by show y<=4;lia,g,by show w<=4;lia⟩,O⟩
theorem Du:∀e∈ll,((KS e 0).map λk=>mS e.bs k.xs).Pairwise (· < ·):=by decide+kernel
theorem GH:∀e∈ll,(KS e 0).length<=25:=by decide+kernel
theorem DY(e:E4)(m:Nat):KS e m=(KS e 0).map λk=>{k with m:=m}:=by
 unfold KS;simp only[List.map_flatMap,bq];rfl
theorem GI{e:E4}(he:e∈ll){m:Nat}:(KS e m).Pairwise λa b=>a.code e<b.code e:=by
 have h:=List.pairwise_map.mp (Du e he);rw[DY,List.pairwise_map];refine h.imp ?_;intro a b c;unfold Ky.code;exact Nat.add_lt_add_left c _
def mF(e:E4)(n:Nat):List Ky:=(af n).flatMap (KS e)
theorem AZ{e:E4}(he:e∈ll){n:Nat}(hn:n<=4000):(mF e n).Pairwise λa b=>a.code e<b.code e:=by
 unfold mF;rw[List.pairwise_flatMap];refine⟨λm _=>GI he,?_⟩;refine List.Pairwise.imp_of_mem ?_ b5;intro m f i c g a d b h;have h1:=aA.mp i;have h2:=aA.mp c;obtain⟨a1,a2⟩:=wB (e:=e) (m:=m) (by lia) a d;obtain⟨b1,b2⟩:=wB (e:=e) (m:=f) (by lia) b h;have j:=hY a1 e;have k:=hY b1 e;unfold Ky.code;rw[a2,b2];lia
theorem kG{V G:cZ}{i:Nat}{o:Ob}(h:V[i]?=Z o):(V++G)[i]?=Z o:=by
 rw[gL1 (gE1.mp h).1];exact h
theorem zM{c n k:Nat}{U V:cZ}{xs:List D}{Q:D×cZ->Prop}(s:HS c U V)(h:V[n]?=Z (.lst xs))(hk:k<xs.length)(q:∀x,x∈xs->Q (x,V)):W (da (.ref n) (.int (k:Nat)) V) Q:=
 wy h (gG1 hk) (q _ (bO hk))
theorem Hj{c i b m k:Nat}{U V:cZ}{xs:List D}{o:Ob}{E sg:D}{y8 N:Option D}{Q:Fl×Ev×cZ->Prop}(s:HS c U V)(hc:c<=2^45)(hk:V[b]? = some (.lst xs))(K:D.unds 0 xs=true)(au:xs.length<=1000)(ao:U.length<=b)(hs:V[m]? = some o)(f:0<m)(hjk:m≠b)(m0:0<k)(m3:k<=3)(H:sg.und 0=true)(T:∀a L I,HS (c+4) U a->a[m]?=some o->a[b]?=some (.lst xs)->Q (.nx,[some (.ref 0),some (.bl true),some E,some (.int (k:Nat)),some (.ref b),some (.int (i:Nat)),some sg,L,I],a))(P:∀a L I x,ug x->HS (c+4) U a->a[m]?=some o->a[b]?=some (.lst (xs++[.tup [.tup [.int (i:Nat),sg],x]]))->Q (.nx,[some (.ref 0),some (.bl true),some E,some (.int (k:Nat)),some (.ref b),some (.int (i:Nat)),some sg,L,I],a)):
  W (fK [Z (.ref 0),Z (.bl M),Z E,Z (.int (k:Nat)),Z (.ref b),Z (.int (i:Nat)),Z sg,y8,N] V) Q:=by
 have hp:=s.pos;unfold fK;refine dW (λr a=>∃q,q∈wj/\HS (c+1) U a/\a[m]?=Z o/\a[b]?=Z (.lst xs)/\r=[Z (.ref 0),Z (.bl M),Z E,Z (.int (k:Nat)),Z (.ref b),Z (.int (i:Nat)),Z sg,Z q,N]) ?_ ?_
 ·walk_at"w";refine draw_W (s.app1 (o:=.lst [.str "leave",.str "leave",.str "mark",.str "wipe"]) rfl) (by lia) (by lia) (by lia) fun d X u l l1 q=>?_;have wq:∀ S,i5 (.int (d:Nat)) (.int 1) S=some (.int (d:Nat),S):=fun S=>by
   simp only[i5];rw[ak (sU (by decide) (by decide)),Int.mul_one]
  have ei:∀S,tD (.bl M) S=Z (.int 1,S):=λS=>rfl
  ((try walk_at"w");repeat(simp only[ei,wq];try walk_at"w"))
  refine zM (xs:=[.str "leave",.str "leave",.str "mark",.str "wipe"]) u (l.at (by rw[dX];rfl) (by have:=s.len;lia)) (by show d<4;lia) λx h=>?_;refine⟨x,?_,u,l.at (kG hs) f,l.at (kG hk) (by have:=s.len;lia),O⟩;simp only[aD,bG,or_false]at h;rcases h with rfl|rfl|rfl|rfl<;>simp[wj]
 rintro r X ⟨q,G,u,am,C,rfl⟩;refine dW (λr a=>∃x,ug x/\HS (c+3) U a/\a[m]?=Z o/\a[b]?=Z (.lst xs)/\r=[Z (.ref 0),Z (.bl M),Z E,Z (.int (k:Nat)),Z (.ref b),Z (.int (i:Nat)),Z sg,Z q,Z x]) ?_ ?_
 ·walk_at"w";refine draw_W u (by lia) (by lia) (by lia) λd V2 A w l2 B=>?_;have p:=w.at am f;have j:=w.at C (by have:=u.len;lia);walk_at"w";refine draw_W (A.app1 (o:=.lst [.non,.int 0,.int 1,.int 0,.int 2,.int 1,.int 3,.int 0]) O) (by lia) (by lia) (by lia) λaq V3 v e R hd2=>?_;walk_at"w";refine zM (xs:=[.non,.int 0,.int 1,.int 0,.int 2,.int 1,.int 3,.int 0]) v (e.at (by rw[dX];rfl) (by have:=A.len;lia)) (by show aq<8;lia) λx h=>?_;refine⟨_,⟨d,q,x,O,by lia,G,?_⟩,v,e.at (kG p) f,e.at (kG j) (by have:=s.len;lia),O⟩;simp only[aD,bG,or_false]at h;rcases h with rfl|rfl|rfl|rfl|rfl|rfl|rfl|rfl<;>simp[yE]
 rintro r V2 ⟨x,h,A,p,j,rfl⟩;walk_at"w";refine draw_W A (by lia) (by lia) (by lia) λd V3 v e R B=>?_;have z:=e.at p f;have g:=e.at j (by have:=A.len;lia);walk_at"w";split
 ·refine pP ?_;walk_at"w";refine⟨b,xs,O,g,?_⟩;refine(ud g).mpr ⟨dz (by lia),?_⟩;have F:=(gE1.mp g).1;refine P _ _ _ x h (v.set ao ?_) (by rw[gS1 (by lia)];exact z) (by rw[aG F]);rw[Ob.und];refine hH.mpr λy t=>?_;rcases aE.mp t with t|t
  ·exact eQ (hH.mp K y t)
  ·rw[cr.mp t];have h1:=eQ (n:=V3.length) H;have h2:=eQ (n:=V3.length) h.und;simp[D.und,D.unds,h1,h2]
 ·exact T _ _ _ v z g
inductive MI (c:Nat)(U:cZ)(e:E4)(mo kr b:Nat)(ks:List Ky)(r:Ev)(V:cZ):Prop where
 |mk (L:List Rw) (y6 y7 y8 y9:Option D) (h1:HS c U V) (h2:V[kr]?=some (.lst (L.map (uJ e)))) (h3:(L.map (·.1)).Sublist ks) (h4:∀p∈L,ug p.2) (h5:L.length<=b)
  (h6:r=[some (.ref 0),some (.bl true),some (xt e),some (.int (mo:Nat)),some (.ref kr),y6,y7,y8,y9]):MI c U e mo kr b ks r V
theorem BA{e:E4}{L:List Rw}{n:Nat}(hn:n<=4000)(c:(L.map (·.1)).Sublist (mF e n))(f:∀p∈L,ug p.2):∀p∈L,k0 p:=λp a=>by
 have:=c.subset (b7.mpr ⟨p,a,O⟩);obtain⟨m,d,b⟩:=cD.mp this;exact⟨(wB (m:=m) (by have:=aA.mp d;lia) _ b).1,f p a⟩
theorem xP(e:E4)(n:Nat):mF e (n+1)=mF e n++KS e n:=by
 unfold mF;rw[List.range_succ,List.flatMap_append];simp
theorem yR{e:E4}{p:Rw}(h:ug p.2):(uJ e p).und 0=M:=by
 simp[uJ,D.und,D.unds,Ky.und p.1 e 0,h.und]
theorem Ft{c i f g:Nat}{U V:cZ}{e:E4}{r:Ev}(he:e∈ll)(hc:c<=2^44)(hi:i<f)(m3:f<=3)(E:U.length<=g)(h:MI c U e f g (25*i) (mF e i) r V)(hr:r[5]? = some (some (.int (i:Nat)))):
  W (fJ r V) λp=>p.1 = .nx/\MI (c+100) U e f g (25*(i+1)) (mF e (i+1)) p.2.1 p.2.2:=by
 obtain⟨L,I,y7,y8,y9,h1,h2,N,T,h5,rfl⟩:=h;rw[show([Z (.ref 0),Z (.bl M),Z (xt e),Z (.int (f:Nat)),Z (.ref g),I,y7,y8,y9]:Ev)[5]?=Z I from rfl]at hr;cases hr;have b:=h1.pos;have s:=GH e he;have hlk:(KS e i).length<=25:=by rw[DY,lM1];exact s
 unfold fJ;walk_at"w";refine yK he λj G X y=>?_;have Q:=(gE1.mp h2).1;refine ee y ?_;dsimp only;rw[Hg 0 i];rw[Hg 0 i]at y;refine fg (λt r u=>u[V.length+j]?=Z (.lst ((KS e i).map λk=>k.sg e))/\t<=25/\MI (c+4*t) U e f g (25*i+t) (mF e i++(KS e i).take t) r u/\r[5]?=Z (Z (.int (i:Nat)))) _ 0 _ _ ⟨y,by lia,⟨L,_,_,_,_,h1.app λo S=>gA (bf _) (X o S),kG h2,by simpa using N,T,by lia,O⟩,O⟩ ?_ ?_ ?_
 ·rintro t r u ⟨a,_⟩;exact fO a
 ·rintro t d K r u ⟨a,aq,⟨v,A,am,ao,H,z,B,q,l,R,rfl⟩,hr⟩;rw[show([Z (.ref 0),Z (.bl M),Z (xt e),Z (.int (f:Nat)),Z (.ref g),A,am,ao,H]:Ev)[5]?=Z A from rfl]at hr;cases hr;rw[gP1]at K;obtain⟨k,w,rfl⟩:=oM1.mp K;have F:=(gE1.mp w).1;have C:k.m=i:=(wB (e:=e) (m:=i) (by lia) k (gM1 w)).2;have n:(KS e i).take (t+1)=(KS e i).take t++[k]:=by rw[b9,w];rfl
  rw[bI]at *
  walk_at"w";refine Hj z (by lia) B (Mi.d2 λp b=>yR (l p b)) (by rw[lM1];lia) E a (by lia) (by lia) (by lia) m3 (k.sgu e 0) (λV2 P au b1 b2 b3=>?_) λV2 P au x wq b1 b2 b3=>?_
  ·refine⟨O,b2,by lia,⟨v,_,_,_,_,b1.more (by lia),b3,?_,l,by lia,O⟩,O⟩;rw[n,<- bB];exact q.trans (List.sublist_append_left _ _)
  ·have er:D.tup [.tup [.int (i:Nat),k.sg e],x]=uJ e (k,x):=by rw[<- C];rfl
   rw[er]at b3;refine⟨O,b2,by lia,⟨v++[(k,x)],_,_,_,_,b1.more (by lia),by rw[b6];exact b3,?_,λp b=>?_,by rw[lA1];simp;lia,O⟩,O⟩
   ·rw[n,<- bB,b6];exact q.append (List.Sublist.refl _)
   ·rcases aE.mp b with b|b
    ·exact l p b
    ·rw[cr.mp b];exact wq
 ·rintro r u ⟨a,aq,⟨v,A,am,ao,H,z,B,q,l,R,rfl⟩,hr⟩;rw[lM1,bI]at *
  rw[bS,<- xP]at q;exact⟨O,v,_,_,_,_,z.more (by lia),B,q,l,by lia,O⟩
theorem w6:[D.tup [],.tup [.str "came"],.tup [.str "doors"],.tup [.str "chalk"],.tup [.str "others"],.tup [.str "chalk",.str "others"],.tup [.str "came"]]=ll.map xt:=rfl
theorem xb{c:Nat}{B U:cZ}{Q:D×cZ->Prop}(s:HS c B U)(hc:c<=2^40)(q:∀e L m,Inc e L->(∀p∈L,k0 p)->L.length<=75->HS (c+400) B m->HS (c+400) U m->m.length=U.length->Q (iH e L,m)):W (cY 2 eW [.ref 0,.bl M] U) Q:=by
 refine tV (c':=c+400) O O s ?_;have G:=s.pos;have am:=s.len;unfold eW;refine j3 ?_;unfold i9;refine dW (λr V=>∃e,e∈ll/\HS (c+1) U V/\r=[Z (.ref 0),Z (.bl M),Z (xt e),Y,Y,Y,Y,Y,Y]) ?_ ?_
 ·have I:D.unds 0 (ll.map xt)=M:=Mi.d2 λe _=>mM e;walk_at"w";rw[w6];have s2:=s.here.app1 (o:=.lst (ll.map xt)) (by rw[Ob.und];exact I);refine HD s2 (by lia) (xs:=ll.map xt) (by rw[cu]) (by lia) (by decide) (by decide) (λx C=>by obtain⟨e,_,rfl⟩:=b7.mp C;exact mM e) λx V2 C w au l3=>?_;obtain⟨e,v,rfl⟩:=b7.mp C;exact⟨e,v,w,O⟩
 rintro r V ⟨e,v,w,rfl⟩;have R:=w.len;refine dW (λr V=>∃g t,0<g/\g<=3/\U.length<=t/\MI (c+2) U e g t (25*0) (mF e 0) r V) ?_ ?_
 ·walk_at"w";refine draw_W w (by lia) (by lia) (by lia) λd V3 K wq l4 y=>?_;walk_at"w";exact⟨d+1,V3.length,by lia,by lia,by lia,[],Y,Y,Y,Y,K.app1 O,by rw[cu];rfl,List.Sublist.refl _,λp G=>(by cases G),by simp,by simp[Int.add_comm]⟩
 rintro r V ⟨g,t,m0,X,F,k⟩;refine dW (λr V=>MI (c+2+100*g) U e g t (25*g) (mF e g) r V) ?_ ?_
 ·have er:r[3]? = some (some (.int (g:Nat))):=by
   obtain⟨_,_,_,_,_,_,_,_,_,_,rfl⟩:=k;rfl
  unfold eM;rw[c4,pQ];refine W.of (x:=([.int (g:Nat)],V)) (by simp only[cV,cW,mV,er,oS1]) ?_;unfold BG;dsimp only;rw[Int.toNat_natCast];refine⟨gn (by lia),?_⟩;refine fg (λi r V=>i<=g/\MI (c+2+100*i) U e g t (25*i) (mF e i) r V) _ 0 _ _ ⟨bf _,k⟩ (λ_ _ _ _=>rfl) ?_ ?_
  ·rintro i d y r V ⟨hi,k⟩;have j:=(gE1.mp y).1;rw [eR] at j;have z:d = .int (i:Nat):=by
    rw[kC,gP1,cf j]at y;exact(Option.some.inj y).symm
   subst z;rw[bI]at *
   obtain⟨L,ao,aq,T,P,h1,h2,u,A,H,rfl⟩:=k;walk_at"w";refine(Ft v (by lia) j X F ⟨L,_,_,_,_,h1,h2,u,A,H,O⟩ O).mono ?_;rintro⟨f,r2,V2⟩ ⟨N,E⟩;exact⟨N,by lia,E⟩
  ·rintro r V ⟨hi,k⟩;rw[eR,bI]at k;exact⟨O,k⟩
 rintro r V ⟨L,ao,aq,T,P,h1,h2,u,A,H,rfl⟩;have ok:=BA (by lia) u A;have inc:Inc e L:=by
  have:=(AZ v (n:=g) (by lia)).sublist u;exact List.Pairwise.of_map (S:=λa b:Ky=>a.code e<b.code e) (·.1) (λa b h=>h) this
 walk_at"w";refine ee h2 ?_;exact⟨h1.more (by lia),ji ok,λm a b l=>q e L m inc ok (by lia) a b l⟩
theorem J3(xs:List D)(k:Nat):Mi.ol xs Y (Z (k:Int))=xs.take k:=by
 unfold Mi.ol;rw[HT.sv,HT.vU,List.drop_zero,Nat.sub_zero];by_cases h:k<=xs.length
 ·rw[Nat.min_eq_left h]
 ·rw[Nat.min_eq_right (by lia),bS,b0 (by lia)]
theorem DU{m hm:FE}{r:Ev}{S:cZ}{Q:D×cZ->Prop}(h:W (m r S) λp=>∃n,p.1 = .ref n/\W (hm r p.2) λb=>∃(k:Nat) (xs:List D),b.1 = .int (k:Nat)/\b.2[n]?=Z (.lst xs)/\Q (.ref b.2.length,b.2++[.lst (xs.take k)])):W (kF m gC (gf hm) r S) Q:=by
 obtain⟨⟨d,c⟩,j,n,e,⟨⟨l,i⟩,f,k,xs,a,g,q⟩⟩:=h;dsimp only at e f a g q;subst e a;rw[<- J3]at q;refine W.of ?_ q;unfold kF;rw[j,oS1];dsimp only;rw[show gC r c=Z (Y,c)from rfl,oS1];dsimp only;rw[show gf hm r c=Z (Z (k:Int),i) by unfold gf;rw[f];rfl,oS1];simp only[yJ,ic g,oP1,if_true]
theorem DW{m:FA}{k:Nat}{r:Ev}{S S1:cZ}{Q:D×cZ->Prop}(hm:m r S=Z ([.int (k:Nat)],S1))(hk:k<=1000)(q:Q (.ref S1.length,S1++[.lst (nmD (af k))])):W (u5 m r S) Q:=by
 have e:gZ 0 k=nmD (af k):=by rw[kC];rfl
 rw[<- e]at q;refine W.of ?_ q;unfold u5;rw[hm,oS1];dsimp only;rw[ak (by
  unfold nz;simp only[bA1,al];lia),Int.toNat_natCast]
theorem zB{m:Nat}:∀{ys:List D},(∀y∈ys,y∈nmD (af m)) -> ∃rs:List Nat,ys=nmD rs /\ ∀r∈rs,r<m
 |[],_=>⟨[],O,λr a=>by cases a⟩
 |y::ys,h=>by
  obtain⟨rs,e,a⟩:=zB λz c=>h z (mC1 _ c);obtain⟨r,h1,rfl⟩:=b7.mp (h y mS1);refine⟨r::rs,by rw[e];rfl,λx b=>?_⟩;rcases aD.mp b with rfl|b
  ·exact aA.mp h1
  ·exact a x b
theorem v6(rs:List Nat)(k:Nat):(nmD rs).take k=nmD (rs.take k):=by unfold nmD;rw[List.map_take]
def lG(xs:List Nat):List Nat:=(hI (xs.map λ(r:Nat)=>(r:Int))).map Int.toNat
theorem ni(xs:List Nat):(lG xs).Perm xs:=by
 have:=(fi (xs.map λ(r:Nat)=>(r:Int))).map Int.toNat
 rw[bq]at this;have e:(Int.toNat∘λ(r:Nat)=>(r:Int))=id:=by funext x;simp
 rw[e,ck]at this;exact this
theorem yG(xs:List Nat):(hI (xs.map λ(r:Nat)=>(r:Int))).map D.int=nmD (lG xs):=by
 unfold nmD lG;rw[bq];refine cj λi hi=>?_;obtain⟨x,_,rfl⟩:=b7.mp ((fi _).mem_iff.mp hi);rfl
theorem Af(xs:List Nat):kJ (nmD xs)=Z (xs.map λ(r:Nat)=>(r:Int)):=by
 induction xs with
 |nil=>rfl
 |cons x xs ih=>
  show(kJ (nmD xs)).map _=_;rw[ih];rfl
theorem A2{S:cZ}{n:Nat}{xs:List Nat}{Q:D×cZ->Prop}(h:S[n]?=Z (.lst (nmD xs)))(a:xs.length<64)(q:Q (.ref S.length,S++[.lst (nmD (lG xs))])):W (jl (.ref n) S) Q:=by
 refine W.of ?_ q;unfold jl;simp only[h];rw[Af,oS1,ak (by rw[lM1];exact a),yG]
theorem Ej{c m lo:Nat}{B U:cZ}{Q:D×cZ->Prop}(s:HS c B U)(hc:c<=2^44)(hm:m<=8)(E:lo<=m)(q:∀cs e,(∀r∈cs,r<m)->cs.length<=m->lo<=cs.length->HS (c+9) B e->HS (c+9) U e->e.length=U.length->Q (.tup (nmD cs),e)):W (cY 3 fX [.ref 0,.int m,.int lo] U) Q:=by
 refine tV (c':=c+9) O O s ?_;have H:=s.pos;have w:=s.len;unfold fX;refine j3 ?_;unfold mh;refine dW (λr V=>∃cs,(∀r∈cs,r<m)/\cs.length<=m/\lo<=cs.length/\HS (c+9) U V/\V[V.length-1]?=Z (.lst (nmD cs))/\r=[Z (.ref 0),Z (.int (m:Nat)),Z (.int (lo:Nat)),Z (.ref (V.length-1))]) ?_ ?_
 ·unfold de;rw [c4];refine DU ?_;unfold mN cV;rw [c4,c4];refine W.of (x:=(.ref 0,U)) rfl ?_;rw [c4,c4];refine DW (k:=m) (S1:=U) rfl (by lia) ?_;walk_at"w";have C:=s.here.app1 (o:=.lst (nmD (List.range m))) (by rw [Ob.und];exact fC _);refine uI C (by lia) (xs:=nmD (List.range m)) (by rw [cu]) (by rw [eT,cE];lia) (fC _) fun k ys V p A u h f=>?_;obtain ⟨rs,rfl,g⟩:=zB (m:=m) fun y h=>f.mem_iff.mp h;have F:rs.length=m:=by
   have:=f.length_eq;rw[eT,eT,cE]at this;exact this
  rw[eT,cE]at p;walk_at"w";refine⟨k,O,?_⟩;refine draw_W p (by lia) (by lia) (by lia) λd ao G i K L=>?_;have n:=i.at h (by rw[lA1]at u;lia);walk_at"w";refine⟨lo+d,nmD rs,by push_cast;rfl,n,?_⟩;rw[v6];refine⟨rs.take (lo+d),λr j=>g r (List.mem_of_mem_take j),by rw[aO];lia,by rw[aO];lia,(G.more (by lia)).app1 (by rw[Ob.und];exact fC _),?_,?_⟩
  ·rw[Nat.add_sub_cancel,cu]
  ·rw[Nat.add_sub_cancel]
 rintro r V ⟨cs,h1,h2,I,z,v,rfl⟩;have t:=ni cs;walk_at"w";refine A2 v (by lia) ?_;refine ee (xs:=nmD (lG cs)) (by rw[cu]) ?_;have am:=t.length_eq;exact⟨z.app1 (by rw[Ob.und];exact fC _),by rw[D.und];exact fC _,λe a b l=>q (lG cs) e (λr j=>h1 r (t.mem_iff.mp j)) (by lia) (by lia) a b l⟩
abbrev Wh:=List Wk×List Nat
def whD(a:Wh):D:=uv a.1 a.2
theorem je(a:Wh)(n:Nat):(whD a).und n=M:=eQ wM
section
variable{m:Nat}{w:df}{e:E4}{L:List Rw}{chs:List (List Nat)}{a:Wh}
end
structure IE (m:Nat)(rs cs:List Nat):Prop where
 few:rs.length<=8
 cl:cs.length<=8
 rs:∀r∈rs,r<m
 cs:∀r∈cs,r<m
def dB(rs cs:List Nat):D:=.tup [.tup (nmD rs),.tup (nmD cs)]
noncomputable def gp(rs cs:List Nat):Wh:=(rs.map λr=>(r,0,0),cs)
theorem fr(rs cs:List Nat)(n:Nat):(dB rs cs).und n=M:=eQ (by simp[dB,D.und,D.unds,fC])
theorem Dh{rs:List Nat}{S:cZ}{c:Option D}{Q:List D×Ev×cZ->Prop}(h:∀ b,Q (pW (gp rs []).1,b,S)):
  W (en [] (gN 0) dI (dA (c3 (cV (mV 0) (cV (mC (D.int 0)) (cV (mC (D.int 0)) cW))))) (nmD rs) [c] S) Q:=by
 refine s9 (f:=λr:Nat=>D.int r) (λr:Nat=>ia (r,0,0)) (λr=>∃x,r=[x]) O rs _ ⟨_,O⟩ ?_ λb _=>?_
 ·rintro a d r ⟨x,rfl⟩;walk_at"w";exact⟨O,_,O⟩
 ·have e:(rs.map λr:Nat=>ia (r,0,0))=pW (gp rs []).1:=by unfold pW gp;rw[bq];rfl
  rw[e];exact h b
theorem wu{rs cs:List Nat}{S:cZ}{Q:D×cZ->Prop}(c:rs.length<=1000)(q:Q (whD (gp rs cs),S)):W (cY 1 io [dB rs cs] S) Q:=by
 refine kX O (by rw[D.unds,fr];rfl) ?_;unfold io;refine j3 ?_;unfold wv;refine dW (λr V=>V=[]/\r=[Z (dB rs cs),Z (.tup (nmD rs)),Z (.tup (nmD cs))]) ?_ ?_
 ·unfold dB;walk_at"w"
 rintro r V ⟨rfl,rfl⟩;walk_at"w";rw[qj];refine Dh λb=>?_;have a:(pW (gp rs []).1).length=rs.length:=by rw[Bi];exact lM1 _
 walk_at"w";refine⟨dz (by rw[a];lia),?_⟩;refine ee (xs:=pW (gp rs []).1) O ?_;exact⟨je (gp rs cs) 0,q⟩
theorem uH{c m most:Nat}{w:df}{B U:cZ}{Q:D×cZ->Prop}(hw:fH m w)(m0:0<m)(L:m<=8)(hmo:0<most)(I:most<=8)(s:HS c B U)(hc:c<=2^40)(q:∀rs cs f,IE m rs cs->rs.Nodup->0<rs.length->rs.length<=most->HS (c+30) B f->HS (c+30) U f->f.length=U.length->Q (dB rs cs,f)):W (cY 3 eL [.ref 0,dQ w,.int most] U) Q:=by
 refine tV (c':=c+30) O O s ?_;have hp:=s.pos;have ao:=s.len;have i:=hw.len;unfold eL;refine j3 ?_;unfold iE;refine dW (λr V=>∃rs,rs.Nodup/\(∀x∈rs,x<m)/\rs.length<=m/\0<rs.length/\rs.length<=most/\HS (c+9) U V/\r=[Z (.ref 0),Z (dQ w),Z (.int (most:Nat)),Z (.tup (nmD rs))]) ?_ ?_
 ·unfold de;rw [c4];refine IA ?_;refine IA ?_;refine DU ?_;unfold mN cV;rw [c4,c4];refine W.of (x:=(.ref 0,U)) rfl ?_;rw [c4,c4];refine DW (k:=m) (S1:=U) (by
   have el:∀S,d4 (dQ w) S=Z (.int (m:Nat),S):=λS=>by rw[kH,i]
   show(d4 (dQ w) U).bind _=_;rw[el];rfl) (by lia) ?_
  walk_at"w";have aq:=s.here.app1 (o:=.lst (nmD (af m))) (by rw[Ob.und];exact fC _);refine uI aq (by lia) (xs:=nmD (af m)) (by rw[cu]) (by rw[eT,cE];lia) (fC _) λk ys V F P am u g=>?_;obtain⟨rs,rfl,t⟩:=zB (m:=m) λy u=>g.mem_iff.mp u;have hrl:rs.length=m:=by
   have:=g.length_eq;rw[eT,eT,cE]at this;exact this
  rw[eT,cE]at F;walk_at"w";refine⟨k,O,?_⟩;refine draw_W F (by lia) (by lia) (by lia) λd V2 p j wq hd=>?_;have z:=j.at u (by rw[lA1]at am;lia);walk_at"w";refine⟨d+1,nmD rs,by push_cast;rw[Int.add_comm],z,?_⟩;rw[v6];have v:=p.app1 (o:=.lst (nmD (rs.take (d+1)))) (by rw[Ob.und];exact fC _);refine A2 (xs:=rs.take (d+1)) (by rw[cu]) (by rw[aO];lia) ?_;refine ee (xs:=nmD (lG (rs.take (d+1)))) (by rw[cu]) ?_;have A:=ni (rs.take (d+1));have K:=A.length_eq;rw[aO]at K;have n:rs.Nodup:=by
   have h:(nmD rs).Nodup:=g.nodup_iff.mpr (List.Pairwise.map _ (λa b h e=>h (by have:=D.int.inj e;lia)) List.nodup_range);exact List.Pairwise.of_map _ (λa b h e=>h (by rw[e])) h
  refine⟨lG (rs.take (d+1)),A.nodup_iff.mpr (n.sublist (aR _ _)),λx T=>t x (List.mem_of_mem_take (A.mem_iff.mp T)),by lia,by lia,by lia,(v.app1 (by rw[Ob.und];exact fC _)).more (by lia),O⟩
 rintro r V ⟨rs,n,h1,h2,E,G,au,rfl⟩;have H:∀cs:List Nat,D.tup [.tup (nmD rs),.tup (nmD cs)]=dB rs cs:=λcs=>rfl;walk_at"w";refine draw_W au (by lia) (by lia) (by lia) λd V2 p j wq hd=>?_;walk_at"w";split
 ·((try walk_at"w");repeat(simp only[kH];try walk_at"w"))
  rw[i];refine Ej (lo:=0) p (by lia) L (bf _) λcs V3 C N _ v R l3=>?_;walk_at"w";rw[H];exact⟨v.more (by lia),fr rs cs 0,λf a b l=>q rs cs f ⟨by lia,by lia,h1,C⟩ n E G a b l⟩
 ·have:=H [];rw[show nmD []=[]from rfl]at this;rw[this];exact⟨p.more (by lia),fr rs [] 0,λf a b l=>q rs [] f ⟨by lia,by simp,h1,λr X=>by cases X⟩ n E G a b l⟩
mutual
def vd(S:cZ):D->Bool
 | .non=>M
 | .bl _=>M
 | .int _=>M
 | .str _=>M
 | .tup xs=>gx S xs
 | .rol xs=>gx S xs
 | .ref n=>match S[n]? with
  |some (.lst _)=>M
  |some (.dct _)=>M
  |some (.dcT _)=>M
  |_=>J
 | .fn _=>J
def gx(S:cZ):List D->Bool
 |[]=>M
 |d::ds=>vd S d&&gx S ds
end
mutual
theorem GU{S T:cZ}:∀{d:D},vd S d=M->d.und 0=M->vd T d=M
 | .non,_,_=>by rw[vd]
 | .bl _,_,_=>by rw[vd]
 | .int _,_,_=>by rw[vd]
 | .str _,_,_=>by rw[vd]
 | .tup xs,v,h=>by rw[D.und]at h;rw[vd]at v ⊢;exact m4 v h
 | .rol xs,v,h=>by rw[D.und]at h;rw[vd]at v ⊢;exact m4 v h
 | .ref k,_,h=>by simp[D.und]at h
 | .fn x,v,_=>by simp[vd]at v
theorem m4{S T:cZ}:∀{ds:List D},gx S ds=M->D.unds 0 ds=M->gx T ds=M
 |[],_,_=>by rw[gx]
 |d::ds,v,h=>by
  rw[D.unds,bA1]at h;rw[gx,bA1]at v;rw[gx,GU v.1 h.1,m4 v.2 h.2];rfl
end
theorem iM{S:cZ}{d:D}:∀{ds:List D},gx S ds=M->d∈ds->vd S d=M
 |[],_,h=>by cases h
 |x::ds,h,m=>by
  rw[gx,bA1]at h;rcases aD.mp m with z|z
  ·rw[z];exact h.1
  ·exact iM h.2 z
theorem tT{n:Nat}{f:FN}{ds:List D}{S:cZ}{Q:D×cZ->Prop}(hn:ds.length=n)(b:dq S)(hv:gx S ds=M)(h:∀T,dq T->gx T ds=M->W (f ds T) λp=>(∃G,p.2=T++G)/\p.1.und 0=M/\Q (p.1,S)):W (cY n f ds S) Q:=by
 cases hu:D.unds 0 ds with
 |true=>exact kX hn hu ((h [] rfl (m4 hv hu)).mono λp q=>⟨q.2.1,q.2.2⟩)
 |false=>
  refine tS hn hu ((h S b hv).mono ?_);rintro⟨d,V⟩ ⟨⟨G,e⟩,a,q⟩;dsimp only at e a q;subst e;rw[Am a b];exact q
noncomputable def rX:D->Bool
 | .tup _=>M
 |_=>J
noncomputable def Ga:D->Bool
 | .int _=>M
 |_=>J
noncomputable def KA:D->Bool
 | .bl _=>M
 |_=>J
theorem p7{S:cZ}{d:D}(h:vd S d=M):nR S .tuple d=Z (rX d):=by
 cases d with
 |ref n=>
  rw[vd]at h;rw[nR];split at h<;>first|(rename_i e;rw[e];rfl)|rfl|cases h
 |fn x=>simp[vd]at h
 |_=>rfl
theorem D6{S:cZ}{d:D}(h:vd S d=M):nR S .int d=Z (Ga d||KA d):=by
 cases d with
 |ref n=>
  rw[vd]at h;rw[nR];split at h<;>first|(rename_i e;rw[e];rfl)|rfl|cases h
 |fn x=>simp[vd]at h
 |_=>rfl
theorem Br{S:cZ}{d:D}(h:vd S d=M):nR S .bool d=Z (KA d):=by
 cases d with
 |ref n=>
  rw[vd]at h;rw[nR];split at h<;>first|(rename_i e;rw[e];rfl)|rfl|cases h
 |fn x=>simp[vd]at h
 |_=>rfl
theorem GK{S:cZ}{d:D}(h:vd S d=M):gx S [d]=M:=by rw[gx,gx,h];rfl
theorem vd1'{S:cZ}{d:D}{ds:List D}(h:gx S (d::ds)=M):vd S d=M:=iM h mS1
theorem vE{d:D}{S:cZ}{Q:D×cZ->Prop}(c:dq S)(hv:vd S d=M)(q:Q (.bl (Ga d),S)):W (cY 1 fm [d] S) Q:=by
 refine tT O c (GK hv) λT _ a=>?_;have h1:=D6 (vd1' a);have h2:=Br (vd1' a);unfold fm;refine j3 ?_;unfold ou
 ((try walk_at"w");repeat(simp only[iY,h1,h2];try walk_at"w"))
 cases d with
 |int i=>exact⟨⟨[],(aK T).symm⟩,O,q⟩
 |bl b=>exact⟨⟨[],(aK T).symm⟩,O,q⟩
 |_=>exact⟨⟨[],(aK T).symm⟩,O,q⟩
theorem IB{f g:FN}{a b c:FE}{r:Ev}{S:cZ}{Q:D×cZ->Prop}:W (FX f g a b c r S) Q↔W (a r S) λp=>W (b r p.2) λq=>W (f [p.1,q.1] q.2) λt=>W (match t.1 with | .bl k=>if k=true then(c r t.2).bind λz=>g [q.1,z.1] z.2 else some (.bl false,t.2)|_=>none) Q:=by
 unfold FX;simp only[c4]
 try exact Iff.rfl
noncomputable def e6(m:Nat):D->Bool
 | .int i=>decide (0<=i)&&decide (i<m)
 |_=>J
theorem Dg{m:Nat}{d:D}(h:Ga d=J):e6 m d=J:=by
 cases d with
 |int i=>cases h
 |_=>rfl
theorem AV{d:D}(h:Ga d=M):∃i,d = .int i:=by
 cases d with
 |int i=>exact⟨i,O⟩
 |_=>cases h
theorem C9{r:Ev}{S:cZ}{m i:Nat}{j:Int}{c:FE}{Q:D×cZ->Prop}(hi:r[i]?=Z (Z (.int j)))(hc:c r S=Z (.int m,S))(q:Q (.bl (decide (0<=j)&&decide (j<m)),S)):W (FX (b2 (hh λi j=>decide (i<=j))) (b2 uk) (mC (D.int (0))) (mV i) c r S) Q:=by
 have e:mV i r S=Z (.int j,S):=by unfold mV;rw[hi]
 rw[IB];unfold mC;rw[dg];dsimp only;rw[e,dg];dsimp only;unfold b2 hh;dsimp only;rw[dg];dsimp only;cases h:decide (0<=j)with
 |false=>
  rw[aj (by decide),dg];rw[h]at q;exact q
 |true=>
  rw[ak O,hc,c4,dg];rw[h]at q;exact W.of O q
theorem jn{m:Nat}{d:D}{S:cZ}{Q:D×cZ->Prop}(e:dq S)(hv:vd S d=M)(q:Q (.bl (e6 m d),S)):W (cY 2 dV [d,.int m] S) Q:=by
 refine tT O e (by rw[gx,hv,gx,gx,vd];rfl) λT c b=>?_;have a:=vd1' b;unfold dV;refine j3 ?_;unfold ow;walk_at"w";refine vE c a ?_;walk_at"w";cases hw:Ga d with
 |false=>
  rw[aj (by decide)];rw[Dg hw]at q
  first|exact⟨⟨[],(aK T).symm⟩,rfl,q⟩|(rw[dg];exact⟨⟨[],(aK T).symm⟩,O,q⟩)
 |true=>
  rw[ak O];obtain⟨i,rfl⟩:=AV hw;refine C9 (m:=m) O O ?_
  try walk_at"w"
  exact⟨⟨[],(aK T).symm⟩,O,q⟩
mutual
def bd(k:Nat):D->Bool
 | .tup xs=>decide (xs.length<=k)&&jp k xs
 | .non=>M
 | .bl _=>M
 | .int _=>M
 | .str _=>M
 | .rol _=>J
 | .ref _=>M
 | .fn _=>J
def jp(k:Nat):List D->Bool
 |[]=>M
 |d::ds=>bd k d&&jp k ds
end
theorem gF{k:Nat}:∀xs:List D,jp k xs=xs.all (bd k)
 |[]=>by rw[jp];rfl
 |x::xs=>by rw[jp,gF xs];rfl
theorem uz{S:cZ}:∀xs:List D,gx S xs=xs.all (vd S)
 |[]=>by rw[gx];rfl
 |x::xs=>by rw[gx,uz xs];rfl
theorem ff{n:Nat}:∀xs:List D,D.unds n xs=xs.all (D.und n)
 |[]=>rfl
 |x::xs=>by rw[D.unds,ff xs];rfl
structure Ok (k:Nat)(S:cZ)(d:D):Prop where
 v:vd S d=true
 u:d.und S.length=true
 b:bd k d=true
theorem Ok.tup{k:Nat}{S:cZ}{xs:List D}(b:xs.length<=k)(h:∀x∈xs,Ok k S x):Ok k S (.tup xs):=by
 refine⟨?_,?_,?_⟩
 ·rw[vd,uz,bv];exact λx a=>(h x a).v
 ·rw[D.und,ff,bv];exact λx a=>(h x a).u
 ·rw[bd,gF,bA1,al,bv];exact⟨b,λx a=>(h x a).b⟩
theorem Ok.of{k:Nat}{S:cZ}{xs:List D}(h:Ok k S (.tup xs)):xs.length<=k /\ ∀x∈xs,Ok k S x:=by
 obtain⟨h1,h2,b⟩:=h;rw[vd,uz,bv]at h1;rw[D.und,ff,bv]at h2;rw[bd,gF,bA1,al,bv]at b;exact⟨b.1,λx a=>⟨h1 x a,h2 x a,b.2 x a⟩⟩
mutual
theorem vG{k:Nat}{S:cZ}:∀{d:D},bd k d=M->d.und 0=M->vd S d=M
 | .non,_,_=>by rw[vd]
 | .bl _,_,_=>by rw[vd]
 | .int _,_,_=>by rw[vd]
 | .str _,_,_=>by rw[vd]
 | .tup xs,v,h=>by
  rw[D.und]at h;rw[bd,bA1]at v;rw[vd];exact yi v.2 h
 | .rol xs,v,h=>by simp[bd]at v
 | .ref k,_,h=>by simp[D.und]at h
 | .fn x,v,_=>by simp[bd]at v
theorem yi{k:Nat}{S:cZ}:∀{ds:List D},jp k ds=M->D.unds 0 ds=M->gx S ds=M
 |[],_,_=>by rw[gx]
 |d::ds,v,h=>by
  rw[D.unds,bA1]at h;rw[jp,bA1]at v;rw[gx,vG v.1 h.1,yi v.2 h.2];rfl
end
theorem Ok.shut{k:Nat}{S:cZ}{d:D}(h:d.und 0=M)(hb:bd k d=M):Ok k S d:=⟨vG hb h,eQ h,hb⟩
theorem Ok.lst{k n:Nat}{S:cZ}{xs:List D}(h:S[n]?=Z (.lst xs)):Ok k S (.ref n):=⟨by rw[vd,h],by rw[D.und,al];exact(gE1.mp h).1,by rw[bd]⟩
theorem Ok.dct{k n:Nat}{S:cZ}{xs:List (Key×D)}(h:S[n]?=Z (.dct xs)):Ok k S (.ref n):=⟨by rw[vd,h],by rw[D.und,al];exact(gE1.mp h).1,by rw[bd]⟩
theorem Ok.nm{k:Nat}{S:cZ}{rs:List Nat}(h:rs.length<=k):Ok k S (.tup (nmD rs)):=Ok.tup (by rw[eT];exact h) λx a=>by
 obtain⟨i,_,rfl⟩:=b7.mp a;exact .shut O (by rw[bd])
mutual
theorem pZ{S a:cZ}(h:∀n,vd S (.ref n)=M->vd a (.ref n)=M):∀{d:D},vd S d=M->vd a d=M
 | .non,_=>by rw[vd]
 | .bl _,_=>by rw[vd]
 | .int _,_=>by rw[vd]
 | .str _,_=>by rw[vd]
 | .tup xs,q=>by rw[vd]at q ⊢;exact mZ h q
 | .rol xs,q=>by rw[vd]at q ⊢;exact mZ h q
 | .ref n,q=>h n q
 | .fn x,q=>by simp[vd]at q
theorem mZ{S a:cZ}(h:∀n,vd S (.ref n)=M->vd a (.ref n)=M):∀{ds:List D},gx S ds=M->gx a ds=M
 |[],_=>by rw[gx]
 |d::ds,q=>by
  rw[gx,bA1]at q;rw[gx,pZ h q.1,mZ h q.2];rfl
end
section
variable{k n N:Nat}{r:Ev}{o:Ob}{T:cZ}{e:FE}{a:FA}{d:D}
theorem zt{k:Nat}{S:cZ}{L:List D}(h:∀x∈L,Ok k S x):D.unds S.length L=M:=by rw[ff,bv];exact λx a=>(h x a).u
end
theorem J0(xs:List D)(k:Nat):Mi.ol xs (Z (k:Int)) Y=xs.drop k:=by
 unfold Mi.ol;rw[HT.sv,HT.vU];by_cases h:k<=xs.length
 ·rw[Nat.min_eq_left h,b0 (by simp)]
 ·rw[Nat.min_eq_right (by lia),List.drop_length,List.drop_of_length_le (by lia)];simp
section
variable{k n m N:Nat}{r:Ev}{o:Ob}{T:cZ}{a:FA}{d:D}{S:cZ}
theorem vt{e f:FE}{xs ys:List D}(ha:∀S,e r S=Z (.tup xs,S))(hb:∀S,f r S=Z (.tup ys,S))(a:xs.length+ys.length<=1000):∀S,m2 (b2 dS) e f r S=Z (.tup (xs++ys),S):=λS=>by
 unfold m2;rw[ha,oS1,hb,oS1];show(if xs.length+ys.length<=cO then _ else _)=_;rw[ak (aB a (by decide))]
end
section
variable{k N:Nat}{o:Ob}{T:cZ}{xs:List D}{x2:Option D}
end
theorem jU{d:D}(h:rX d=M):∃xs,d = .tup xs:=by
 cases d with
 |tup xs=>exact⟨xs,O⟩
 |_=>cases h
def Lo(d:D):Prop:=∀i,d = .int i->i.natAbs.log2<1920
theorem Dq{f:FN}{a b:FE}{r:Ev}{S:cZ}{Q:D×cZ->Prop}(h:W (a r S) λp=>W (b r p.2) λq=>W (f [p.1,q.1] q.2) Q):W (m2 f a b r S) Q:=by
 unfold m2;rw[c4];exact h.mono λp c=>by rw[c4];exact c
section
variable{k n m N:Nat}{r:Ev}{o:Ob}{T:cZ}{a:FA}{d:D}{S:cZ}{y:Option D}
end
theorem j2{T:Ty}{m:FE}{r:Ev}{S:cZ}{Q:D×cZ->Prop}:W (iY T m r S) Q↔W (m r S) λp=>W (nR p.2 T p.1) λb=>Q (.bl b,p.2):=by
 unfold iY;rw[c4];simp only[jJ]
def Kg:Nat->D->Prop
 |0,d=>Lo d
 |n+1,d=>Lo d /\ ∀xs,d = .tup xs -> ∀x∈xs,Kg n x
theorem Kg.lo:∀{n:Nat} {d:D},Kg n d->Lo d
 |0,_,h=>h
 |_+1,_,h=>h.1
def Up(T V:cZ):Prop:=(∃G,V=T++G)/\dq V
theorem Up.refl{T:cZ}(h:dq T):Up T T:=⟨⟨[],by rw[aK]⟩,h⟩
theorem Up.trans{T V U:cZ}(a:Up T V)(b:Up V U):Up T U:=by
 obtain⟨⟨G,rfl⟩,_⟩:=a;obtain⟨⟨c,rfl⟩,h⟩:=b;exact⟨⟨G++c,by rw[bB]⟩,h⟩
theorem Up.app{T V:cZ}{o:Ob}(a:Up T V)(h:o.und 0=M):Up T (V++[o]):=by
 refine a.trans ⟨⟨_,O⟩,sr a.2 λx b=>?_⟩;rw[cr.mp b];exact gA (bf _) h
theorem Up.vd{T V:cZ}{d:D}(a:Up T V)(h:vd T d=M):vd V d=M:=by
 obtain⟨⟨G,rfl⟩,_⟩:=a;refine pZ (λn b=>?_) h;rw[Law.vd]at b ⊢;cases e:T[n]? with
 |none=>rw[e]at b;cases b
 |some x=>
  rw[gL1 (gE1.mp e).1,e];rw[e]at b;exact b
theorem hZ{α:Type}{f:α->Bool}(xs:List α):(Ob.lst (xs.map λx=>D.bl (f x))).und 0=M:=by
 rw[Ob.und];exact Mi.d2 λ_ _=>rfl
theorem iD{c:FT}{k:FS}{r:Ev}{T:cZ}{b:Bool}{Q:Fl×Ev×cZ->Prop}(hc:W (c r T) λp=>Up T p.2/\p.1 = !b)(f:b=J -> ∀V,Up T V->Q (.rt (.bl J),r,V))(h1:b=M -> ∀V,Up T V->W (k r V) Q):W (c7 (ew c (dD (mC (D.bl J))) iC) k r T) Q:=by
 obtain⟨⟨g,V⟩,e,a,d⟩:=hc;dsimp only at a d;subst d;unfold c7 ew;rw[e,oS1];cases b with
 |false=>exact dg.mpr (f O V a)
 |true=>exact h1 O V a
theorem rO{α:Type}{n:Nat}{S:cZ}{xs:List α}{f:α->Bool}{Q:D×cZ->Prop}(h:S[n]?=Z (.lst (xs.map λx=>.bl (f x))))(q:Q (.bl (xs.all f),S)):W (jW (.ref n) S) Q:=by
 refine W.of ?_ q;unfold jW;rw[ic h,oS1];dsimp only;rw[t9 (f:=f)];simp
theorem hD{a:FE}{b:FA}{r:Ev}{S:cZ}{Q:List D×cZ->Prop}(h:W (a r S) λp=>W (b r p.2) λq=>Q (p.1::q.1,q.2)):W (cV a b r S) Q:=by
 unfold cV;rw[c4];simp only[c4,dg];exact h
theorem ub{f:G1}{a:FE}{r:Ev}{S:cZ}{Q:D×cZ->Prop}(h:W (a r S) λp=>W (f p.1 p.2) Q):W (mN (b1 f) (cV a cW) r S) Q:=by
 unfold mN;rw[c4];exact hD (h.mono λp b=>W.of O b)
theorem oy{e:FE}{f:D->Bool}{keep:List Nat}{r P:Ev}{T:cZ}{xs:List D}{g:FE}(a:∀ S,g r S=some (.tup xs,S))(d:xs.length<=1000)(c:kK 1 keep r=none::P)(hg:∀ x∈xs,W (e (some x::P) T) fun p=>p=(.bl (f x),T)):
  W (mN (b1 jW) (cV (dN 1 keep (ej g) (gN 0) dI (dA e)) cW) r T) λp=>p=(.bl (xs.all f),T++[.lst (xs.map λx=>.bl (f x))]):=by
 refine ub ?_;rw[iw,jc,a,dg];dsimp only;rw[qj];dsimp only;rw[c];refine(λh=>by rwa [ck]at h:∀{Q},W (en [] (gN 0) dI (dA e) (xs.map id) (Y::P) T) Q->W (en [] (gN 0) dI (dA e) xs (Y::P) T) Q) ?_;refine s9 (f:=id) (λx=>D.bl (f x)) (λr=>∃x,r=x::P) O xs _ ⟨_,O⟩ ?_ ?_
 ·rintro x b r ⟨y,rfl⟩;unfold gN dI;rw[dg];dsimp only;rw[dg];refine⟨O,?_⟩;refine(hg x b).mono ?_;rintro p rfl;exact⟨O,O,_,O⟩
 ·rintro i _;refine⟨dz (by rw[lM1];lia),?_⟩;refine rO (xs:=xs) (f:=f) (by rw[dX];rfl) ?_;rfl
noncomputable def natD:D->Nat
 | .int i=>i.toNat
 |_=>0
theorem jo{m:Nat}{d:D}(h:e6 m d=M):d = .int (natD d:Nat)/\natD d<m:=by
 cases d with
 |int i=>
  rw[e6,bA1,al,al]at h;rw[natD,Int.toNat_of_nonneg h.1];exact⟨O,by lia⟩
 |_=>cases h
theorem uV{m:Nat}{xs:List D}(h:xs.all (e6 m)=M):xs=nmD (xs.map natD) /\ ∀r∈xs.map natD,r<m:=by
 rw[bv]at h;refine⟨?_,λr b=>?_⟩
 ·unfold nmD;rw[bq]
  conv=>lhs;rw[<- ck xs]
  exact cj λx a=>(jo (h x a)).1
 ·obtain⟨x,a,rfl⟩:=b7.mp b;exact(jo (h x a)).2
noncomputable def inc(rs:List Nat):Bool:=(af (rs.length-1)).all λi=>decide (rs.getD i 0<rs.getD (i+1) 0)
theorem yT{rs:List Nat}{S:cZ}{Q:D×cZ->Prop}(c:rs.length<=1000)(q:Q (.bl (inc rs),S)):W (cY 1 eU [.tup (nmD rs)] S) Q:=by
 refine kX O (by rw[D.unds,D.und,fC];rfl) ?_;unfold eU;refine j3 ?_;unfold ma;walk_at"w";rw[eT];refine⟨AU (by lia) (by lia),?_⟩;rw[kC,show((rs.length:Int)-1).toNat=rs.length-1 by lia];have a:∀(i:Nat) (h:i<rs.length) (S:cZ),da (.tup (nmD rs)) (.int (i:Nat)) S=Z (.int (rs[i]:Nat),S):=λi h S=>by
  obtain⟨p,e,rfl⟩:W (da (.tup (nmD rs)) (.int (i:Nat)) S) λp=>p=(.int (rs[i]:Nat),S):=wx (by unfold nmD;rw[gP1,gG1 h];rfl) O;exact e
 refine s9 (f:=λj:Nat=>D.int j) (λi=>D.bl (decide (rs.getD i 0<rs.getD (i+1) 0))) (λb=>∃x,b=[x,Z (.tup (nmD rs))]) O (af (rs.length-1)) _ ⟨_,O⟩ ?_ ?_
 ·rintro i hi b ⟨x,rfl⟩;have hi:=aA.mp hi;have h1:i<rs.length:=by lia
  have h2:i+1<rs.length:=by lia
  ((try walk_at"w");repeat(simp only[a i h1];try walk_at"w"))
  rw[show((i:Int)+1)=((i+1:Nat):Int) by push_cast;rfl]
  ((try walk_at"w");repeat(simp only[a (i+1) h2];try walk_at"w"))
  refine⟨?_,_,O⟩;rw[bE,bE,gG1 h1,gG1 h2];simp
 ·rintro b _;refine⟨dz (by rw[lM1,cE];lia),?_⟩;walk_at"w";refine rO (n:=0) (xs:=af (rs.length-1)) (f:=λi=>decide (rs.getD i 0<rs.getD (i+1) 0)) O ?_
  first|exact⟨rfl,q⟩|(walk_at"w";exact⟨O,q⟩)
def mE(m:Nat):D->Bool
 | .tup xs=> !xs.isEmpty&&(xs.all (e6 m)&&inc (xs.map natD))
 |_=>J
def jY(m:Nat):D->Bool
 | .tup xs=>xs.all (mE m)
 |_=>J
structure KJ (n:Nat)(ch:List Nat):Prop where
 lt:∀k∈ch,k<n
 pw:ch.Pairwise (· < ·)
 ne:0<ch.length
theorem Av{n:Nat}:∀{ch:List Nat} {a:Nat},ch.Pairwise (· < ·)->(∀k∈ch,k<n/\a<=k)->ch.length<=n-a
 |[],_,_,_=>bf _
 |x::ch,a,h,hk=>by
  rw[bW]at h;have h1:=hk x mS1;have:=Av (a:=x+1) h.2 λk b=>⟨(hk k (mC1 _ b)).1,h.1 k b⟩;rw[lC1];lia
theorem KJ.few{n:Nat}{ch:List Nat}(h:KJ n ch):ch.length<=n:=Av (a:=0) h.pw λk b=>⟨h.lt k b,bf _⟩
theorem ot{k:Nat}{xs:List D}{x:D}(h:bd k (.tup xs)=M)(hx:x∈xs):bd k x=M:=by
 rw[bd,gF,bA1,bv]at h;exact h.2 x hx
theorem jZ{k:Nat}{xs:List D}(h:bd k (.tup xs)=M):xs.length<=k:=by
 rw[bd,bA1,al]at h;exact h.1
theorem gK{S:cZ}{xs:List D}{x:D}(h:vd S (.tup xs)=M)(hx:x∈xs):vd S x=M:=by
 rw[vd]at h;exact iM h hx
def JW:D->Bool
 | .tup xs=>xs.isEmpty
 |_=>J
theorem u7{m:Nat}{d:D}{S:cZ}{Q:D×cZ->Prop}(s:dq S)(hv:vd S d=M)(hb:bd 1000 d=M)(q:Q (.bl (mE m d),S)):W (cY 2 fu [.int m,d] S) Q:=by
 refine tT O s (by rw[gx,gx,hv,gx,vd];rfl) λT l j=>?_;have i:vd T d=M:=iM j (by simp);have h1:=p7 i;unfold fu;refine j3 ?_;unfold me;refine iD (b:=rX d && !JW d) ?_ ?_ ?_
 ·cases ht:rX d with
  |false=>
   ((try walk_at"w");repeat(simp only[j2,h1,ht];try walk_at"w"))
   exact⟨Up.refl l,O⟩
  |true=>
   obtain⟨xs,rfl⟩:=jU ht
   ((try walk_at"w");repeat(simp only[j2,h1,ht];try walk_at"w"))
   refine⟨Up.refl l,?_⟩;cases xs with
   |nil=>rfl
   |cons x xs=>exact beq_eq_false_iff_ne.mpr (by push_cast [lC1];lia)
 ·intro a V h;refine ⟨h.1,rfl,?_⟩;have:mE m d=false:=by
   cases d with
   |tup xs=>
    rw[mE];rw[show rX (.tup xs)=M from rfl,cC]at a;rw[JW]at a;rw[a];rfl
   |_=>rfl
  rw[this]at q;exact q
 ·intro a V h;rw[bA1]at a;obtain⟨xs,rfl⟩:=jU a.1;have k:=a.2;rw[JW]at k;have t:mE m (.tup xs)=(xs.all (e6 m)&&inc (xs.map natD)):=by rw[mE,k];rfl
  rw[t]at q;have o:=oy (e:=mN (cY 2 dV) (cV (mV 0) (cV (mV 1) cW))) (f:=e6 m) (keep:=[0]) (r:=d7 2 [.int m,.tup xs]) (P:=[Z (.int m)]) (T:=V) (xs:=xs) (g:=mV 1) (λ_=>rfl) (jZ hb) O λx u=>by
   walk_at"w";exact jn h.2 (h.vd (gK i u)) O
  obtain⟨p,e,rfl⟩:=o;have c:=h.app (hZ (f:=e6 m) xs);unfold dD;rw[c4];unfold fY;rw[c4];refine W.of e ?_;cases hall:xs.all (e6 m)with
  |false=>
   rw[hall]at q;walk_at"w";exact⟨c.1,O,q⟩
  |true=>
   obtain⟨n,_⟩:=uV hall;rw[hall,cC]at q;walk_at"w";rw[n];refine yT (by rw[lM1];exact jZ hb) ?_;walk_at"w";refine⟨?_,O,q⟩;rw[<- n];exact c.1
theorem gt{m:Nat}{d:D}{S:cZ}{Q:D×cZ->Prop}(k:dq S)(hv:vd S d=M)(hb:bd 1000 d=M)(q:Q (.bl (jY m d),S)):W (cY 2 eO [.int m,d] S) Q:=by
 refine tT O k (by rw[gx,gx,hv,gx,vd];rfl) λT h b=>?_;have a:vd T d=M:=iM b (by simp);have h1:=p7 a;unfold eO;refine j3 ?_;unfold jI;unfold dD;rw[c4];unfold fY;rw[c4];cases ht:rX d with
 |false=>
  ((try walk_at"w");repeat(simp only[j2,h1,ht];try walk_at"w"))
  have:jY m d=J:=by
   cases d with
   |tup xs=>cases ht
   |_=>rfl
  rw[this]at q;exact⟨⟨[],(aK T).symm⟩,O,q⟩
 |true=>
  obtain⟨xs,rfl⟩:=jU ht;rw[jY]at q;have j:iY .tuple (mV 1) (d7 2 [.int m,.tup xs]) T=Z (.bl M,T):=by
   obtain⟨p,e,rfl⟩:W (iY .tuple (mV 1) (d7 2 [.int m,.tup xs]) T) λp=>p=(.bl true,T):=by
    ((try walk_at"w");repeat(simp only[j2,h1,ht];try walk_at"w"))
   exact e
  refine W.of j ?_;dsimp only;have i:=oy (e:=mN (cY 2 fu) (cV (mV 1) (cV (mV 0) cW))) (f:=mE m) (keep:=[0]) (r:=d7 2 [.int m,.tup xs]) (P:=[Z (.int m)]) (T:=T) (xs:=xs) (g:=mV 1) (λ_=>rfl) (jZ hb) O λx c=>by
   walk_at"w";exact u7 h (gK a c) (ot hb c) O
  obtain⟨p,e,rfl⟩:=i;rw[e];walk_at"w";exact⟨⟨_,O⟩,O,q⟩
noncomputable def oG(a:Wh):Bool:=match a.1 with
 |[]=>M
 |u::us=>us.all λv=>decide (v.1=u.1)
theorem we{a:Wh}{S:cZ}{Q:D×cZ->Prop}(l:0<a.1.length)(g:a.1.length<=100)(q:Q (.bl (oG a),S)):W (cY 1 eG [whD a] S) Q:=by
 refine kX O (by rw[D.unds,je];rfl) ?_;obtain⟨ws,cs⟩:=a;cases ws with
 |nil=>cases l
 |cons u d=>
  dsimp only at g;rw[oG]at q;dsimp only at q;have h:∀S,da (whD (u::d,cs)) (.int 0) S=Z (.tup ((u::d).map ia),S):=λS=>rfl;have j:∀S,da (.tup ((u::d).map ia)) (.int 0) S=Z (ia u,S):=λS=>by
   obtain⟨p,e,rfl⟩:W (da (.tup ((u::d).map ia)) (.int ((0:Nat):Int)) S) λp=>p=(ia u,S):=wx O O;exact e
  have k:∀S,da (ia u) (.int 0) S=Z (.int (u.1:Nat),S):=λS=>rfl;unfold eG;refine j3 ?_;unfold tZ;refine dW (λr V=>V=[]/\r=[Z (whD (u::d,cs)),Z (.int (u.1:Nat))]) ?_ ?_
  ·rw [show d7 2 [whD (u::d,cs)]=[some (whD (u::d,cs)),none] from rfl];have i:m2 (b2 da) (m2 (b2 da) (m2 (b2 da) (mV 0) (mC (D.int 0))) (mC (D.int 0))) (mC (D.int 0)) [some (whD (u::d,cs)),none] []=some (.int (u.1:Nat),[]):=by
    simp only[m2,b2,mV,mC,cm,oS1,h,j,k]
   unfold de;rw[c4];refine W.of i ?_;exact W.of O ⟨O,O,O⟩
  rintro r V ⟨rfl,rfl⟩;unfold dD;rw[c4];refine ub ?_;rw[iw,jc];refine W.of (x:=(.tup ((u::d).map ia),[])) O ?_;dsimp only;rw[qj];dsimp only;rw[show kK 3 [1] [Z (whD (u::d,cs)),Z (D.int (u.1:Nat))]=[Y,Y,Y,Z (.int (u.1:Nat))]from rfl];refine s9 (f:=ia) (λv=>D.bl (decide (v.1=u.1))) (λr=>∃a b c,r=[a,b,c,Z (.int (u.1:Nat))]) O (u::d) _ ⟨_,_,_,O⟩ ?_ ?_
  ·rintro v _ r ⟨a,b,c,rfl⟩;unfold ia;walk_at"w";refine⟨?_,_,_,_,O⟩;refine congrArg D.bl ?_;rw[bM,beq_iff_eq,al];lia
  ·rintro m _;refine⟨dz (by rw[lM1];lia),?_⟩;refine rO (n:=0) (xs:=u::d) (f:=λv=>decide (v.1=u.1)) O ?_;rw[bK,ah O,cC];exact W.of O ⟨O,q⟩
theorem lU{m:FE}{r:Ev}{S:cZ}{Q:Fl×Ev×cZ->Prop}(h:W (m r S) λp=>Q (.rt p.1,r,p.2)):W (dD m r S) Q:=by
 unfold dD;rw[c4];exact h.mono λp a=>dg.mpr a
theorem lA{n:Nat}{f:FN}{as bs:List D}{S:cZ}{Q:D×cZ->Prop}(hn:(as++bs).length=n)(b:dq S)(ha:D.unds 0 as=M)(hv:gx S bs=M)(h:∀T,dq T->gx T bs=M->W (f (as++bs) T) λp=>Up T p.2/\p.1.und 0=M/\Q (p.1,S)):W (cY n f (as++bs) S) Q:=by
 cases hu:D.unds 0 (as++bs)with
 |true=>
  have c:D.unds 0 bs=M:=by
   rw[ff,cq,bA1]at hu;rw[ff];exact hu.2
  exact kX hn hu ((h [] rfl (m4 hv c)).mono λp q=>⟨q.2.1,q.2.2⟩)
 |false=>
  refine tS hn hu ((h S b hv).mono ?_);rintro⟨d,V⟩ ⟨⟨⟨G,e⟩,_⟩,a,q⟩;dsimp only at e a q;subst e;rw[Am a b];exact q
theorem pb{A B:FE}{r:Ev}{T:cZ}{a b:Bool}(h:W (A r T) λp=>p.1 = .bl a/\Up T p.2)(j:a=M -> ∀V,Up T V->W (B r V) λp=>p.1 = .bl b/\Up V p.2):W (ms (fE (jT A)) (fE (jT B)) r T) λp=>Up T p.2/\p.1 = !(a&&b):=by
 obtain⟨⟨d,V⟩,f,c,e⟩:=h;dsimp only at c e;subst c;cases a with
 |false=>
  refine W.of (x:=(M,V)) ?_ ⟨e,O⟩;simp only[ms,fE,jT,f,oS1,iN,oP1,Bool.not_false,if_true]
 |true=>
  obtain⟨⟨d,U⟩,i,c,g⟩:=j O V e;dsimp only at c g;subst c;refine W.of (x:=(!b,U)) ?_ ⟨e.trans g,O⟩;simp only[ms,fE,jT,f,i,oS1,iN,oP1,bV,bF1,if_false]
theorem vq{A B:FE}{r:Ev}{T:cZ}{a b:Bool}(h:W (A r T) λp=>p.1 = .bl a/\Up T p.2)(j:a=M -> ∀V,Up T V->W (B r V) λp=>p.1 = .bl b/\Up V p.2):W (fY A B r T) λp=>p.1 = .bl (a&&b)/\Up T p.2:=by
 obtain⟨⟨d,V⟩,f,c,e⟩:=h;dsimp only at c e;subst c;cases a with
 |false=>
  refine W.of (x:=(.bl J,V)) ?_ ⟨O,e⟩;simp only[fY,f,oS1,iN,bF1,if_false]
 |true=>
  obtain⟨⟨d,U⟩,i,c,g⟩:=j O V e;dsimp only at c g;subst c;refine W.of (x:=(.bl b,U)) ?_ ⟨by rw[cC],e.trans g⟩;simp only[fY,f,i,oS1,iN,if_true]
theorem jr{n:Nat}{f:FN}{ds:List D}{a:FA}{r:Ev}{T:cZ}{b:Bool}(c:dq T)(ha:a r T=Z (ds,T))(h:∀Q:D×cZ->Prop,Q (.bl b,T)->W (cY n f ds T) Q):W (mN (cY n f) a r T) λp=>p.1 = .bl b/\Up T p.2:=by
 unfold mN;rw[c4];exact W.of ha (h _ ⟨O,Up.refl c⟩)
theorem DH{d:D}{i:Nat}{r:Ev}{T:cZ}(a:dq T)(hi:r[i]?=Z (Z d))(hv:vd T d=M):W (iY .tuple (mV i) r T) λp=>p.1 = .bl (rX d)/\Up T p.2:=by
 have e:∀S,mV i r S=Z (d,S):=λS=>by unfold mV;rw[hi]
 rw[j2,e,dg];dsimp only;rw[p7 hv,dg];exact⟨O,Up.refl a⟩
def tl(n:Nat):D->Bool
 | .tup xs=>decide (xs.length=n)
 |_=>J
theorem ng{n:Nat}{d:D}(h:tl n d=M):∃xs,d = .tup xs/\xs.length=n:=by
 cases d with
 |tup xs=>exact⟨xs,O,of_decide_eq_true h⟩
 |_=>cases h
theorem p8{d:D}{n:Nat}{S:cZ}{Q:D×cZ->Prop}(c:dq S)(hv:vd S d=M)(q:Q (.bl (tl n d),S)):W (cY 2 dY [d,.int n] S) Q:=by
 refine tT O c (by rw[gx,hv,gx,gx];rfl) λT e a=>?_;have b:=p7 (iM a mS1);unfold dY;refine j3 ?_;unfold jH;cases hi:rX d with
 |false=>
  ((try walk_at"w");repeat(simp only[j2,b,hi];try walk_at"w"))
  have:tl n d=J:=by cases d with
   |tup xs=>cases hi
   |_=>rfl
  rw[this]at q;exact⟨⟨[],(aK _).symm⟩,O,q⟩
 |true=>
  obtain⟨xs,rfl⟩:=jU hi
  ((try walk_at"w");repeat(simp only[j2,b,hi,gU];try walk_at"w"))
  have:((xs.length:Int) == (n:Int))=tl n (.tup xs):=by
   rw[tl,bM,beq_iff_eq,al];lia
  rw[this];exact⟨⟨[],(aK _).symm⟩,O,q⟩
def sw(m:Nat):D->Bool
 | .tup xs=>xs.all (e6 m)&&inc (xs.map natD)
 |_=>J
noncomputable def rowL(w:df)(i:Nat):Nat:=((w[i]?).getD []).length
def mI(m:Nat)(w:df):D->Bool
 | .tup [r,c,d]=>e6 m r&&(e6 (rowL w (natD r)+1) c&&e6 4000 d)
 |_=>J
def sD:D->List D
 | .tup xs=>xs
 |_=>[]
def mj(m:Nat)(w:df)(n:Nat):D->Bool
 | .tup [a,b]=>tl n a&&((sD a).all (mI m w)&&sw m b)
 |_=>J
theorem BC{m:Nat}{w:df}{d:D}{S:cZ}{Q:D×cZ->Prop}(hw:fH m w)(s:dq S)(hv:vd S d=M)(hb:bd 1000 d=M)(q:Q (.bl (sw m d),S)):W (cY 2 fW [dQ w,d] S) Q:=by
 refine lA (as:=[dQ w]) (bs:=[d]) O s (by rw[D.unds,fB];rfl) (GK hv) λT l j=>?_;have c:=vd1' j;have i:∀S,d4 (dQ w) S=Z (.int (m:Nat),S):=λS=>by rw[kH,hw.len]
 unfold fW;refine j3 ?_;unfold mf;refine iD (b:=rX d&&(match d with | .tup xs=>xs.all (e6 m)|_=>false)) (pb (DH l rfl c) λo V a=>?_) (λh V a=>?_) λh V a=>?_
 ·obtain ⟨xs,rfl⟩:=jU o;have n:=oy (e:=mN (cY 2 dV) (cV (mV 0) (cV (mN (b1 d4) (cV (mV 1) cW)) cW))) (f:=e6 m) (keep:=[0]) (r:=d7 2 [dQ w,.tup xs]) (P:=[some (dQ w)]) (T:=V) (xs:=xs) (g:=mV 1) (fun _=>rfl) (jZ hb) rfl fun x t=>by
   ((try walk_at"w");repeat(simp only[i];try walk_at"w"))
   exact jn a.2 (a.vd (gK c t)) O
  refine n.mono ?_;rintro p rfl;exact⟨O,(Up.refl a.2).app (hZ _)⟩
 ·refine ⟨a,rfl,?_⟩;have:sw m d=false:=by
   cases d with
   |tup xs=>rw[sw];rw[show rX (.tup xs)=M from rfl,cC]at h;dsimp only at h;rw[h];rfl
   |_=>rfl
  rw[this]at q;exact q
 ·rw[bA1]at h;obtain⟨xs,rfl⟩:=jU h.1;have h2:=h.2;dsimp only at h2;obtain⟨k,_⟩:=uV h2;rw[sw,h2,cC]at q;refine lU ?_;refine W.mono (Q:=λp=>p=(.bl (inc (xs.map natD)),V)) ?_ ?_
  ·walk_at"w";rw[k];refine yT (by rw[lM1];exact jZ hb) ?_;rw[<- k]
  ·rintro p rfl;exact⟨a,O,q⟩
theorem row_at{m:Nat}{w:df}(hw:fH m w){i:Nat}(h:i<m):∃a:D,(∀S,da (dQ w) (.int (i:Nat)) S=Z (a,S)) /\ ∀S,d4 a S=Z (.int (rowL w i:Nat),S):=by
 have hi:i<w.length:=by rw[hw.len];exact h
 refine⟨.tup (w[i].map pD),λS=>?_,λS=>?_⟩
 ·obtain⟨p,e,rfl⟩:W (da (dQ w) (.int (i:Nat)) S) λp=>p=(.tup (w[i].map pD),S):=wx (by rw[gP1,gG1 hi];rfl) O;exact e
 ·unfold rowL;rw[gU,lM1,gG1 hi];rfl
theorem yh{m:Nat}{w:df}{d:D}{S:cZ}{Q:D×cZ->Prop}(hw:fH m w)(y:dq S)(hv:vd S d=M)(q:Q (.bl (mI m w d),S)):W (cY 2 ft [dQ w,d] S) Q:=by
 refine lA (as:=[dQ w]) (bs:=[d]) O y (by rw[D.unds,fB];rfl) (GK hv) λT l i=>?_;have f:=vd1' i;have g:∀S,d4 (dQ w) S=Z (.int (m:Nat),S):=λS=>by rw[kH,hw.len]
 unfold ft;refine j3 ?_;unfold l9;refine iD (b:=tl 3 d&&(match d with | .tup (r::_)=>e6 m r|_=>false)) (pb (jr l (ds:=[d,.int (3:Nat)]) O λQ q=>p8 l f q) λv V e=>?_) (λh V e=>?_) λh V e=>?_
 ·obtain⟨xs,rfl,k⟩:=ng v
  match xs,k with
  |[r,c,z],_=>
   refine jr e.2 (ds:=[r,.int (m:Nat)]) ?_ λQ q=>jn e.2 (e.vd (gK f (by simp))) q;simp only[cV,cW,m2,b2,mV,mC,mN,b1,d7,mP1,aV,lC1,aY,cm,gC1,bg,oS1,g];rfl
 ·refine ⟨e,rfl,?_⟩;have:mI m w d=false:=by
   cases d with
   |tup xs=>
    match xs with
    |[r,c,z]=>rw[show tl 3 (.tup [r,c,z])=M from rfl,cC]at h;rw[mI];dsimp only at h;rw[h];rfl
    |[]=>rfl
    |[_]=>rfl
    |[_,_]=>rfl
    |_::_::_::_::_=>rfl
   |_=>rfl
  rw[this]at q;exact q
 ·rw[bA1]at h;obtain⟨xs,rfl,k⟩:=ng h.1
  match xs,k with
  |[r,c,z],_=>
   have h2:=h.2;dsimp only at h2;obtain⟨A,x⟩:=jo h2;rw[mI,h2,cC]at q;obtain⟨s,t,u⟩:=row_at hw x;refine dW (λn o=>o=V/\n=[Z (dQ w),Z (.tup [r,c,z]),Z r,Z c,Z z]) ?_ ?_
   ·walk_at"w"
   rintro n o ⟨rfl,rfl⟩;refine lU ?_;refine W.mono (vq (a:=e6 (rowL w (natD r)+1) c) (b:=e6 4000 z) (jr e.2 (ds:=[c,.int ((rowL w (natD r)+1:Nat):Int)]) ?_ λQ q=>jn e.2 (e.vd (gK f (by simp))) q) λ_ U j=>jr j.2 (ds:=[z,.int ((4000:Nat):Int)]) O λQ q=>jn j.2 ((e.trans j).vd (gK f (by simp))) q) ?_
   ·rw[A];rw[show natD (.int (natD r:Nat))=natD r from Int.toNat_natCast _];simp only[cV,cW,m2,b2,mV,mC,mN,b1,cm,gC1,oS1,t,u];rfl
   ·rintro⟨p,U⟩ ⟨h1,h2⟩;dsimp only at h1 h2;subst h1;exact⟨e.trans h2,O,q⟩
theorem wL{m n:Nat}{w:df}{d:D}{S:cZ}{Q:D×cZ->Prop}(hw:fH m w)(A:dq S)(hv:vd S d=M)(hb:bd 1000 d=M)(q:Q (.bl (mj m w n d),S)):W (cY 3 fc [dQ w,.int (n:Nat),d] S) Q:=by
 refine lA (as:=[dQ w,.int (n:Nat)]) (bs:=[d]) O A (by rw[D.unds,fB];rfl) (GK hv) λT v l=>?_;have i:=vd1' l;unfold fc;refine j3 ?_;unfold jG;refine iD (b:=tl 2 d&&tl n ((sD d).headD .non)) (pb (jr v (ds:=[d,.int (2:Nat)]) O λQ q=>p8 v i q) λz V c=>?_) (λh V c=>?_) λh V c=>?_
 ·obtain⟨xs,rfl,j⟩:=ng z
  match xs,j with
  |[a,b],_=>exact jr c.2 (ds:=[a,.int (n:Nat)]) O λQ q=>p8 c.2 (c.vd (gK i (by simp))) q
 ·refine ⟨c,rfl,?_⟩;have:mj m w n d=false:=by
   cases d with
   |tup xs=>
    match xs with
    |[a,b]=>rw[show tl 2 (.tup [a,b])=M from rfl,cC]at h;rw[mj];rw[show(sD (D.tup [a,b])).headD .non=a from rfl]at h;rw[h];rfl
    |[]=>rfl
    |[_]=>rfl
    |_::_::_::_=>rfl
   |_=>rfl
  rw[this]at q;exact q
 ·rw[bA1]at h;obtain⟨xs,rfl,j⟩:=ng h.1
  match xs,j with
  |[a,b],_=>
   have h2:=h.2;rw[show(sD (D.tup [a,b])).headD .non=a from rfl]at h2;obtain⟨ys,rfl,B⟩:=ng h2;rw[mj,h2,cC,show sD (.tup ys)=ys from rfl]at q;have s:=ot hb (x:=.tup ys) (by simp);have u:=ot hb (x:=b) (by simp);have t:=gK i (x:=.tup ys) (by simp);have k:=gK i (x:=b) (by simp);refine lU ?_;refine W.mono (vq (a:=ys.all (mI m w)) (b:=sw m b) ?_ λ_ U o=>?_) ?_
   ·have y:=oy (e:=mN (cY 2 ft) (cV (mV 1) (cV (mV 0) cW))) (f:=mI m w) (keep:=[0]) (r:=d7 3 [dQ w,.int (n:Nat),.tup [.tup ys,b]]) (P:=[some (dQ w)]) (T:=V) (xs:=ys) (g:=m2 (b2 da) (mV 2) (mC (D.int 0))) (fun _=>rfl) (jZ s) rfl fun x j=>by
     walk_at"w";exact yh hw c.2 (c.vd (gK t j)) O
    refine y.mono ?_;rintro p rfl;exact⟨O,(Up.refl c.2).app (hZ _)⟩
   ·exact jr o.2 (ds:=[dQ w,b]) O λQ q=>BC hw o.2 ((c.trans o).vd k) u q
   ·rintro⟨p,U⟩ ⟨h1,h2⟩;dsimp only at h1 h2;subst h1;exact⟨c.trans h2,O,q⟩
def GJ:D->Wk
 | .tup [a,b,c]=>(natD a,natD b,natD c)
 |_=>(0,0,0)
def GS(d:D):Wh:=((sD ((sD d).headD .non)).map GJ,(sD ((sD d).getD 1 .non)).map natD)
theorem D3{m:Nat}{w:df}{d:D}(h:mI m w d=M):d=ia (GJ d):=by
 cases d with
 |tup xs=>
  match xs with
  |[a,b,c]=>
   rw[mI,bA1,bA1]at h;obtain⟨h1,h2,f⟩:=h;have i:=(jo h1).1;have g:=(jo h2).1;have e:=(jo f).1;rw[i,g,e];rfl
  |[]=>cases h
  |[_]=>cases h
  |[_,_]=>cases h
  |_::_::_::_::_=>cases h
 |_=>cases h
theorem yg{m n:Nat}{w:df}{d:D}(h:mj m w n d=M):d=whD (GS d)/\(GS d).1.length=n:=by
 cases d with
 |tup xs=>
  match xs with
  |[a,b]=>
   rw[mj,bA1]at h;obtain⟨ys,rfl,e⟩:=ng h.1;have h2:=h.2;rw[bA1,show sD (.tup ys)=ys from rfl]at h2;cases b with
   |tup zs=>
    have c:=h2.2;rw[sw,bA1]at c;have g:=(uV c.1).1;have f:ys=(ys.map GJ).map ia:=by
     have:ys.map (ia∘GJ)=ys.map id:=cj λx i=>(D3 (bv.mp h2.1 x i)).symm;rw[bq,this,ck]
    refine⟨?_,?_⟩
    ·show D.tup [.tup ys,.tup zs] = .tup [.tup ((ys.map GJ).map ia),.tup (nmD (zs.map natD))];rw[<- f,<- g]
    ·show(ys.map GJ).length=n;rw[lM1,e]
   |_=>cases h2.2
  |[]=>cases h
  |[_]=>cases h
  |_::_::_::_=>cases h
 |_=>cases h
noncomputable def GL:D->Bool
 | .int i=>decide (0<=i)
 |_=>J
def jf(m:Nat)(w:df)(n:Nat):D->Bool
 | .tup [h,k,p]=>GL k&&(e6 n p&&(mj m w n h && !oG (GS h)))
 |_=>J
theorem Cg{A:FE}{r:Ev}{T:cZ}{a:Bool}(e:W (A r T) λp=>p.1 = .bl a/\Up T p.2):W (fE (jT A) r T) λp=>Up T p.2/\p.1 = !a:=by
 obtain⟨⟨d,V⟩,f,b,c⟩:=e;dsimp only at b c;subst b;exact W.of (x:=(!a,V)) (by simp only[fE,jT,f,oS1,iN,oP1]) ⟨c,O⟩
theorem DD{A B:FT}{r:Ev}{T:cZ}{a b:Bool}(h:W (A r T) λp=>Up T p.2/\p.1 = !a)(j:a=M -> ∀V,Up T V->W (B r V) λp=>Up V p.2/\p.1 = !b):W (ms A B r T) λp=>Up T p.2/\p.1 = !(a&&b):=by
 obtain⟨⟨d,V⟩,f,e,c⟩:=h;dsimp only at c e;subst c;cases a with
 |false=>exact W.of (x:=(M,V)) (by simp only[ms,f,oS1,Bool.not_false,if_true]) ⟨e,O⟩
 |true=>
  obtain⟨⟨d,U⟩,i,g,c⟩:=j O V e;dsimp only at c g;subst c;exact W.of (x:=(!b,U)) (by simp only[ms,f,i,oS1,bV,bF1,if_false]) ⟨e.trans g,by rw[cC]⟩
theorem JK{A:FE}{r:Ev}{T:cZ}{a:Bool}(e:W (A r T) λp=>p.1 = .bl a/\Up T p.2):W (lZ A r T) λp=>p.1 = .bl (!a)/\Up T p.2:=by
 obtain⟨⟨d,V⟩,f,b,c⟩:=e;dsimp only at b c;subst b;exact W.of (x:=(.bl (!a),V)) (by simp only[lZ,f,oS1,iN,oP1]) ⟨O,c⟩
theorem Et{m n:Nat}{w:df}{d:D}(h:tl 3 d=J):jf m w n d=J:=by
 cases d with
 |tup xs=>
  match xs with
  |[_,_,_]=>cases h
  |[]=>rfl
  |[_]=>rfl
  |[_,_]=>rfl
  |_::_::_::_::_=>rfl
 |_=>rfl
theorem yV{m n:Nat}{w:df}{d:D}{S:cZ}{Q:D×cZ->Prop}(hw:fH m w)(E:0<n)(C:n<=100)(B:dq S)(hv:vd S d=M)(hb:bd 1000 d=M)(q:Q (.bl (jf m w n d),S)):W (cY 3 eV [dQ w,.int (n:Nat),d] S) Q:=by
 refine lA (as:=[dQ w,.int (n:Nat)]) (bs:=[d]) O B (by rw[D.unds,fB];rfl) (GK hv) λT s o=>?_;have f:=vd1' o;unfold eV;refine j3 ?_;unfold md;refine iD (b:=tl 3 d) (Cg (jr s (ds:=[d,.int (3:Nat)]) O λQ q=>p8 s f q)) (λh V c=>?_) λh V c=>?_
 ·refine⟨c,O,?_⟩;rw[Et h]at q;exact q
 obtain⟨xs,rfl,z⟩:=ng h
 match xs,z with
 |[a,k,p],_=>
  have j:=c.vd (gK f (x:=a) (by simp));have r:=c.vd (gK f (x:=k) (by simp));have l:=c.vd (gK f (x:=p) (by simp));refine dW (λt u=>u=V/\t=[Z (dQ w),Z (.int (n:Nat)),Z (.tup [a,k,p]),Z a,Z k,Z p]) ?_ ?_
  ·walk_at"w"
  rintro t u ⟨rfl,rfl⟩;rw[jf]at q;refine iD (b:=Ga k&&(GL k&&e6 n p)) (DD (Cg (jr c.2 (ds:=[k]) O λQ q=>vE c.2 r q)) λv U e=>DD (a:=GL k) (b:=e6 n p) ?_ λ_ X g=>Cg (jr g.2 (ds:=[p,.int (n:Nat)]) O λQ q=>jn g.2 ((e.trans g).vd l) q)) (λh U e=>?_) λh U e=>?_
  ·obtain⟨i,rfl⟩:=AV v;walk_at"w";refine⟨Up.refl e.2,?_⟩;show decide (i<0) = !decide (0<=i);rw[bM];simp
  ·refine ⟨c.trans e,rfl,?_⟩;have:(GL k&&(e6 n p&&(mj m w n a && !oG (GS a))))=false:=by
    cases hi:Ga k with
    |true=>rw[hi,cC]at h;rw[<- Bool.and_assoc,h];rfl
    |false=>cases k with
     |int i=>cases hi
     |_=>rfl
   rw[this]at q;exact q
  ·rw[bA1]at h;rw[<- Bool.and_assoc,h.2,cC]at q;refine lU ?_;refine W.mono (vq (jr e.2 (ds:=[dQ w,.int (n:Nat),a]) O λQ q=>wL hw e.2 (e.vd j) (ot hb (by simp)) q) λA X g=>JK (a:=oG (GS a)) ?_) ?_
   ·obtain⟨y,F⟩:=yg A;refine jr g.2 (ds:=[a]) O λQ q=>?_;have:=we (Q:=Q) (by lia) (by lia) q
    rwa [<- y]at this
   ·rintro⟨p,U⟩ ⟨h1,h2⟩;dsimp only at h1 h2;subst h1;exact⟨(c.trans e).trans h2,O,q⟩
theorem Ok.up{k:Nat}{S V:cZ}{d:D}(h:Ok k S d)(a:Up S V):Ok k V d:=⟨a.vd h.v,by
 obtain⟨⟨G,rfl⟩,_⟩:=a;exact yo (by simp) h.u,h.b⟩
abbrev EB(B:D->Prop)(r:Ev)(e:FE):Prop:=∀S,dq S->W (e r S) λp=>Up S p.2/\Ok 1000 p.2 p.1/\B p.1
abbrev AB(B:D->Prop)(r:Ev)(n:Nat)(a:FA):Prop:=∀S,dq S->W (a r S) λp=>Up S p.2/\p.1.length=n /\ ∀x∈p.1,Ok 1000 p.2 x/\B x
def LB(B:D->Prop)(n:Nat)(S:cZ)(d:D):Prop:=∃k L,d = .ref k/\S[k]?=Z (.lst L)/\L.length=n /\ ∀x∈L,Ok 1000 S x/\B x
section
variable{B:D->Prop}{r:Ev}{n m:Nat}{a:FA}{e:FE}{S:cZ}{d d':D}
theorem fF(h:∀S,e r S=Z (d,S))(a:d.und 0=M)(hb:bd 1000 d=M)(q:B d):EB B r e:=λS b=>W.of (h S) ⟨Up.refl b,.shut a hb,q⟩
theorem iu:AB B r 0 cW:=λS a=>W.of O ⟨Up.refl a,O,λx h=>by cases h⟩
theorem c9(he:EB B r e)(ha:AB B r n a):AB B r (n+1) (cV e a):=λS g=>by
 refine hD ((he S g).mono ?_);rintro⟨x,V⟩ ⟨h1,h2,f⟩;refine(ha V h1.2).mono ?_;rintro⟨xs,U⟩ ⟨c,d,h⟩;refine⟨h1.trans c,by simpa using d,λy b=>?_⟩;rcases aD.mp b with rfl|b
 ·exact⟨h2.up c,f⟩
 ·exact h y b
theorem LB.up{V:cZ}(h:LB B n S d)(a:Up S V):LB B n V d:=by
 obtain⟨k,L,rfl,h1,h2,c⟩:=h;refine⟨k,L,O,?_,h2,λx b=>⟨(c x b).1.up a,(c x b).2⟩⟩;obtain⟨⟨G,rfl⟩,_⟩:=a;rw[gL1 (gE1.mp h1).1,h1]
theorem m9{L:List D}(a:dq S)(h:∀x∈L,Ok 1000 S x):Up S (S++[.lst L]):=by
 refine⟨⟨_,O⟩,?_⟩;unfold dq at a ⊢;rw[cq,bA1];refine⟨?_,?_⟩
 ·rw[bv]at a ⊢;exact λo b=>gA (by simp) (a o b)
 ·rw[bK,List.all_nil,bH,Ob.und];exact gM (by simp) (zt h)
theorem tm(ha:AB B r n a)(hn:n<=1000)(d:dq S):W (d8 a r S) λp=>Up S p.2/\LB B n p.2 p.1:=by
 rw[A3];refine(ha S d).mono ?_;rintro⟨L,V⟩ ⟨h1,h2,c⟩;dsimp only at h1 h2 c ⊢;have u:=m9 h1.2 λx b=>(c x b).1;refine⟨dz (by lia),h1.trans u,V.length,L,O,by rw[dX];rfl,h2,λx b=>⟨(c x b).1.up u,(c x b).2⟩⟩
theorem mK{q:D×cZ->Prop}(h1:LB B n S d)(h2:LB B m S d')(hn:n+m<=1000)(e:dq S)(f:∀d U,Up S U->LB B (n+m) U d->q (d,U)):W (dS d d' S) q:=by
 obtain⟨k,L,rfl,a1,a2,a3⟩:=h1;obtain⟨g,c,rfl,b1,b2,b3⟩:=h2;have b:∀x∈L++c,Ok 1000 S x/\B x:=λx a=>(aE.mp a).elim (a3 x) (b3 x);have u:=m9 e λx a=>(b x a).1;rw[GB a1 b1];refine⟨dz (by lia),f _ _ u ⟨S.length,L++c,O,by rw[dX];rfl,by rw[lA1];lia,λx a=>⟨(b x a).1.up u,(b x a).2⟩⟩⟩
theorem fP{i:Nat}(hi:r[i]?=Z (Z d))(h:LB B n S d)(ha:AB B r m a)(hn:n+m<=1000)(f:dq S):W (m2 (b2 dS) (mV i) (d8 a) r S) λp=>Up S p.2/\LB B (n+m) p.2 p.1:=by
 refine Dq ?_;have e:∀S,mV i r S=Z (d,S):=λS=>by unfold mV;rw[hi]
 rw[e,dg];dsimp only;refine(tm ha (by lia) f).mono ?_;rintro⟨x,V⟩ ⟨h1,h2⟩;exact mK (h.up h1) h2 hn h1.2 λd U c b=>⟨h1.trans c,b⟩
theorem gh{g:FG}{Q:Fl×Ev×cZ->Prop}{C:D×cZ->Prop}(he:W (e r S) C)(h:∀d V,C (d,V)->W (g d r V) λp=>Q (.nx,p.1,p.2)):W (de e g r S) Q:=by
 unfold de;rw[c4];refine he.mono ?_;rintro⟨d,V⟩ b;rw[c4];exact(h d V b).mono λp a=>dg.mpr a
end
theorem Ok.set{k n:Nat}{S:cZ}{L a:List D}{d:D}(hn:S[n]?=Z (.lst L))(h:Ok k S d):Ok k (S.set n (.lst a)) d:=by
 refine⟨pZ (λi hi=>?_) h.v,by rw[aS];exact h.u,h.b⟩;have b:=(gE1.mp hn).1;by_cases e:n=i
 ·subst e;rw[vd,aG b]
 ·rw[vd]at hi ⊢;rw[gS1 e];exact hi
theorem Al{v l:D->Prop}{e:FE}{f:Option D->Ev}{i j g n m:Nat}{L1 L:List D}{y:Option D}{S:cZ}(hg:∀ y d S,gN j d (f y) S=some (f (some d),S))(hi:∀ y,(f y)[i]? = some (some (.ref g)))(s:g≠n)(he:∀x S,v x->Ok 1000 S x->dq S->W (e (f (some x)) S) fun p=>p.2=S/\Ok 1000 S p.1/\l p.1)(h1:S[n]?=some (.lst L1))(h2:∀x∈L1,Ok 1000 S x/\v x)(F:S[g]?=some (.lst L))(H:L.length=m)(G:∀x∈L,Ok 1000 S x/\l x)(hm:m+L1.length<=1000)(K:dq S):
  W (jD [(n,L1)] (gN j) (fw (u4 (b2 kQ) (mV i) (cV e cW))) L1 (f y) S) λp=>p.1 = .nx /\ ∃y,p.2.1=f y/\dq p.2.2/\LB l (m+L1.length) p.2.2 (.ref g):=by
 refine fg (λk r S=>∃y L,r=f y/\dq S/\S[n]?=Z (.lst L1)/\(∀x∈L1,Ok 1000 S x)/\S[g]?=Z (.lst L)/\L.length=m+k /\ ∀x∈L,Ok 1000 S x/\l x) L1 0 _ _ ⟨y,L,O,K,h1,λx I=>(h2 x I).1,F,H,G⟩ ?_ ?_ ?_
 ·rintro k r S ⟨y,L,_,_,h,_⟩;exact fO h
 ·rintro k d B r S ⟨y,L,rfl,o,ao,w,c,u,t⟩;have N:=(gE1.mp B).1;have b:d∈L1:=List.mem_iff_getElem?.mpr ⟨k,B⟩;rw [bI] at u ⊢;rw [hg,dg];dsimp only;unfold fw;rw [c4];refine pP ?_;unfold mV;rw [hi,dg];refine ⟨g,L,rfl,c,?_⟩;refine hD ((he d S (h2 d b).2 (w d b) o).mono ?_);rintro ⟨x,am⟩ ⟨E,A,C⟩;dsimp only at E A C;subst E;refine W.of rfl ?_;dsimp only [b2];rw [ud c];have q:∀ z∈L++[x],Ok 1000 am z/\l z:=fun z a=>by
   rcases aE.mp a with a|a
   ·exact t z a
   ·rw[cr.mp a];exact⟨A,C⟩
  refine⟨dz (by lia),W.of O ⟨O,Z d,L++[x],O,kb o (by rw[Ob.und];exact zt λz a=>(q z a).1),?_,λz a=>(w z a).set c,aG (gE1.mp c).1,by simp;lia,λz a=>⟨(q z a).1.set c,(q z a).2⟩⟩⟩;rw[gS1 s];exact ao
 ·rintro r S ⟨y,L,rfl,o,_,_,c,u,t⟩;exact⟨O,y,O,o,g,L,O,c,by lia,t⟩
noncomputable def wz(r:Nat):D:=.tup [.int (r:Nat),.int 0,.int 0]
abbrev KL(rs:List Nat):D:=.tup (rs.map wz)
abbrev um(rs cs:List Nat):D:=.tup [KL rs,.tup (nmD cs)]
theorem yc(rs:List Nat):D.unds 0 (rs.map wz)=M:=by
 rw[ff,bL,bv];intro r _;rfl
theorem vD(rs:List Nat):jp 1000 (rs.map wz)=M:=by
 rw[gF,bL,bv];intro r _;rfl
theorem v7(rs:List Nat):jp 1000 (nmD rs)=M:=by
 rw[gF,bv];intro r a;obtain⟨k,_,rfl⟩:=b7.mp a;rfl
section
variable{m n:Nat}{w:df}{a b c d:D}
theorem yf(h:tl n a=J):mj m w n (.tup [a,b])=J:=by rw[mj,h];rfl
theorem r9(h:sw m b=J):mj m w n (.tup [a,b])=J:=by rw[mj,h,bU,bU]
theorem Jj{xs:List D}(h:mI m w a=J):mj m w n (.tup [.tup (a::xs),b])=J:=by rw[mj,sD,bK,h];exact bU _
theorem Bo(h:e6 (rowL w (natD a)+1) c=J):mI m w (.tup [a,c,d])=J:=by rw[mI,h,aJ,bU]
theorem Bn(h:e6 4000 d=J):mI m w (.tup [a,c,d])=J:=by rw[mI,h,bU,bU]
theorem Hm(h:mj m w n a=J):jf m w n (.tup [a,b,c])=J:=by rw[jf,h,aJ,bU,bU]
theorem JB(h:e6 n c=J):jf m w n (.tup [a,b,c])=J:=by rw[jf,h,aJ,bU]
theorem mT{k:Nat}(h:m<=k):e6 m (.int (k:Nat))=J:=by
 rw[e6,Bool.and_eq_false_iff];exact .inr (ai (by lia))
end
theorem Ef{n:Nat}{d:D}(h:rX d=J):tl n d=J:=by
 cases d with
 |tup xs=>cases h
 |_=>rfl
theorem Es{m:Nat}{d:D}(h:rX d=J):sw m d=J:=by
 cases d with
 |tup xs=>cases h
 |_=>rfl
theorem D1{m:Nat}{w:df}{d:D}(h:rX d=J):mI m w d=J:=by
 cases d with
 |tup xs=>cases h
 |_=>rfl
theorem Gv{r:Ev}:∀S,cW r S=Z ([],S):=λ_=>rfl
theorem xQ{r:Ev}{e:FE}{a:FA}{d:D}{ds:List D}(h:∀S,e r S=Z (d,S))(g:∀S,a r S=Z (ds,S)):∀S,cV e a r S=Z (d::ds,S):=λS=>by simp only[cV,h,g,oS1]
theorem Gu{r:Ev}{a:FA}{ds:List D}(h:∀S,a r S=Z (ds,S))(b:ds.length<=1000):∀S,c3 a r S=Z (.tup ds,S):=λS=>by
 obtain⟨p,e,rfl⟩:W (c3 a r S) λp=>p=(.tup ds,S):=by rw[lD];exact W.of (h S) ⟨dz (by lia),O⟩
 exact e
theorem kZ{B:D->Prop}{r:Ev}{a:FA}(ds:List D)(h:∀S,a r S=Z (ds,S))(c:D.unds 0 ds=M)(hb:jp 1000 ds=M)(q:∀x∈ds,B x):AB B r ds.length a:=λS d=>by
 rw[ff,bv]at c;rw[gF,bv]at hb;exact W.of (h S) ⟨Up.refl d,O,λx b=>⟨.shut (c x b) (hb x b),q x b⟩⟩
theorem Eo{m n:Nat}{w:df}{rs cs:List Nat}(hw:fH m w)(m5:m<=5)(h0:0<rs.length)(hn:rs.length=n)(n8:n<=8)(c8:cs.length<=8):
  W (dM [um rs cs,.int (n:Nat)] []) λp=>dq p.2/\LB (λx=>jf m w n x=J) 49 p.2 p.1:=by
 obtain⟨c,rt,rfl⟩:∃c rt,rs=c::rt:=by
  cases rs with
  |nil=>cases h0
  |cons a b=>exact⟨a,b,O⟩
 rw[lC1]at hn;have hC:D.unds 0 (nmD cs)=M:=fC cs;have T:D.unds 0 (rt.map wz)=M:=yc rt;have wq:=v7 cs;have N:=vD rt;have lC:(nmD cs).length<=8:=by rw[eT];exact c8
 have lX:(rt.map wz).length+1=n:=by rw[lM1];exact hn
 have Q:(wz c).und 0=M:=rfl;have K:bd 1000 (wz c)=M:=rfl;have b8:e6 m (.int 8)=J:=mT (k:=8) (by lia);have hr4:rowL w c<=4:=by
  unfold rowL;cases h:w[c]? with
  |none=>exact bf _
  |some row=>exact hw.le row (gM1 h)
 show W (dM [.tup [.tup (wz c::rt.map wz),.tup (nmD cs)],.int (n:Nat)] []) _;generalize hCs:nmD cs=Cs at *
 generalize hXs:rt.map wz=Xs at *
 generalize hF:D.tup [.tup (wz c::Xs),.tup Cs]=F;have uF:F.und 0=M:=by rw[<- hF];simp[D.und,D.unds,Q,T,hC]
 have bF:bd 1000 F=M:=by rw[<- hF];simp[bd,jp,K,N,wq];lia
 have am:(D.tup (wz c::Xs)).und 0=M:=by simp[D.und,D.unds,Q,T]
 have v:bd 1000 (D.tup (wz c::Xs))=M:=by simp[bd,jp,K,N];lia
 have au:(D.tup Cs).und 0=M:=by simp[D.und,hC]
 have t:bd 1000 (D.tup Cs)=M:=by simp[bd,wq];lia
 have lst:∀{B:D->Prop} {r:Ev} {i:Nat} {xs:List D},r[i]?=Z (Z (.tup xs))->(D.tup xs).und 0=M->bd 1000 (.tup xs)=M->(∀d,rX d=J->B d)->EB B r (mN (b1 vc) (cV (mV i) cW)):=λ{B r i xs} h hu hb q S j=>by
  have e:∀S,mV i r S=Z (.tup xs,S):=λS=>by unfold mV;rw[h]
  have u:=m9 (L:=xs) j λx hx=>(Ok.shut (k:=1000) hu hb).of.2 x hx;refine ub ?_;rw[e,dg];refine W.of (x:=(.ref S.length,S++[.lst xs])) O ⟨u,.lst (xs:=xs) (by rw[dX];rfl),q _ O⟩
 have l:∀{B1 B2 B:D->Prop} {r:Ev} {A I:FE},EB B1 r A->EB B2 r I->(∀x y,B1 x->B2 y->B (.tup [x,y]))->EB B r (c3 (cV A (cV I cW))):=λ{B1 B2 B r A I} h1 h2 h S j=>by
  rw[lD];refine hD ((h1 S j).mono ?_);rintro⟨x,V⟩ ⟨a1,a2,a3⟩;refine hD ((h2 V a1.2).mono ?_);rintro⟨y,U⟩ ⟨b1,b2,b3⟩;refine W.of O ⟨dz (by simp),a1.trans b1,.tup (by simp) ?_,h x y a3 b3⟩;intro z hz;rcases aD.mp hz with rfl|hz
  ·exact a2.up b1
  ·rw[cr.mp hz];exact b2
 have eF:∀{r:Ev},EB (λd=>tl n d=M) (Z F::Z (.int (n:Nat))::Z (.tup (wz c::Xs))::r) (mV 2):=fF (λ_=>rfl) am v (by rw[tl,lC1];exact ah lX);unfold dM;refine j3 ?_;unfold iG;rw[show d7 10 [F,.int (n:Nat)]=[Z F,Z (.int (n:Nat)),Y,Y,Y,Y,Y,Y,Y,Y]from rfl];refine dW (λr S=>S=[]/\r=[Z F,Z (.int (n:Nat)),Z (.tup (wz c::Xs)),Z (.tup Cs),Y,Y,Y,Y,Y,Y]) ?_ ?_
 ·rw[<- hF];exact W.of O ⟨O,O,O⟩
 rintro r S ⟨rfl,rfl⟩;refine dW (λr S=>S=[]/\r=[Z F,Z (.int (n:Nat)),Z (.tup (wz c::Xs)),Z (.tup Cs),Z (wz c),Y,Y,Y,Y,Y]) ?_ ?_
 ·have e0:∀ S,da (.tup (wz c::Xs)) (.int 0) S=some (wz c,S):=fun S=>by
   obtain⟨p,e,rfl⟩:W (da (.tup (wz c::Xs)) (.int ((0:Nat):Int)) S) λp=>p=(wz c,S):=wx O O;exact e
  ((try walk_at"w");repeat(simp only[e0];try walk_at"w"))
 rintro r S ⟨rfl,rfl⟩;have s0:dq []:=rfl;have z:∀{B:D->Prop},∀x∈([]:List D),B x:=λx h=>by cases h
 have k:∀{B:D->Prop} {x:D} {xs:List D},B x->(∀y∈xs,B y) -> ∀y∈x::xs,B y:=λa b=>cg.mpr ⟨a,b⟩;refine dW (λr S=>∃d,r=[Z F,Z (.int (n:Nat)),Z (.tup (wz c::Xs)),Z (.tup Cs),Z (wz c),Z d,Y,Y,Y,Y]/\dq S/\LB (λx=>jf m w n x=J) 6 S d) ?_ ?_
 ·refine gh (tm (n:=6) (B:=λx=>jf m w n x=J) (kZ [.tup [F],.tup [F,.int 0],.tup [F,.int 0,.int 0,.int 0],.tup [F,.int (-1),.int 0],.tup [F,.bl M,.int 0],.tup [F,.non,.int 0]] (λ_=>rfl) ?_ ?_ ?_) (by lia) s0) λd V h=>W.of O ⟨O,d,O,h.1.2,h.2⟩
  ·simp[D.unds,D.und,uF]
  ·simp[jp,bd,bF]
  ·exact k O (k O (k O (k O (k O (k O z)))))
 rintro r S ⟨d,rfl,j,h⟩;refine dW (λr S=>∃d,r=[Z F,Z (.int (n:Nat)),Z (.tup (wz c::Xs)),Z (.tup Cs),Z (wz c),Z d,Y,Y,Y,Y]/\dq S/\LB (λx=>jf m w n x=J) 11 S d) ?_ ?_
 ·refine gh (fP (m:=5) O h (kZ [.tup [F,.str "0",.int 0],.tup [F,.int 0,.int (n:Nat)],.tup [F,.int 0,.int (-1)],.tup [F,.int 0,.non],.tup [F,.int 0,.bl M]] (λ_=>rfl) ?_ ?_ ?_) (by lia) j) λd V h=>W.of O ⟨O,d,O,h.1.2,h.2⟩
  ·simp[D.unds,D.und,uF]
  ·simp[jp,bd,bF]
  ·exact k O (k (JB (mT (nR1 _))) (k O (k O (k O z))))
 rintro r S ⟨d,rfl,j,h⟩;refine dW (λr S=>∃d,r=[Z F,Z (.int (n:Nat)),Z (.tup (wz c::Xs)),Z (.tup Cs),Z (wz c),Z d,Y,Y,Y,Y]/\dq S/\LB (λx=>jf m w n x=J) 13 S d) ?_ ?_
 ·refine gh (fP (m:=2) O h (kZ [.tup [F,.int 0,.tup [.int 0]],.tup [F,.bl J,.int 0]] (λ_=>rfl) ?_ ?_ ?_) (by lia) j) λd V h=>W.of O ⟨O,d,O,h.1.2,h.2⟩
  ·simp[D.unds,D.und,uF]
  ·simp[jp,bd,bF]
  ·exact k O (k O z)
 rintro r S ⟨d,rfl,j,h⟩;have whX:mj m w n (.tup (wz c::Xs))=J:=by
  match Xs,lX with
  |[],_=>rfl
  |[x],h=>exact yf (by rw[<- h];rfl)
  |_::_::_,_=>rfl
 refine dW (λr S=>∃d e,r=[Z F,Z (.int (n:Nat)),Z (.tup (wz c::Xs)),Z (.tup Cs),Z (wz c),Z d,Z e,Y,Y,Y]/\dq S/\LB (λx=>jf m w n x=J) 13 S d/\LB (λx=>mj m w n x=J) 7 S e) ?_ ?_
 ·refine gh (tm (n:=7) (B:=λx=>mj m w n x=J) (c9 (fF (λ_=>rfl) am v whX) (c9 (fF (d:=.tup [.tup (wz c::Xs)]) (λ_=>rfl) ?_ ?_ O) (c9 (fF (d:=.tup [.tup (wz c::Xs),.tup Cs,.int 0]) (λ_=>rfl) ?_ ?_ O) (c9 (l (lst O am v λ_ h=>Ef h) (fF (B:=λ_=>True) (λ_=>rfl) au t trivial) λx y h _=>yf h) (c9 (l eF (lst O au t λ_ h=>Es h) λx y _ h=>r9 h) (kZ [.non,.tup []] (λ_=>rfl) O O (k O (k O z)))))))) (by lia) j) λe V g=>W.of O ⟨O,d,e,O,g.1.2,h.up g.1,g.2⟩
  ·rw[D.und,D.unds,am];rfl
  ·rw[bd,jp,v];rfl
  ·rw[D.und,D.unds,am,D.unds,au];rfl
  ·rw[bd,jp,v,jp,t];rfl
 rintro r S ⟨d,e,rfl,j,h,g⟩;have eS:∀{x:Ev} S,kF (mV 2) (gf (mC (D.int 1))) gC (Z F::Z (.int (n:Nat))::Z (.tup (wz c::Xs))::x) S=Z (.tup Xs,S):=λ{x} S=>by
  have:kF (mV 2) (gf (mC (D.int 1))) gC (Z F::Z (.int (n:Nat))::Z (.tup (wz c::Xs))::x) S=Z (.tup (Mi.ol (wz c::Xs) (Z ((1:Nat):Int)) Y),S):=rfl;rw[this,J0];rfl
 have X:(D.tup Xs).und 0=M:=by rw[D.und,T]
 have R:bd 1000 (D.tup Xs)=M:=by rw[bd,N,ah (by lia)];rfl
 refine dW (λr S=>∃d e,r=[Z F,Z (.int (n:Nat)),Z (.tup (wz c::Xs)),Z (.tup Cs),Z (wz c),Z d,Z e,Y,Y,Y]/\dq S/\LB (λx=>jf m w n x=J) 13 S d/\LB (λx=>mj m w n x=J) 12 S e) ?_ ?_
 ·refine gh (fP (m:=5) O g (c9 (fF (d:=.tup [.tup (wz c::Xs),.non]) (λ_=>rfl) ?_ ?_ (r9 O)) (c9 (l (fF (B:=λd=>tl n d=J) (vt (xs:=wz c::Xs) (ys:=[wz c]) (λ_=>rfl) (λ_=>rfl) (by simp;lia)) ?_ ?_ ?_) (fF (B:=λ_=>True) (λ_=>rfl) au t trivial) λx y h _=>yf h) (c9 (l (fF (B:=λd=>tl n d=J) eS X R ?_) (fF (B:=λ_=>True) (λ_=>rfl) au t trivial) λx y h _=>yf h) (kZ [.tup [.tup [],.tup Cs],.str "whole"] (λ_=>rfl) ?_ ?_ (k (yf ?_) (k O z)))))) (by lia) j) λe V g=>W.of O ⟨O,d,e,O,g.1.2,h.up g.1,g.2⟩
  ·rw[D.und,D.unds,am];rfl
  ·rw[bd,jp,v];rfl
  ·rw[D.und,ff,cq,<- ff,<- D.und,am];rfl
  ·rw[bd,gF,cq,<- gF,jp,K,N,ah (by simp;lia)];rfl
  ·rw[tl];exact ai (by simp;lia)
  ·rw[tl];exact ai (by lia)
  ·simp[D.unds,D.und,hC]
  ·simp[jp,bd,wq];lia
  ·rw[tl];exact ai (by simp;lia)
 rintro r S ⟨d,e,rfl,j,h,g⟩;refine dW (λr S=>∃d e,r=[Z F,Z (.int (n:Nat)),Z (.tup (wz c::Xs)),Z (.tup Cs),Z (wz c),Z d,Z e,Y,Y,Y]/\dq S/\LB (λx=>jf m w n x=J) 13 S d/\LB (λx=>mj m w n x=J) 16 S e) ?_ ?_
 ·refine gh (fP (m:=4) O g (c9 (l eF (fF (B:=λd=>sw m d=J) (vt (xs:=Cs) (ys:=[.int 8]) (λ_=>rfl) (λ_=>rfl) (by simp;lia)) ?_ ?_ ?_) λx y _ h=>r9 h) (kZ [.tup [.tup (wz c::Xs),.tup [.int (-1)]],.tup [.tup (wz c::Xs),.tup [.int 0,.int 0]],.tup [.tup (wz c::Xs),.tup [.int 1,.int 0]]] (λ_=>rfl) ?_ ?_ (k (r9 O) (k (r9 ?_) (k (r9 ?_) z))))) (by lia) j) λe V g=>W.of O ⟨O,d,e,O,g.1.2,h.up g.1,g.2⟩
  ·rw[D.und,ff,cq,<- ff,hC];rfl
  ·rw[bd,gF,cq,<- gF,wq,ah (by simp;lia)];rfl
  ·rw[sw,cq,bK,b8,aJ,bU,aJ]
  ·simp[D.unds,D.und,Q,T]
  ·simp[jp,bd,K,N];lia
  ·rw[sw,show inc (List.map natD [D.int 0,D.int 0])=J from rfl,bU]
  ·rw[sw,show inc (List.map natD [D.int 1,D.int 0])=J from rfl,bU]
 rintro r S ⟨d,e,rfl,j,h,g⟩;refine dW (λr S=>∃d H G,r=[Z F,Z (.int (n:Nat)),Z (.tup (wz c::Xs)),Z (.tup Cs),Z (wz c),Z d,H,G,Y,Y]/\dq S/\LB (λx=>jf m w n x=J) 31 S d) ?_ ?_
 ·unfold eM;rw[c4,jc];refine(fP (m:=2) O g (kZ [.tup [.tup (wz c::Xs),.tup [.str "0"]],.tup [.tup (wz c::Xs),.tup [.bl M]]] (λ_=>rfl) ?_ ?_ (k (r9 O) (k (r9 O) z))) (by lia) j).mono ?_
  ·simp[D.unds,D.und,Q,T]
  ·simp[jp,bd,K,N];lia
  rintro⟨x,V⟩ ⟨u,ke,L1,rfl,A,I,e3⟩;obtain⟨ao,L,rfl,C,f2,aq⟩:=h.up u;dsimp only at A e3 C aq ⊢;refine ee A ?_;dsimp only;have E:ao≠ke:=λh=>by
   rw[h,A]at C;have:=congrArg List.length (Ob.lst.inj (Option.some.inj C));lia
  refine(Al (f:=λy=>[Z F,Z (.int (n:Nat)),Z (.tup (wz c::Xs)),Z (.tup Cs),Z (wz c),Z (.ref ao),Z e,y,Y,Y]) (λ_ _ _=>rfl) (λ_=>rfl) E (λx S b o s=>?_) A e3 C f2 aq (by lia) u.2).mono ?_
  ·refine W.of (x:=(.tup [x,.int 0,.int 0],S)) O ⟨O,.tup (by simp) ?_,Hm b⟩;intro y hy;simp only[aD,bG,or_false]at hy;rcases hy with rfl|rfl|rfl
   ·exact o
   ·exact .shut O O
   ·exact .shut O O
  ·rintro p ⟨h1,y,h2,h3,P⟩;rw[I]at P;exact⟨h1,_,_,_,h2,h3,P⟩
 rintro r S ⟨d,H,G,rfl,j,h⟩;refine dW (λr S=>∃d e,r=[Z F,Z (.int (n:Nat)),Z (.tup (wz c::Xs)),Z (.tup Cs),Z (wz c),Z d,H,G,Z e,Y]/\dq S/\LB (λx=>jf m w n x=J) 31 S d/\LB (λx=>mI m w x=J) 6 S e) ?_ ?_
 ·refine gh (tm (n:=6) (B:=λx=>mI m w x=J) (c9 (fF (d:=.tup [.int (c:Nat),.int 0]) (λ_=>rfl) O O O) (c9 (fF (d:=.tup [.int (c:Nat),.int 0,.int 0,.int 0]) (λ_=>rfl) O O O) (c9 (lst O Q K λ_ h=>D1 h) (kZ [.tup [.int 8,.int 0,.int 0],.tup [.int (-1),.int 0,.int 0],.tup [.bl M,.int 0,.int 0]] (λ_=>rfl) O O (k ?_ (k O (k O z))))))) (by lia) j) λe V g=>W.of O ⟨O,d,e,O,g.1.2,h.up g.1,g.2⟩;rw[mI,b8,aJ]
 rintro r S ⟨d,e,rfl,j,h,g⟩;refine dW (λr S=>∃d e,r=[Z F,Z (.int (n:Nat)),Z (.tup (wz c::Xs)),Z (.tup Cs),Z (wz c),Z d,H,G,Z e,Y]/\dq S/\LB (λx=>jf m w n x=J) 31 S d/\LB (λx=>mI m w x=J) 13 S e) ?_ ?_
 ·refine gh (fP (m:=7) O g (kZ [.tup [.int (c:Nat),.int 5,.int 0],.tup [.int (c:Nat),.int (-1),.int 0],.tup [.int (c:Nat),.non,.int 0],.tup [.int (c:Nat),.bl J,.int 0],.non,.tup [],.int 0] (λ_=>rfl) O O (k (Bo (mT (k:=5) ?_)) (k (Bo O) (k (Bo O) (k (Bo O) (k O (k O (k O z)))))))) (by lia) j) λe V g=>W.of O ⟨O,d,e,O,g.1.2,h.up g.1,g.2⟩;show rowL w c+1<=5;lia
 rintro r S ⟨d,e,rfl,j,h,g⟩;refine dW (λr S=>∃d e,r=[Z F,Z (.int (n:Nat)),Z (.tup (wz c::Xs)),Z (.tup Cs),Z (wz c),Z d,H,G,Z e,Y]/\dq S/\LB (λx=>jf m w n x=J) 31 S d/\LB (λx=>mI m w x=J) 18 S e) ?_ ?_
 ·exact gh (fP (m:=5) O g (kZ [.tup [.int (c:Nat),.int 0,.int 4000],.tup [.int (c:Nat),.int 0,.int (-1)],.tup [.int (c:Nat),.int 0,.str "0"],.tup [.str "0",.int 0,.int 0],.tup [.int (c:Nat),.int 0,.non]] (λ_=>rfl) O O (k (Bn O) (k (Bn O) (k (Bn O) (k O (k (Bn O) z)))))) (by lia) j) λe V g=>W.of O ⟨O,d,e,O,g.1.2,h.up g.1,g.2⟩
 rintro r S ⟨d,e,rfl,j,h,g⟩;refine dW (λr S=>∃d,r[5]?=Z (Z d)/\dq S/\LB (λx=>jf m w n x=J) 49 S d) ?_ ?_
 ·obtain ⟨ke,L1,rfl,A,I,e3⟩:=g;obtain ⟨ao,L,rfl,C,f2,aq⟩:=h;unfold eM;rw [c4,jc];refine W.of (x:=(.ref ke,S)) rfl ?_;dsimp only;refine ee A ?_;dsimp only;have E:ao≠ke:=fun h=>by
   rw[h,A]at C;have:=congrArg List.length (Ob.lst.inj (Option.some.inj C));lia
  refine(Al (f:=λy=>[Z F,Z (.int (n:Nat)),Z (.tup (wz c::Xs)),Z (.tup Cs),Z (wz c),Z (.ref ao),H,G,Z (.ref ke),y]) (λ_ _ _=>rfl) (λ_=>rfl) E (λx S b o s=>?_) A e3 C f2 aq (by lia) j).mono ?_
  ·have o0:∀{xs:List D},(D.tup xs).und 0=M->bd 1000 (.tup xs)=M -> ∀y∈xs,Ok 1000 S y:=λh1 h2=>(Ok.shut (k:=1000) (S:=S) h1 h2).of.2;have eA:=vt (r:=[Z F,Z (.int (n:Nat)),Z (.tup (wz c::Xs)),Z (.tup Cs),Z (wz c),Z (.ref ao),H,G,Z (.ref ke),Z x]) (e:=c3 (cV (mV 9) cW)) (f:=kF (mV 2) (gf (mC (D.int 1))) gC) (xs:=[x]) (ys:=Xs) (λ_=>rfl) eS (by simp;lia);refine W.of (x:=(.tup [.tup [.tup (x::Xs),.tup Cs],.int 0,.int 0],S)) (Gu (xQ (Gu (xQ eA (xQ (λ_=>rfl) Gv)) (by simp)) (xQ (λ_=>rfl) (xQ (λ_=>rfl) Gv))) (by simp) S) ⟨O,.tup (by simp) ?_,Hm (Jj b)⟩;refine cg.mpr ⟨.tup (by simp) (cg.mpr ⟨.tup (by simp;lia) (cg.mpr ⟨o,o0 X R⟩),cg.mpr ⟨.shut au t,λ_ h=>by cases h⟩⟩),o0 (xs:=[.int 0,.int 0]) O O⟩
  ·rintro p ⟨h1,y,h2,h3,P⟩;rw[I]at P;exact⟨h1,_,by rw[h2];rfl,h3,P⟩
 rintro r S ⟨d,hr,j,h⟩;refine lU ?_;unfold mV;rw[hr];exact W.of O ⟨j,h⟩
theorem fN(k:Nat):∀xs:List D,D.shs k xs=xs.map (D.sh k)
 |[]=>rfl
 |x::xs=>by rw[D.shs,fN k xs];rfl
mutual
theorem yn{k m:Nat}:∀{d:D},d.und m=M->(d.sh k).und (k+m)=M
 | .tup xs,h=>by rw[D.und]at h;rw[D.sh,D.und];exact j7 h
 | .rol xs,h=>by rw[D.und]at h;rw[D.sh,D.und];exact j7 h
 | .ref n,h=>by rw[D.und,al]at h;rw[D.sh,D.und,al];lia
 | .fn _,_=>rfl
 | .non,_=>rfl
 | .bl _,_=>rfl
 | .int _,_=>rfl
 | .str _,_=>rfl
theorem j7{k m:Nat}:∀{ds:List D},D.unds m ds=M->D.unds (k+m) (D.shs k ds)=M
 |[],_=>rfl
 |d::ds,h=>by
  rw[D.unds,bA1]at h;rw[D.shs,D.unds,yn h.1,j7 h.2];rfl
end
mutual
theorem Dw{S T:cZ}:∀{d:D},vd T d=M->vd (S++T.map (Ob.sh S.length)) (d.sh S.length)=M
 | .tup xs,h=>by rw[vd]at h;rw[D.sh,vd];exact uy h
 | .rol xs,h=>by rw[vd]at h;rw[D.sh,vd];exact uy h
 | .ref n,h=>by
  rw[vd]at h;rw[D.sh,vd,gR1 (bn _ _),bo,gP1];cases e:T[n]? with
  |none=>rw[e]at h;cases h
  |some o=>rw[e]at h;cases o<;>first|rfl|cases h
 | .fn _,h=>by rw[vd]at h;cases h
 | .non,_=>rfl
 | .bl _,_=>rfl
 | .int _,_=>rfl
 | .str _,_=>rfl
theorem uy{S T:cZ}:∀{ds:List D},gx T ds=M->gx (S++T.map (Ob.sh S.length)) (D.shs S.length ds)=M
 |[],_=>rfl
 |d::ds,h=>by
  rw[gx,bA1]at h;rw[D.shs,gx,Dw h.1,uy h.2];rfl
end
mutual
theorem DT{k n:Nat}:∀{d:D},bd k (d.sh n)=bd k d
 | .tup xs=>by rw[D.sh,bd,bd,vk,fN,lM1]
 | .rol xs=>by rw[D.sh];simp only[bd,vk,fN,lM1]
 | .ref _ | .fn _ | .non | .bl _ | .int _ | .str _=>by first|rfl|(rw[D.sh];simp only[bd])
theorem vk{k n:Nat}:∀{ds:List D},jp k (D.shs n ds)=jp k ds
 |[]=>rfl
 |d::ds=>by rw[D.shs,jp,jp,DT,vk]
end
theorem Ok.sh{k:Nat}{S T:cZ}{d:D}(h:Ok k T d):Ok k (S++T.map (Ob.sh S.length)) (d.sh S.length):=⟨Dw h.v,by rw[lA1,lM1];exact yn h.u,by rw[DT];exact h.b⟩
theorem A1{α:Type}{kvs:List (α×D)}{k m:Nat}(h:D.unds m (kvs.map (·.2))=M):D.unds (k+m) ((kvs.map λp=>(p.1,p.2.sh k)).map (·.2))=M:=by
 have:=j7 (k:=k) h;rw[fN,bq]at this
 rwa [bq]
theorem GV{S T:cZ}(c:dq S)(b:dq T):Up S (S++T.map (Ob.sh S.length)):=by
 refine⟨⟨_,O⟩,?_⟩;unfold dq at c b ⊢;rw[bv]at c b ⊢;intro o a;rcases aE.mp a with a|a
 ·exact gA (by simp) (c o a)
 obtain⟨o,d,rfl⟩:=b7.mp a;have h:=b o d;rw[lA1,lM1];cases o with
 |lst xs=>exact j7 h
 |dct kvs=>exact A1 h
 |dcT kvs=>exact A1 h
 |dcF kvs=>exact A1 h
 |iset xs=>rfl
 |tst ks=>rfl
theorem DQ{n:Nat}{f:FN}{ds:List D}{S:cZ}{Q:D×cZ->Prop}(hn:ds.length=n)(b:D.unds 0 ds=M)(c:dq S)(h:W (f ds []) λp=>dq p.2/\p.1.und 0=J /\ ∀U,U=S++p.2.map (Ob.sh S.length)->Up S U->Q (p.1.sh S.length,U)):W (cY n f ds S) Q:=by
 obtain⟨⟨d,g⟩,e,h1,h2,a⟩:=h;exact W.of (kW e hn b h2) (a _ O (GV c h1))
theorem LB.sh{B:D->Prop}{n:Nat}{S T:cZ}{d:D}(h:LB B n T d)(e:∀x k,B x->B (x.sh k)):LB B n (S++T.map (Ob.sh S.length)) (d.sh S.length):=by
 obtain⟨k,L,rfl,h1,h2,b⟩:=h;refine⟨S.length+k,L.map (D.sh S.length),O,?_,by rw[lM1,h2],λx c=>?_⟩
 ·rw[gR1 (bn _ _),bo,gP1,h1,oP1,Ob.sh,fN]
 ·obtain⟨y,a,rfl⟩:=b7.mp c;exact⟨(b y a).1.sh,e y _ (b y a).2⟩
theorem LB.und{B:D->Prop}{n:Nat}{S:cZ}{d:D}(h:LB B n S d):d.und 0=J:=by
 obtain⟨k,L,rfl,_⟩:=h;rfl
theorem callL{B:D->Prop}{n N:Nat}{f:FN}{ds:List D}{S:cZ}{Q:D×cZ->Prop}(hn:ds.length=n)(b:D.unds 0 ds=M)(g:dq S)(a:∀ x k,B x->B (x.sh k))(h:W (f ds []) λp=>dq p.2/\LB B N p.2 p.1)(q:∀d U,Up S U->LB B N U d->Q (d,U)):W (cY n f ds S) Q:=by
 refine DQ hn b g (h.mono ?_);rintro p ⟨h1,h2⟩;exact⟨h1,h2.und,λU e c=>q _ _ c (by rw[e];exact h2.sh a)⟩
theorem zE{d:D}{k:Nat}:natD (d.sh k)=natD d:=by cases d<;>rfl
theorem lB{m k:Nat}{d:D}:e6 m (d.sh k)=e6 m d:=by cases d<;>rfl
theorem GX{n k:Nat}{d:D}:tl n (d.sh k)=tl n d:=by
 cases d<;>first|rfl|(rw[D.sh,tl,tl,fN,lM1])
theorem GQ{m k:Nat}{w:df}{d:D}:mI m w (d.sh k)=mI m w d:=by
 cases d with
 |tup xs=>
  match xs with
  |[a,b,c]=>rw[D.sh];simp only[D.shs];rw[mI,mI,lB,lB,lB,zE]
  |[]=>rfl
  |[_]=>rfl
  |[_,_]=>rfl
  |_::_::_::_::_=>rfl
 |_=>rfl
theorem EA{k:Nat}{d:D}:sD (d.sh k)=(sD d).map (D.sh k):=by
 cases d<;>first|rfl|exact fN k _
theorem v8{k:Nat}(xs:List D):(xs.map (D.sh k)).map natD=xs.map natD:=by
 rw[bq];exact cj λx _=>zE
theorem Hk{m k:Nat}{d:D}:sw m (d.sh k)=sw m d:=by
 cases d with
 |tup xs=>
  rw[D.sh,sw,sw,fN,v8,bL];exact congrArg (· && _) (congrArg (xs.all ·) (funext λx=>lB))
 |_=>rfl
theorem GR{m n k:Nat}{w:df}{d:D}:mj m w n (d.sh k)=mj m w n d:=by
 cases d with
 |tup xs=>
  match xs with
  |[a,b]=>
   rw[D.sh];simp only[D.shs];rw[mj,mj,GX,Hk,EA,bL];exact congrArg (_ && ·) (congrArg (· && _) (congrArg ((sD a).all ·) (funext λx=>GQ)))
  |[]=>rfl
  |[_]=>rfl
  |_::_::_::_=>rfl
 |_=>rfl
theorem Hl{m n:Nat}{w:df}{d:D}(k:Nat)(h:jf m w n d=J):jf m w n (d.sh k)=J:=by
 cases d with
 |tup xs=>
  match xs with
  |[a,b,c]=>
   rw[D.sh];simp only[D.shs];rw[jf]at h ⊢;have e:GL (b.sh k)=GL b:=by cases b<;>rfl
   rw[e,lB,GR];cases hw:mj m w n a with
   |false=>rw[aJ,bU,bU]
   |true=>
    have:=(yg hw).1;have f:a.sh k=a:=by rw[this];exact yL (je _ 0)
    rw[f,<- hw];exact h
  |[]=>rfl
  |[_]=>rfl
  |[_,_]=>rfl
  |_::_::_::_::_=>rfl
 |_=>rfl
noncomputable def q7:D->Bool
 | .tup []=>M
 | .tup [.tup _]=>M
 | .tup _=>J
 | .int _=>M
 | .str _=>M
 | .bl _=>M
 | .non=>M
 | .ref _=>M
 |_=>J
def jP:D->Bool
 | .tup (x::xs)=>(x::xs).any q7
 | .tup []=>J
 |_=>M
def dpD:Nat->D
 |0=>.tup [.int 0]
 |k+1=>.tup [dpD k]
theorem rz:∀k,(dpD k).und 0=M
 |0=>rfl
 |k+1=>by rw[dpD,D.und,D.unds,rz k];rfl
theorem AF:∀k,bd 1000 (dpD k)=M
 |0=>rfl
 |k+1=>by rw[dpD,bd,jp,AF k];rfl
theorem AJ{k:Nat}{S:cZ}{Q:D×cZ->Prop}(hk:k<=100)(q:Q (dpD k,S)):W (cY 2 eg [.int (k:Nat),.bl J] S) Q:=by
 refine kX O O ?_;unfold eg;refine j3 ?_;unfold jb;rw[show d7 4 [.int (k:Nat),.bl J]=[Z (.int (k:Nat)),Z (.bl J),Y,Y]from rfl];refine dW (λr S=>S=[]/\r=[Z (.int (k:Nat)),Z (.bl J),Z (dpD 0),Y]) (W.of O ⟨O,O,O⟩) ?_;rintro r S ⟨rfl,rfl⟩;refine dW (λr S=>S=[] /\ ∃y,r=[Z (.int (k:Nat)),Z (.bl J),Z (dpD k),y]) ?_ ?_
 ·unfold eM;rw[c4,pQ];refine W.of (x:=([.int (k:Nat)],_)) O ?_;unfold BG;dsimp only;refine⟨gn (by lia),?_⟩;rw[Int.toNat_natCast,kC];refine fg (λj r S=>S=[] /\ ∃y,r=[Z (.int (k:Nat)),Z (.bl J),Z (dpD j),y]) _ 0 _ _ ⟨O,_,O⟩ (λ_ _ _ _=>rfl) ?_ ?_
  ·rintro j d a r S ⟨rfl,y,rfl⟩;rw[bI];exact W.of O (W.of O ⟨O,O,Z d,O⟩)
  ·rintro r S ⟨rfl,y,rfl⟩;rw[lM1,cE,bI];exact⟨O,O,y,O⟩
 rintro r S ⟨rfl,y,rfl⟩;exact W.of O ⟨rz k,q⟩
def A9(k:Nat):cZ:=(af k).map λi=>.lst [if i=0 then dpD 0 else .ref (i-1)]
theorem C5(k:Nat):dq (A9 k):=by
 unfold dq A9;rw[bL,bv];intro i hi;have:=aA.mp hi;rw[Function.comp_apply,lM1,cE,Ob.und,D.unds,D.unds,bH];split
 ·rfl
 ·rw[D.und,al];lia
theorem JX{k:Nat}{S:cZ}(f:0<k)(hk:k<=100)(a:dq S):W (cY 2 eg [.int (k:Nat),.bl M] S) λp=>Up S p.2/\Ok 1000 p.2 p.1/\jP p.1=M:=by
 refine DQ O O a ?_;refine W.mono (Q:=λp=>p=(.ref (k-1),A9 k)) ?_ ?_
 ·unfold eg;refine j3 ?_;unfold jb;rw[show d7 4 [.int (k:Nat),.bl M]=[Z (.int (k:Nat)),Z (.bl M),Y,Y]from rfl];refine dW (λr S=>S=[]/\r=[Z (.int (k:Nat)),Z (.bl M),Z (dpD 0),Y]) (W.of O ⟨O,O,O⟩) ?_;rintro r S ⟨rfl,rfl⟩;refine dW (λr S=>S=A9 k /\ ∃y,r=[Z (.int (k:Nat)),Z (.bl M),Z (if k=0 then dpD 0 else .ref (k-1)),y]) ?_ ?_
  ·unfold eM;rw[c4,pQ];refine W.of (x:=([.int (k:Nat)],_)) O ?_;unfold BG;dsimp only;refine⟨gn (by lia),?_⟩;rw[Int.toNat_natCast,kC];refine fg (λj r S=>S=A9 j /\ ∃y,r=[Z (.int (k:Nat)),Z (.bl M),Z (if j=0 then dpD 0 else .ref (j-1)),y]) _ 0 _ _ ⟨O,_,O⟩ (λ_ _ _ _=>rfl) ?_ ?_
   ·rintro j d c r S ⟨rfl,y,rfl⟩;rw[bI];refine W.of O (W.of (x:=(.nx,[Z (.int (k:Nat)),Z (.bl M),Z (.ref (A9 j).length),Z d],A9 j++[.lst [if j=0 then dpD 0 else .ref (j-1)]])) O ⟨O,?_,Z d,?_⟩)
    ·dsimp only;unfold A9;rw[List.range_succ,b6];rfl
    ·dsimp only;rw[aj (Nat.succ_ne_zero j),A9,lM1,cE];rfl
   ·rintro r S ⟨rfl,y,rfl⟩;rw[lM1,cE,bI];exact⟨O,O,y,O⟩
  rintro r S ⟨rfl,y,rfl⟩;rw[aj (by lia)];exact W.of O O
 ·rintro p rfl;refine⟨C5 k,O,λU e b=>⟨b,?_,O⟩⟩;rw[e];refine(Ok.lst (k:=1000) (xs:=[if k-1=0 then dpD 0 else .ref (k-1-1)]) ?_).sh;dsimp only;unfold A9;rw[gP1,cf (by lia)];rfl
theorem xy{B:D->Prop}{r:Ev}{a:FA}{n:Nat}(b:∀k,B (.ref k))(ha:AB (λ_=>True) r n a)(hn:n<=1000):EB B r (d8 a):=λS c=>by
 refine(tm ha hn c).mono ?_;rintro⟨d,V⟩ ⟨h1,k,L,rfl,h2,e,f⟩;exact⟨h1,.lst h2,b k⟩
theorem yk{S:cZ}{o:Ob}(a:dq S)(h:o.und 0=M):Up S (S++[o]):=(Up.refl a).app h
theorem Ip{B:D->Prop}{r:Ev}(a:∀k,B (.ref k)):EB B r pj:=λS b=>W.of (x:=(.ref S.length,S++[.dct []])) O ⟨yk b O,.dct (xs:=[]) (by rw[dX];rfl),a _⟩
theorem Io{B:D->Prop}{r:Ev}{e:FE}(h:EB (λd=>q7 d=M) r e)(c:∀d,q7 d=M->B (.tup [d])):EB B r (c3 (cV e cW)):=λS f=>by
 rw[lD];refine hD ((h S f).mono ?_);rintro⟨x,V⟩ ⟨h1,h2,b⟩;exact W.of O ⟨dz (by simp),h1,.tup (by simp) (λy a=>by rw[cr.mp a];exact h2),c x b⟩
theorem Ht:∃B:Int,∀S:cZ,oI (.int 10) (.int 40) S=Z (.int B,S):=⟨10^40,λS=>by
 unfold oI;dsimp only;rw[ak ⟨by decide,by decide,by decide⟩];rfl⟩
theorem Cc{d:D}{k:Nat}:q7 (d.sh k)=q7 d:=by
 cases d with
 |tup xs=>
  match xs with
  |[]=>rfl
  |[y]=>cases y<;>rfl
  |y::_::_=>cases y<;>rfl
 |_=>rfl
theorem Cd{d:D}{k:Nat}:jP (d.sh k)=jP d:=by
 cases d with
 |tup xs=>
  match xs with
  |[]=>rfl
  |x::xs=>
   rw[D.sh,D.shs,jP,jP,<- D.shs,fN,List.any_map];exact congrArg ((x::xs).any ·) (funext λy=>Cc)
 |_=>rfl
theorem Fc{m n:Nat}{w:df}{d:D}(h:q7 d=M):jf m w n d=J:=by
 cases d with
 |tup xs=>
  match xs with
  |[]=>rfl
  |[_]=>rfl
  |[_,_]=>rfl
  |y::_::_::_=>cases y<;>cases h
 |_=>rfl
theorem Fd{n:Nat}{d:D}(h:q7 d=M):mE n d=J:=by
 cases d with
 |tup xs=>
  match xs with
  |[]=>rfl
  |[y]=>cases y<;>first|rfl|cases h
  |y::_::_=>cases y<;>cases h
 |_=>rfl
theorem v1{f:D->Bool}{d:D}(hf:∀x,q7 x=M->f x=J)(h:jP d=M):(rX d&&(sD d).all f)=J:=by
 cases d with
 |tup xs=>
  match xs with
  |[]=>cases h
  |x::xs=>
   obtain⟨y,a,h⟩:=bN.mp h;rw[show rX (.tup (x::xs))=M from rfl,cC];refine Bool.eq_false_iff.mpr λe=>?_;have:=bv.mp e y a;rw[hf y h]at this;cases this
 |_=>rfl
theorem Gj{n:Nat}{d:D}:jY n d=(rX d&&(sD d).all (mE n)):=by
 cases d<;>rfl
theorem yz{S:cZ}{Q:D×cZ->Prop}(a:dq S)(q:∀d U,Up S U->LB (λx=>jP x=M) 23 U d->Q (d,U)):W (cY 0 dP [] S) Q:=by
 refine callL (B:=λx=>jP x=M) (N:=23) O O a ?_ ?_ q
 ·exact λx k h=>by rw[Cd];exact h
 unfold dP;refine j3 ?_;unfold gX;obtain⟨b,f⟩:=Ht;have z:AB (λ_=>True) (d7 1 []) 0 cW:=iu;have c:∀{d:D},d.und 0=M->bd 1000 d=M->jP d=M -> ∀{r:Ev},EB (λx=>jP x=M) r (mC d):=λh1 h2 e=>fF (λ_=>rfl) h1 h2 e;refine dW (λr S=>∃d,r=[Z d]/\dq S/\LB (λx=>jP x=M) 14 S d) ?_ ?_
 ·refine gh (tm (n:=14) (B:=λx=>jP x=M) (c9 (c O O O) (c9 (c O O O) (c9 (c O O O) (c9 (c O O O) (c9 (c O O O) (c9 (fF (d:=.int (-1)) (λ_=>rfl) O O O) (c9 (fF (d:=.int b) (λS=>f S) O O O) (c9 (c O O O) (c9 (c O O O) (c9 (xy (λ_=>rfl) iu (by lia)) (c9 (Ip λ_=>rfl) (c9 (xy (λ_=>rfl) (kZ [.tup []] (λ_=>rfl) O O λ_ _=>trivial) (by decide)) (c9 ?_ (c9 (c O O O) iu)))))))))))))) (by lia) O) λd V h=>W.of O ⟨O,d,O,h.1.2,h.2⟩;exact λS a=>W.of (x:=(.ref S.length,S++[.dct [(.inr "a",.int 1)]])) O ⟨yk a O,.dct (by rw[dX];rfl),O⟩
 rintro r S ⟨d,rfl,a,h⟩;have t:∀d:D,q7 d=M->jP (.tup [d])=M:=λd h=>by rw[jP,aX,h];rfl
 refine lU ((fP (m:=9) (d:=d) O h (c9 ?_ (c9 ?_ (c9 (fF (d:=.tup [.non]) (λ_=>rfl) O O O) (c9 (fF (d:=.tup [.bl M]) (λ_=>rfl) O O O) (c9 (fF (d:=.tup [.tup []]) (λ_=>rfl) O O O) (c9 (Io (xy (λ_=>rfl) iu (by lia)) t) (c9 (Io (Ip λ_=>rfl) t) (kZ [.tup [.str "a"],.tup [.int 0,.int 1]] (λ_=>rfl) O O ?_)))))))) (by lia) a).mono ?_)
 ·exact fun S a=>by
   refine W.mono (Q:=λp=>p=(dpD 39,S)) ?_ ?_
   ·unfold mN;rw[c4];exact W.of O (AJ (k:=39) (by lia) O)
   ·rintro p rfl;exact⟨Up.refl a,.shut (rz 39) (AF 39),O⟩
 ·exact fun S a=>by
   unfold mN;rw[c4];exact W.of O (JX (k:=39) (by lia) (by lia) a)
 ·exact cg.mpr ⟨O,cg.mpr ⟨O,λ_ h=>by cases h⟩⟩
 ·rintro p ⟨h1,h2⟩;exact⟨h1.2,h2⟩
theorem Ix{n k:Nat}{d:D}:mE n (d.sh k)=mE n d:=by
 cases d with
 |tup xs=>
  rw[D.sh,mE,mE,fN,v8,bL];rw[show(e6 n∘D.sh k)=e6 n from funext λx=>lB];cases xs<;>rfl
 |_=>rfl
theorem xC{n:Nat}{S:cZ}{Q:D×cZ->Prop}(a:dq S)(q:∀d U,Up S U->LB (λx=>mE n x=J) 17 U d->Q (d,U)):W (cY 1 em [.int (n:Nat)] S) Q:=by
 refine callL (B:=λx=>mE n x=J) (N:=17) O O a (λx k h=>by rw[Ix];exact h) ?_ q;unfold em;refine j3 ?_;unfold gG;rw[show d7 2 [.int (n:Nat)]=[Z (.int (n:Nat)),Y]from rfl];have c:e6 n (.int (n:Nat))=J:=mT (nR1 _);have b:∀{xs:List D},inc (xs.map natD)=J->mE n (.tup xs)=J:=λ{xs} h=>by rw[mE,h,bU,bU]
 refine dW (λr S=>∃d,r=[Z (.int (n:Nat)),Z d]/\dq S/\LB (λx=>mE n x=J) 14 S d) ?_ ?_
 ·refine gh (tm (n:=14) (B:=λx=>mE n x=J) (c9 (fF (d:=.tup []) (λ_=>rfl) O O O) (c9 (fF (d:=.tup [.int (n:Nat)]) (λ_=>rfl) O O (by rw[mE,bK,c];rfl)) (c9 (fF (d:=.tup [.int (-1)]) (λ_=>rfl) O O O) (c9 (fF (d:=.tup [.int 0,.int 0]) (λ_=>rfl) O O (b O)) (c9 (fF (d:=.tup [.int 1,.int 0]) (λ_=>rfl) O O (b O)) (c9 (xy (λ_=>rfl) (kZ [.int 0] (λ_=>rfl) O O λ_ _=>trivial) (by decide)) (kZ [.tup [.str "0"],.tup [.non],.tup [.bl M],.tup [.bl J],.int 0,.non,.str "0",.tup [.tup [.int 0]]] (λ_=>rfl) O O ?_))))))) (by lia) O) λd V h=>W.of O ⟨O,d,O,h.1.2,h.2⟩;intro x e;simp only[aD,bG,or_false]at e;rcases e with rfl|rfl|rfl|rfl|rfl|rfl|rfl|rfl<;>rfl
 rintro r S ⟨d,rfl,a,h⟩;refine lU ((fP (m:=3) (d:=d) O h (c9 (fF (d:=.tup [.int 0,.int 1,.int 1]) (λ_=>rfl) O O (b O)) (c9 (fF (d:=.tup [.int 0,.int (n:Nat)]) (λ_=>rfl) O O (by rw[mE,bK,bK,c,aJ,bU,aJ,bU])) (c9 ?_ iu))) (by lia) a).mono ?_)
 ·exact fun S a=>by
   refine W.mono (Q:=λp=>p=(dpD 20,S)) ?_ ?_
   ·unfold mN;rw[c4];exact W.of O (AJ (k:=20) (by lia) O)
   ·rintro p rfl;exact⟨Up.refl a,.shut (rz 20) (AF 20),O⟩
 ·rintro p ⟨h1,h2⟩;exact⟨h1.2,h2⟩
theorem rj{α:Type}{f:α->D}{g:α->TK}:∀{l:List α},(∀x∈l,kD (f x)=Z (g x))->Ad (l.map f)=Z (l.map g)
 |[],_=>rfl
 |x::l,h=>by rw[mP1,Ad,h x mS1,rj λy a=>h y (mC1 _ a)];rfl
theorem rA{k:Nat}:∀{l:List TK},(∀x∈l,x.dep<=k)->TK.depAll l<=k
 |[],_=>by rw[TK.depAll];exact bf _
 |x::l,h=>by
  rw[TK.depAll];exact Nat.max_le.mpr ⟨h x mS1,rA λy a=>h y (mC1 _ a)⟩
theorem ye(a:Wh):∃k,keyT (whD a)=Z k:=by
 have c:kD (.tup (a.1.map ia))=Z (.tup (a.1.map λu=>.tup [.int (u.1:Nat),.int (u.2.1:Nat),.int (u.2.2:Nat)])):=by
  rw[kD,rj (g:=λu:Wk=>TK.tup [.int (u.1:Nat),.int (u.2.1:Nat),.int (u.2.2:Nat)]) λu _=>rfl];rfl
 have d:kD (.tup (nmD a.2))=Z (.tup (a.2.map λx=>.int (x:Nat))):=by
  rw[kD];unfold nmD;rw[rj (g:=λx:Nat=>TK.int (x:Nat)) λu _=>rfl];rfl
 refine⟨.tup [.tup (a.1.map λu=>.tup [.int (u.1:Nat),.int (u.2.1:Nat),.int (u.2.2:Nat)]),.tup (a.2.map λx=>.int (x:Nat))],?_⟩;show(Ad [.tup (a.1.map ia),.tup (nmD a.2)]).bind _=_;rw[Ad,c,oS1,Ad,d,oS1,Ad,oP1,oP1,oS1,ak];have e:TK.depAll (a.1.map λu=>TK.tup [.int (u.1:Nat),.int (u.2.1:Nat),.int (u.2.2:Nat)])<=2:=rA λx b=>by
  obtain⟨u,_,rfl⟩:=b7.mp b;simp[TK.dep,TK.depAll]
 have f:TK.depAll (a.2.map λx=>TK.int (x:Nat))<=2:=rA λx b=>by
  obtain⟨u,_,rfl⟩:=b7.mp b;simp[TK.dep]
 simp only[TK.dep,TK.depAll];lia
theorem Au(rs cs:List Nat):um rs cs=whD (gp rs cs):=by
 show D.tup [.tup (rs.map wz),.tup (nmD cs)] = .tup [.tup ((rs.map λr=>(r,0,0)).map ia),.tup (nmD cs)];rw[bq];rfl
theorem oR{rs cs:List Nat}{S:cZ}:da (dB rs cs) (.int 0) S=Z (.tup (nmD rs),S):=rfl
theorem DK{c:FT}{k:FS}{r:Ev}{V V':cZ}{Q:Fl×Ev×cZ->Prop}(hc:c r V=Z (M,V'))(q:Q (.rt (.bl J),r,V')):W (c7 (ew c (dD (mC (D.bl J))) iC) k r V) Q:=W.of (by simp only[c7,ew,hc,oS1,if_true];rfl) q
theorem H7{c:FT}{b k:FS}{r:Ev}{V V':cZ}{Q:Fl×Ev×cZ->Prop}(hc:c r V=Z (J,V'))(h:W (k r V') Q):W (c7 (ew c b iC) k r V) Q:=by
 obtain⟨p,e,q⟩:=h;exact W.of (by simp only[c7,ew,hc,oS1,bF1,if_false,iC];exact e) q
section
variable{m n:Nat}{w:df}{e:E4}{L:List Rw}{rs cs:List Nat}{S:cZ}{d:D}
abbrev sB(m:Nat)(w:df)(n:Nat)(d:D):Bool:=rX d&&(sD d).all (jf m w n)
abbrev Hi:FT:=ms (fE (jT (iY .tuple (mV 3)))) (fE (jT (mN (b1 jW) (cV (dN 1 [0,2] (ej (mV 3)) (gN 0) dI (dA (mN (cY 3 eV) (cV (mV 1) (cV (mN (b1 d4) (cV (m2 (b2 da) (mV 2) (mC (D.int 0))) cW)) (cV (mV 0) cW)))))) cW))))
theorem qa(hw:fH m w)(l:0<rs.length)(hn:rs.length=n)(o:n<=8)(j:dq S)(hv:vd S d=M)(hb:bd 1000 d=M){a b:Option D}:W (Hi [Z (dQ w),Z (iH e L),Z (dB rs cs),Z d,a,b] S) λp=>Up S p.2/\p.1 = !sB m w n d:=by
 refine pb (DH j O hv) λk V c=>?_;obtain⟨xs,rfl⟩:=jU k;have i:=oy (e:=mN (cY 3 eV) (cV (mV 1) (cV (mN (b1 d4) (cV (m2 (b2 da) (mV 2) (mC (D.int 0))) cW)) (cV (mV 0) cW)))) (f:=jf m w n) (keep:=[0,2]) (r:=[Z (dQ w),Z (iH e L),Z (dB rs cs),Z (.tup xs),a,b]) (P:=[Z (dQ w),Z (dB rs cs)]) (T:=V) (xs:=xs) (g:=mV 3) (λ_=>rfl) (jZ hb) O λx h=>by
  ((try walk_at"w");repeat(simp only[oR,gU];try walk_at"w"))
  rw[eT,hn];exact yV hw (by lia) (by lia) c.2 (c.vd (gK hv h)) (ot hb h) O
 refine i.mono ?_;rintro p rfl;exact⟨O,(Up.refl c.2).app (hZ _)⟩
variable{Q:D×cZ->Prop}
theorem vO(hw:fH m w)(ok:∀p∈L,k0 p)(g:0<rs.length)(hn:rs.length=n)(i:n<=8)(f:dq S)(hv:vd S d=M)(hb:bd 1000 d=M)(h:sB m w n d=J)(q:Q (.bl J,S)):W (cY 4 dU [dQ w,iH e L,dB rs cs,d] S) Q:=by
 refine lA (as:=[dQ w,iH e L,dB rs cs]) (bs:=[d]) O f (by rw[D.unds,fB,D.unds,ji ok,D.unds,fr];rfl) (GK hv) λT c a=>?_;unfold dU;refine j3 ?_;unfold gr;exact iD (b:=sB m w n d) (qa hw g hn i c (vd1' a) hb) (λ_ V j=>⟨j,O,q⟩) λh1=>by rw[h]at h1;cases h1
theorem Bx(hw:fH m w)(ok:∀p∈L,k0 p)(z:0<rs.length)(hn:rs.length=n)(v:n<=8)(A:cs.length<=8)(q:Q (.bl J,S)):W (cY 4 dU [dQ w,iH e L,dB rs cs,.tup [.tup [um rs cs,.int 0,.int 0],.tup [um rs cs,.int 0,.int 0]]] S) Q:=by
 obtain⟨k,c⟩:=ye (gp rs cs);have i:bd 1000 (D.tup [.tup [um rs cs,.int 0,.int 0],.tup [um rs cs,.int 0,.int 0]])=M:=by
  simp[bd,jp,vD,v7,eT];lia
 have f:=je (gp rs cs) 0;rw[<- Au]at c f;generalize um rs cs=F at c f i ⊢;have a:(D.tup [.tup [F,.int 0,.int 0],.tup [F,.int 0,.int 0]]).und 0=M:=by simp[D.und,D.unds,f]
 refine kX O (by rw[D.unds,fB,D.unds,ji ok,D.unds,fr,D.unds,a];rfl) ?_;unfold dU;refine j3 ?_;unfold gr;refine iD (b:=sB m w n (.tup [.tup [F,.int 0,.int 0],.tup [F,.int 0,.int 0]])) (qa hw z hn v (show dq []from rfl) (vG i a) i) (λ_ V y=>⟨O,q⟩) λ_ V y=>?_;refine dW (λr V=>∃j,r=[Z (dQ w),Z (iH e L),Z (dB rs cs),Z (.tup [.tup [F,.int 0,.int 0],.tup [F,.int 0,.int 0]]),Z (.ref j),Y]/\V[j]?=Z (.dcT [(k,.tup [.int 0,.int 0])])) ?_ ?_
 ·refine gh (C:=fun p=>p=(.ref V.length,V++[.dcT [(k,.tup [.int 0,.int 0])]])) ?_ fun d U h=>by
   cases h;exact W.of O ⟨O,V.length,O,by rw[dX];rfl⟩
  refine W.of ?_ O;unfold n4;have l:ej (mV 3) (d7 6 [dQ w,iH e L,dB rs cs,.tup [.tup [F,.int 0,.int 0],.tup [F,.int 0,.int 0]]]) V=Z (⟨[.tup [F,.int 0,.int 0],.tup [F,.int 0,.int 0]],[]⟩,V):=rfl;rw[l,oS1];dsimp only;have o:en [] (gT 3 (eH (gN 0) (eH (gN 1) (eH (gN 2) iq)))) dI (n0 (mV 0) (c3 (cV (mV 1) (cV (mV 2) cW)))) [.tup [F,.int 0,.int 0],.tup [F,.int 0,.int 0]] (kK 3 [] (d7 6 [dQ w,iH e L,dB rs cs,.tup [.tup [F,.int 0,.int 0],.tup [F,.int 0,.int 0]]])) V=Z ([.tup [F,.tup [.int 0,.int 0]],.tup [F,.tup [.int 0,.int 0]]],[Z F,Z (.int 0),Z (.int 0)],V):=rfl;rw[o,oS1];dsimp only;have t:fj [.tup [F,.tup [.int 0,.int 0]],.tup [F,.tup [.int 0,.int 0]]]=Z [(k,.tup [.int 0,.int 0]),(k,.tup [.int 0,.int 0])]:=by
   simp only[fj,zp,c,oP1,oS1]
  rw[t,oS1];refine(ak (show 2<=cO by decide)).trans ?_;have s:List.foldl lc [] [(k,D.tup [.int 0,.int 0]),(k,.tup [.int 0,.int 0])]=[(k,.tup [.int 0,.int 0])]:=by
   simp[lc,gz]
  rw[s]
 rintro r V ⟨j,rfl,g⟩;refine dW (λr V=>∃x,r=[Z (dQ w),Z (iH e L),Z (dB rs cs),Z (.tup [.tup [F,.int 0,.int 0],.tup [F,.int 0,.int 0]]),Z (.ref j),x]/\V[j]?=Z (.dcT [(k,.tup [.int 0,.int 0])])) ?_ ?_
 ·walk_at"w";refine wu (by lia) ?_;walk_at"w";exact⟨_,O,g⟩
 rintro r V ⟨x,rfl,g⟩;have u:l6 (.ref j) V=Z (.int 1,V):=by simp only[l6,g];rfl
 refine DK (V':=V) ?_ ⟨O,q⟩;simp only[ms,mB,m2,b2,mN,b1,cV,cW,mV,cm,gC1,oS1,u,gU];rfl
theorem vP(hw:fH m w)(ok:∀p∈L,k0 p)(g:0<rs.length)(hn:rs.length=n)(t:n<=8)(q:Q (.bl (oG (gp rs cs)),S)):W (cY 4 dU [dQ w,iH e L,dB rs cs,.tup []] S) Q:=by
 obtain⟨k,i⟩:=ye (gp rs cs);refine kX O (by rw[D.unds,fB,D.unds,ji ok,D.unds,fr];rfl) ?_;unfold dU;refine j3 ?_;unfold gr;refine iD (b:=sB m w n (.tup [])) (qa hw g hn t (show dq []from rfl) O O) (λh=>by cases h) λ_ V v=>?_;refine dW (λr V=>∃j,r=[Z (dQ w),Z (iH e L),Z (dB rs cs),Z (.tup []),Z (.ref j),Y]/\V[j]?=Z (.dcT [])) ?_ ?_
 ·refine gh (C:=fun p=>p=(.ref V.length,V++[.dcT []])) (W.of rfl rfl) fun d U h=>by
   cases h;exact W.of O ⟨O,V.length,O,by rw[dX];rfl⟩
 rintro r V ⟨j,rfl,a⟩;refine dW (λr V=>r=[Z (dQ w),Z (iH e L),Z (dB rs cs),Z (.tup []),Z (.ref j),Z (whD (gp rs cs))]/\V[j]?=Z (.dcT [])) ?_ ?_
 ·walk_at"w";refine wu (by lia) ?_;walk_at"w";exact a
 rintro r V ⟨rfl,a⟩;have s:l6 (.ref j) V=Z (.int 0,V):=by simp only[l6,a];rfl
 have l:my (whD (gp rs cs)) (.ref j) V=Z (.bl J,V):=by simp only[my,a,i];rfl
 obtain⟨p,u,rfl⟩:W (cY 1 eG [whD (gp rs cs)] V) λp=>p=(.bl (oG (gp rs cs)),V):=we (by rw[gp,lM1];exact g) (by rw[gp,lM1];lia) O;have f:mB (m2 (b2 uk) (mN (b1 l6) (cV (mV 4) cW)) (mN (b1 d4) (cV (mV 3) cW))) [Z (dQ w),Z (iH e L),Z (dB rs cs),Z (.tup []),Z (.ref j),Z (whD (gp rs cs))] V=Z (J,V):=by
  simp only[mB,m2,b2,mN,b1,cV,cW,mV,cm,gC1,oS1,s,gU];rfl
 have o:mB (m2 (b2 my) (mV 5) (mV 4)) [Z (dQ w),Z (iH e L),Z (dB rs cs),Z (.tup []),Z (.ref j),Z (whD (gp rs cs))] V=Z (J,V):=by
  simp only[mB,m2,b2,mV,cm,gC1,oS1,l]
 have c:jT (mN (cY 1 eG) (cV (mV 5) cW)) [Z (dQ w),Z (iH e L),Z (dB rs cs),Z (.tup []),Z (.ref j),Z (whD (gp rs cs))] V=Z (oG (gp rs cs),V):=by
  simp only[jT,mN,cV,cW,mV,cm,gC1,oS1,u,iN,oP1]
 cases hm:oG (gp rs cs)with
 |false=>
  rw[hm]at q c;refine DK (V':=V) ?_ ⟨O,q⟩;simp only[ms,f,fE,c,o,oS1];rfl
 |true=>
  rw[hm]at q c;refine H7 (V':=V) ?_ (lU ?_)
  ·simp only[ms,f,fE,c,oS1];rfl
  ·refine ub (W.of (x:=(.ref (V.set j (.dcF [])).length,(V.set j (.dcF [])).set j (.dcT [])++[.lst []])) ?_ (W.of (x:=(.bl M,(V.set j (.dcF [])).set j (.dcT [])++[.lst []])) ?_ ⟨O,q⟩))
   ·unfold rv mV;simp only[cm,gC1,oS1,a];rfl
   ·unfold jW;rw[ic (xs:=[]) (by simp)];rfl
end
section
variable{m n:Nat}{w:df}{e:E4}{L:List Rw}{rs cs:List Nat}{S:cZ}{a b:D}{Q:D×cZ->Prop}
theorem zR{T:cZ}{x y:D}(hn:rs.length=n):W (de (mN (b1 d4) (cV (m2 (b2 da) (mV 2) (mC (D.int 0))) cW)) (gN 5) [Z (dQ w),Z (iH e L),Z (dB rs cs),Z x,Z y,Y,Y] T) λp=>p.1 = .nx/\p.2.2=T/\p.2.1=[Z (dQ w),Z (iH e L),Z (dB rs cs),Z x,Z y,Z (.int (n:Nat)),Y]:=by
 ((try walk_at"w");repeat(simp only[oR,gU];try walk_at"w"))
 rw[eT,hn]
theorem tK(ok:∀p∈L,k0 p)(hn:rs.length=n)(s:dq S)(j:vd S a=M)(i:bd 1000 a=M)(f:vd S b=M)(k:bd 1000 b=M)(h:(jY n a&&jY n b)=J)(q:Q (.bl J,S)):W (cY 5 d6 [dQ w,iH e L,dB rs cs,a,b] S) Q:=by
 refine lA (as:=[dQ w,iH e L,dB rs cs]) (bs:=[a,b]) O s (by rw[D.unds,fB,D.unds,ji ok,D.unds,fr];rfl) (by rw[gx,j,gx,f];rfl) λT l c=>?_;have o:=iM c (d:=a) (by simp);have m:=iM c (d:=b) (by simp);unfold d6;refine j3 ?_;unfold hA;refine dW (λr V=>V=T/\r=[Z (dQ w),Z (iH e L),Z (dB rs cs),Z a,Z b,Z (.int (n:Nat)),Y]) (zR hn) ?_;rintro r V ⟨rfl,rfl⟩;exact iD (b:=jY n a&&jY n b) (pb (jr l (ds:=[.int (n:Nat),a]) O λQ q=>gt l o i q) λ_ U g=>jr g.2 (ds:=[.int (n:Nat),b]) O λQ q=>gt g.2 (g.vd m) k q) (λ_ V t=>⟨t,O,q⟩) λh1=>by rw[h]at h1;cases h1
theorem AG(ok:∀p∈L,k0 p)(m:0<rs.length)(hn:rs.length=n)(o:n<=8)(q:Q (.bl J,S)):W (cY 5 d6 [dQ w,iH e L,dB rs cs,.tup [],.tup []] S) Q:=by
 refine kX O (by rw[D.unds,fB,D.unds,ji ok,D.unds,fr];rfl) ?_;unfold d6;refine j3 ?_;unfold hA;refine dW (λr V=>V=[]/\r=[Z (dQ w),Z (iH e L),Z (dB rs cs),Z (.tup []),Z (.tup []),Z (.int (n:Nat)),Y]) (zR hn) ?_;rintro r V ⟨rfl,rfl⟩;have k:dq []:=rfl;refine iD (b:=jY n (.tup [])&&jY n (.tup [])) (pb (jr k (ds:=[.int (n:Nat),.tup []]) O λQ q=>gt k O O q) λ_ U a=>jr a.2 (ds:=[.int (n:Nat),.tup []]) O λQ q=>gt a.2 O O q) (λh=>by cases h) λ_ V g=>?_;refine iD (b:=J) (Cg ?_) (λ_ V g=>⟨O,q⟩) (λh=>by cases h);refine ub ?_;rw[iw,pQ];refine W.of (x:=([.int (n:Nat)],V)) O ?_;unfold BG;dsimp only;refine⟨gn (by lia),?_⟩;rw[Int.toNat_natCast,kC];refine ip (λj c r U=>c=(af j).map (λ_=>D.bl J)/\Up V U /\ ∃x,r=[x,Z (.tup [])]) _ 0 [] _ _ ⟨O,Up.refl g.2,_,O⟩ (λ_ _ _ _ _=>rfl) ?_ ?_
 ·rintro j d l c r U ⟨rfl,a,x,rfl⟩;rw[bI];refine W.of O (W.of O ?_);rw[ak O];refine ub (W.of (x:=(.ref U.length,U++[.lst []])) O (W.of (x:=(.bl J,U++[.lst []])) ?_ ⟨?_,a.app O,Z d,O⟩))
  ·unfold C1;rw[ic (xs:=[]) (by rw[dX];rfl)];rfl
  ·rw[List.range_succ,b6];rfl
 ·rintro xs r U ⟨i,a,x,rfl⟩;rw[cp,lM1,cE,bI]at i;subst i;refine⟨dz (by rw[lM1,cE];lia),?_⟩;refine rO (n:=U.length) (xs:=af n) (f:=λ_=>J) (by rw[dX];rfl) ?_;refine⟨?_,a.app (hZ (f:=λ_=>J) _)⟩;cases n with
  |zero=>lia
  |succ n=>rw[bJ];rfl
end
theorem LB.imp{B B':D->Prop}{n:Nat}{S:cZ}{d:D}(h:LB B n S d)(f:∀x,B x->B' x):LB B' n S d:=by
 obtain⟨k,L,rfl,h1,h2,b⟩:=h;exact⟨k,L,O,h1,h2,λx a=>⟨(b x a).1,f x (b x a).2⟩⟩
theorem ux{B:D->Prop}{g:FE}{b:FS}{f:Option D->Ev}{j N:Nat}{y:Option D}{S:cZ}(hg:∀ y d S,gN j d (f y) S=Z (f (Z d),S))(he:W (g (f y) S) λp=>Up S p.2/\LB B N p.2 p.1)(hb:∀x S,dq S->Ok 1000 S x->B x->W (b (f (Z x)) S) λp=>p=(.nx,f (Z x),S)):W (eM (ej g) (gN j) b (f y) S) λp=>p.1 = .nx/\Up S p.2.2 /\ ∃y,p.2.1=f y:=by
 unfold eM;rw[c4,jc];refine he.mono ?_;rintro⟨d,V⟩ ⟨u,k,L,rfl,a,m,c⟩;dsimp only at u a c ⊢;refine ee a ?_;dsimp only;refine fg (λ_ r U=>U=V /\ ∃y,r=f y) L 0 _ _ ⟨O,y,O⟩ (λ_ _ _ h=>by rw[h.1];exact fO a) ?_ ?_
 ·rintro i x l r U ⟨rfl,y,rfl⟩;rw[hg,dg];have e:=List.mem_iff_getElem?.mpr ⟨i,l⟩;refine(hb x U u.2 (c x e).1 (c x e).2).mono ?_;rintro p rfl;exact⟨O,O,Z x,O⟩
 ·rintro r U ⟨rfl,y,rfl⟩;exact⟨O,u,y,O⟩
theorem AK{B B':D->Prop}{g e:FE}{h:D->D}{keep:List Nat}{r P:Ev}{N:Nat}{S:cZ}(hN:N<=1000)(he:W (g r S) λp=>Up S p.2/\LB B N p.2 p.1)(o:kK 1 keep r=Y::P)(hx:∀x V,dq V->Ok 1000 V x->B x->W (e (Z x::P) V) λp=>p=(h x,V)/\Ok 1000 V (h x)/\B' (h x)):W (dN 1 keep (ej g) (gN 0) dI (dA e) r S) λp=>Up S p.2/\LB B' N p.2 p.1:=by
 rw[iw,jc];refine he.mono ?_;rintro⟨d,V⟩ ⟨u,k,L,rfl,i,n,c⟩;dsimp only at u i c ⊢;refine ee i ?_;dsimp only;rw[o];have m:∀x∈L,Ok 1000 V (h x)/\B' (h x):=λx a=>by
  obtain⟨p,_,q⟩:=hx x V u.2 (c x a).1 (c x a).2;exact q.2
 refine(λh=>by rwa [ck]at h:∀{Q},W (en [(k,L)] (gN 0) dI (dA e) (L.map id) (Y::P) V) Q->W (en [(k,L)] (gN 0) dI (dA e) L (Y::P) V) Q) ?_;refine s9 (f:=id) h (λr=>∃x,r=x::P) (fO i) L _ ⟨_,O⟩ ?_ ?_
 ·rintro x a r ⟨y,rfl⟩;unfold gN dI;rw[dg];dsimp only;rw[dg];refine⟨O,?_⟩;refine(hx x V u.2 (c x a).1 (c x a).2).mono ?_;rintro p ⟨rfl,_⟩;exact⟨O,O,_,O⟩
 ·rintro s _;have j:∀ z∈L.map h,Ok 1000 V z/\B' z:=fun z b=>by
   obtain⟨x,a,rfl⟩:=b7.mp b;exact m x a
  have l:=m9 u.2 λz b=>(j z b).1;exact⟨dz (by rw[lM1];lia),u.trans l,V.length,L.map h,O,by rw[dX];rfl,by rw[lM1,n],λz b=>⟨(j z b).1.up l,(j z b).2⟩⟩
theorem zA{A:FE}{b:Bool}{r:Ev}{S:cZ}(he:W (A r S) λp=>p=(.bl b,S)):W (ew (mB (m2 (b2 fh) A (mC (D.bl b)))) (dD (mC (D.bl J))) iC r S) λp=>p=(.nx,r,S):=by
 obtain⟨p,e,rfl⟩:=he;refine W.of (x:=(.nx,r,S)) ?_ O;have:fh (.bl b) (.bl b) S=Z (.bl J,S):=by cases b<;>rfl
 simp only[ew,mB,m2,b2,mC,e,oS1,this];rfl
theorem DF{A:FE}{C:FT}{b c:Bool}{r:Ev}{S:cZ}(hc:C r S=Z (c,S))(he:c=M->W (A r S) λp=>p=(.bl b,S)):W (ew (nN C (mB (m2 (b2 fh) A (mC (D.bl b))))) (dD (mC (D.bl J))) iC r S) λp=>p=(.nx,r,S):=by
 refine W.of (x:=(.nx,r,S)) ?_ O;cases c with
 |false=>simp only[ew,nN,hc,oS1];rfl
 |true=>
  obtain⟨p,e,rfl⟩:=he O;have:fh (.bl b) (.bl b) S=Z (.bl J,S):=by cases b<;>rfl
  simp only[ew,nN,hc,mB,m2,b2,mC,e,oS1,this];rfl
theorem Fz{rs cs:List Nat}(d:0<rs.length)(c:rs.Nodup):oG (gp rs cs)=decide (rs.length=1):=by
 match rs with
 |[]=>cases d
 |[a]=>rfl
 |a::b::t=>
  have:b≠a:=λe=>by
   rw[e]at c;exact(aL.mp c).1 mS1
  rw[show decide ((a::b::t).length=1)=J from ai (by simp)];show(decide (b=a)&&_)=J;rw[ai this];rfl
theorem hj{f:FN}{ds:List D}{a:FA}{r:Ev}{S:cZ}{Q:D×cZ->Prop}(ha:a r S=Z (ds,S))(h:W (f ds S) Q):W (mN f a r S) Q:=by
 unfold mN;rw[c4];exact W.of ha h
abbrev rU(N:D)(i:Nat)(a b c d:Option D):Ev:=[Z N,Z (.int (i:Nat)),a,b,c,d,Y,Y,Y,Y,Y,Y,Y]
abbrev rV(N:D):Ev:=[Z N,Y,Y,Y,Y,Y,Y,Y,Y,Y,Y,Y,Y]
abbrev rwD(rs cs:List Nat):D:=.tup [um rs cs,.int 0,.int 0]
abbrev rT(N:D)(i:Nat)(w:df)(e:E4)(L:List Rw)(rs cs:List Nat)(n:Nat)(a b c d:Option D):Ev:=[Z N,Z (.int (i:Nat)),Z (.ref 0),Z (dQ w),Z (iH e L),Z (dB rs cs),Z (um rs cs),Z (.int (n:Nat)),Z (rwD rs cs),a,b,c,d]
section
variable{N:D}{i m n:Nat}{w:df}{e:E4}{L:List Rw}{rs cs:List Nat}{S:cZ}{a b c d:Option D}
theorem pd(hw:fH m w)(o:m<=5)(j:0<rs.length)(hn:rs.length=n)(l:n<=8)(f:cs.length<=8)(g:dq S):W (mN (cY 2 dM) (cV (mV 6) (cV (mV 7) cW)) (rT N i w e L rs cs n a b c d) S) λp=>Up S p.2/\LB (λx=>jf m w n x=J) 49 p.2 p.1:=
 hj (ds:=[um rs cs,.int (n:Nat)]) O (callL (B:=λx=>jf m w n x=J) (N:=49) O (by rw[D.unds,Au,je];rfl) g (λx k h=>Hl k h) (Eo hw o j hn l f) λd U u h=>⟨u,h⟩)
theorem lV{r:Ev}(a:dq S):W (mN (cY 0 dP) cW r S) λp=>Up S p.2/\LB (λx=>jP x=M) 23 p.2 p.1:=
 hj (ds:=[]) O (yz a λd U u h=>⟨u,h⟩)
theorem JU{n:Nat}:(um rs cs).und n=M:=by rw[Au];exact je _ n
theorem JV(a:rs.length<=8)(b:cs.length<=8):bd 1000 (um rs cs)=M:=by
 simp[bd,jp,vD,v7,eT];lia
theorem Ep(a:rs.length<=8)(b:cs.length<=8):Ok 1000 S (rwD rs cs):=.shut (by rw[D.und,D.unds,JU];rfl) (by rw[bd,jp,JV a b];rfl)
theorem HY(hw:fH m w)(C:m<=5)(ok:∀ p∈L,k0 p)(t:0<rs.length)(hn:rs.length=n)(v:n<=8)(q:cs.length<=8)(l:dq S):
  W (eM (ej (m2 (b2 dS) (m2 (b2 dS) (mN (cY 0 dP) cW) (dN 1 [8] (ej (mN (cY 2 dM) (cV (mV 6) (cV (mV 7) cW)))) (gN 0) dI (dA (c3 (cV (mV 1) (cV (mV 0) cW)))))) (d8 (cV (mV 8) (cV (d8 (cV (mV 8) cW)) (cV (c3 (cV (mV 8) (cV (mV 8) cW))) cW)))))) (gN 9) qs (rT N i w e L rs cs n a b c d) S)
   λp=>p.1 = .nx/\Up S p.2.2 /\ ∃y,p.2.1=rT N i w e L rs cs n y b c d:=by
 have g:∀{S},Ok 1000 S (rwD rs cs):=λ{S}=>Ep (by lia) q;have D:jf m w n (um rs cs)=J:=rfl;refine ux (B:=λx=>sB m w n x=J\/x = .tup [rwD rs cs,rwD rs cs]) (N:=23+49+3) (f:=λy=>rT N i w e L rs cs n y b c d) (λ_ _ _=>rfl) ?_ ?_
 ·refine Dq ?_;refine W.mono (Q:=λp=>Up S p.2/\LB (λx=>sB m w n x=J\/x = .tup [rwD rs cs,rwD rs cs]) (23+49) p.2 p.1) ?_ ?_
  ·refine Dq ((lV l).mono ?_);rintro⟨x,V⟩ ⟨u,h⟩;dsimp only at u h ⊢;refine(AK (B':=λx=>sB m w n x=J) (h:=λx=>.tup [rwD rs cs,x]) (P:=[Z (rwD rs cs)]) (by lia) (pd hw C t hn v q u.2) O ?_).mono ?_
   ·intro x V z o j;refine W.of O ⟨O,.tup (by simp) ?_,?_⟩
    ·exact cg.mpr ⟨g,cg.mpr ⟨o,λ_ h=>by cases h⟩⟩
    ·show(M&&(jf m w n (rwD rs cs)&&(jf m w n x&&M)))=J;rw[j,aJ,bU];rfl
   ·rintro⟨E,F⟩ ⟨k,h'⟩;exact mK ((h.imp λx j=>.inl (v1 (λy A=>Fc A) j)).up k) (h'.imp λx j=>.inl j) (by lia) k.2 λd U s r=>⟨(u.trans k).trans s,r⟩
  ·rintro⟨x,V⟩ ⟨u,h⟩;dsimp only at u h ⊢;refine(tm (n:=3) (B:=λx=>sB m w n x=J\/x = .tup [rwD rs cs,rwD rs cs]) (c9 (λS l=>W.of O ⟨Up.refl l,g,.inl ?_⟩) (c9 (xy (n:=1) (λ_=>.inl O) (c9 (λS l=>W.of O ⟨Up.refl l,g,trivial⟩) iu) (by lia)) (c9 (λS l=>W.of O ⟨Up.refl l,.tup (by simp) ?_,.inr O⟩) iu))) (by lia) u.2).mono ?_
   ·show(M&&(jf m w n (um rs cs)&&_))=J;rw[D];rfl
   ·exact cg.mpr ⟨g,cg.mpr ⟨g,λ_ h=>by cases h⟩⟩
   ·rintro⟨E,F⟩ ⟨k,h'⟩;exact mK (h.up k) h' (by lia) k.2 λd U s r=>⟨(u.trans k).trans s,r⟩
 ·rintro x V z o j;unfold qs;refine zA (hj (ds:=[dQ w,iH e L,dB rs cs,x]) O ?_);rcases j with j|rfl
  ·exact vO hw ok t hn v z o.v o.b j O
  ·exact Bx hw ok t hn v q O
theorem HX(hw:fH m w)(s:m<=5)(ok:∀ p∈L,k0 p)(j:0<rs.length)(hn:rs.length=n)(k:n<=8)(l:cs.length<=8)(o:dq S):
  W (eM (ej (mN (cY 2 dM) (cV (mV 6) (cV (mV 7) cW)))) (gN 10) qr (rT N i w e L rs cs n a b c d) S)
   λp=>p.1 = .nx/\Up S p.2.2 /\ ∃y,p.2.1=rT N i w e L rs cs n a y c d:=by
 refine ux (B:=λx=>jf m w n x=J) (N:=49) (f:=λy=>rT N i w e L rs cs n a y c d) (λ_ _ _=>rfl) (pd hw s j hn k l o) ?_;rintro x V q t r;unfold qr;have g:Ok 1000 V (.tup [x]):=.tup (by simp) (cg.mpr ⟨t,λ_ h=>by cases h⟩);refine zA (hj (ds:=[dQ w,iH e L,dB rs cs,.tup [x]]) O (vO hw ok j hn k q g.v g.b ?_ O));show(M&&(jf m w n x&&M))=J;rw[r];rfl
theorem HW{T:cZ}{c:D}(ok:∀ p∈L,k0 p)(hn:rs.length=n)(G:0<n)(C:n<=8)(v:dq S)(l:LB (fun x=>jY n x=false) 40 S c):
  W (eM (ej (m2 (b2 dS) (mV 12) (d8 (cV (m2 (b2 dS) (mV 11) (c3 (cV (mC D.non) cW))) (cV (d8 (cV (m2 (b2 da) (mV 11) (mC (D.int 0))) cW)) (cV (m2 (b2 da) (mV 11) (mC (D.int 0))) cW)))))) (gN 9) qq (rT N i w e L rs cs n a b (Z (.tup [.tup (nmD (af n))])) (Z c)) S)
   λp=>p.1 = .nx/\Up S p.2.2 /\ ∃y,p.2.1=rT N i w e L rs cs n y b (Z (.tup [.tup (nmD (af n))])) (Z c):=by
 have F:(nmD (af n)).length<=8:=by rw[eT,cE];exact C
 have o:∃y ys,nmD (af n) = .int (y:Nat)::ys:=by
  obtain⟨k,rfl⟩:∃k,n=k+1:=⟨n-1,by lia⟩;exact⟨0,_,by rw[bJ];rfl⟩
 have t:=fC (af n);have E:=v7 (af n);generalize nmD (af n)=A at *
 obtain⟨y,ys,rfl⟩:=o;have g:bd 1000 (.tup (.int (y:Nat)::ys))=M:=by rw[bd,E,ah (by lia)];rfl
 have h:(D.tup (.int (y:Nat)::ys)).und 0=M:=by rw[D.und,t]
 have u:∀{S},Ok 1000 S (.tup (.int (y:Nat)::ys)):=λ{S}=>.shut h g;refine ux (B:=λx=>jY n x=J) (N:=40+3) (f:=λz=>rT N i w e L rs cs n z b (Z (.tup [.tup (.int (y:Nat)::ys)])) (Z c)) (λ_ _ _=>rfl) ?_ ?_
 ·refine fP (m:=3) O l (c9 (fF (d:=.tup [.tup (.int (y:Nat)::ys),.non]) (λ_=>rfl) ?_ ?_ ?_) (c9 (xy (n:=1) (λ_=>rfl) (c9 (fF (d:=.tup (.int (y:Nat)::ys)) (λ_=>rfl) h g trivial) iu) (by lia)) (c9 (fF (d:=.tup (.int (y:Nat)::ys)) (λ_=>rfl) h g O) iu))) (by lia) v
  ·rw[D.und,D.unds,h];rfl
  ·rw[bd,jp,g];rfl
  ·show(mE n (.tup (.int (y:Nat)::ys))&&(mE n .non&&M))=J;exact bU _
 ·rintro x V q j s;unfold qq;refine dW (λr U=>U=V/\r=rT N i w e L rs cs n (Z x) b (Z (.tup [.tup (.int (y:Nat)::ys)])) (Z c)) ?_ ?_
  ·refine(zA (hj (ds:=[dQ w,iH e L,dB rs cs,x,.tup [.tup (.int (y:Nat)::ys)]]) O (tK ok hn q j.v j.b (vG (k:=1000) ?_ ?_) ?_ ?_ O))).mono ?_
   ·rw[bd,jp,g];rfl
   ·rw[D.und,D.unds,h];rfl
   ·rw[bd,jp,g];rfl
   ·rw[s];rfl
   ·rintro p rfl;exact⟨O,O,O⟩
  rintro r U ⟨rfl,rfl⟩;exact zA (hj (ds:=[dQ w,iH e L,dB rs cs,.tup [],x]) O (tK ok hn q O O j.v j.b (by rw[s];exact bU _) O))
end
theorem BB(ns:List Int)(i:Nat)(hi:i<4):W (qp [Z (.rol (ns.map D.int)),Z (.int (i:Nat)),Y,Y,Y,Y,Y,Y,Y,Y,Y,Y,Y] []) λp=>p.1 = .nx /\ ∃R:Ev,p.2.1=Z (.rol (ns.map D.int))::R/\R.length=12:=by
 obtain⟨o,eo,G⟩:=Gq ns i (by lia) (by lia);generalize hN:D.rol (ns.map D.int)=N at *
 unfold qp;refine dW (λr V=>V=[o]/\r=(rU N i (Z (.ref 0)) Y Y Y)) ?_ ?_
 ·((try walk_at"w");repeat(simp only[eo];try walk_at"w"))
 rintro r V ⟨rfl,rfl⟩;have s0:HS 0 [o] [o]:=.self O G (by unfold dq;rw[bK,G.und];rfl);refine dW (λr V=>∃(m:Nat) (w:df) (e:E4) (L:List Rw),0<m/\m<=5/\fH m w/\(∀p∈L,k0 p)/\HS 600 [o] V/\r=(rU N i (Z (.ref 0)) (Z (dQ w)) (Z (iH e L)) Y)) ?_ ?_
 ·walk_at"w";refine GT (most:=5) s0 (by lia) (by lia) (by lia) λm w V1 K I t aq _ l1=>?_;walk_at"w";refine xb aq (by lia) λe L V2 inc ok hl au _ l2=>?_;walk_at"w";exact⟨m,w,e,L,K,I,t,ok,au,O⟩
 rintro r V ⟨m,w,e,L,K,I,t,ok,au,rfl⟩;refine dW (λr V=>∃rs cs,IE m rs cs/\rs.Nodup/\0<rs.length/\HS 700 [o] V/\r=(rU N i (Z (.ref 0)) (Z (dQ w)) (Z (iH e L)) (Z (dB rs cs)))) ?_ ?_
 ·have s:∀ S,vb (.int 3) (.int (m:Nat)) S=some (.int ((min 3 m:Nat):Int),S):=fun S=>by
   simp only[vb];refine congrArg (λz=>Z (D.int z,S)) ?_;split<;>lia
  ((try walk_at"w");repeat(simp only[kH,s];try walk_at"w"))
  rw[t.len,s];walk_at"w";refine uH (most:=min 3 m) t K (by lia) (by lia) (by lia) au (by lia) λrs cs V2 g F l h4 H s3' _=>?_
  first|exact⟨rs,cs,g,F,l,H.more (by lia),rfl⟩|exact⟨rfl,rs,cs,g,F,l,H.more (by lia),rfl⟩
 rintro r V ⟨rs,cs,g,F,l,H,rfl⟩;have r8:=g.few;have Q:=g.cl;obtain⟨n,q⟩:∃n,rs.length=n:=⟨_,O⟩;have c:dq V:=H.shut;refine dW (λr V=>dq V/\r=[Z N,Z (.int (i:Nat)),Z (.ref 0),Z (dQ w),Z (iH e L),Z (dB rs cs),Z (um rs cs),Z (.int (n:Nat)),Y,Y,Y,Y,Y]) ?_ ?_
 ·refine gh (C:=λp=>Up V p.2/\p.1 = .tup [um rs cs,.int (n:Nat)]) ?_ λd U h=>?_
  ·rw[lD];refine hD ?_;rw[lD];refine hD (ub ?_);rw[iw,jc];refine W.of (x:=(.tup (nmD rs),V)) O ?_;dsimp only;rw[qj];dsimp only;rw[show kK 1 [] (rU N i (Z (.ref 0)) (Z (dQ w)) (Z (iH e L)) (Z (dB rs cs)))=[Y]from rfl];refine s9 (f:=λr:Nat=>D.int r) wz (λr=>∃x,r=[x]) O rs _ ⟨_,O⟩ (λa _ r h=>?_) λr' _=>?_
   ·obtain⟨y,rfl⟩:=h;exact W.of O (W.of O ⟨O,W.of O ⟨O,O,_,O⟩⟩)
   ·refine⟨dz (by rw[lM1];lia),?_⟩;dsimp only;refine A4.mpr (ee (xs:=rs.map wz) (by rw[dX];rfl) ?_);have u:=m9 (S:=V) (L:=rs.map wz) c λx v=>(Ok.shut (k:=1000) (S:=V) (d:=.tup (rs.map wz)) (by rw[D.und,yc]) (by rw[bd,vD,ah (by rw[lM1];lia)];rfl)).of.2 x v;refine hD (W.of (x:=(.tup (nmD cs),V++[.lst (rs.map wz)])) O (W.of O ⟨dz (by simp),hD (ub (W.of (x:=(.tup (nmD rs),V++[.lst (rs.map wz)])) O ?_))⟩));rw[gU,eT,q];exact W.of O (W.of O ⟨dz (by simp),u,O⟩)
  ·obtain⟨hu,rfl⟩:=h;exact W.of O ⟨O,hu.2,O⟩
 rintro r V ⟨c,rfl⟩;refine dW (λr A=>A=V/\r=rT N i w e L rs cs n Y Y Y Y) (W.of O ⟨O,O,O⟩) ?_;rintro r A ⟨rfl,rfl⟩;refine dW (λr V=>dq V /\ ∃a,r=rT N i w e L rs cs n a Y Y Y) ((HY t I ok l q (by lia) Q c).mono ?_) ?_
 ·rintro p ⟨h1,h2,y,E⟩;exact⟨h1,h2.2,y,E⟩
 rintro r V ⟨c,a,rfl⟩;refine dW (λr V=>dq V /\ ∃a b,r=rT N i w e L rs cs n a b Y Y) ((HX t I ok l q (by lia) Q c).mono ?_) ?_
 ·rintro p ⟨h1,h2,y,E⟩;exact⟨h1,h2.2,a,y,E⟩
 rintro r V ⟨c,a,b,rfl⟩;refine dW (λr V=>dq V/\r=rT N i w e L rs cs n a b (Z (.tup [.tup (nmD (af n))])) Y) ?_ ?_
 ·have er:∀ S,CA (cV (mV 7) cW) (rT N i w e L rs cs n a b none none) S=some (.tup (nmD (List.range n)),S):=fun S=>by
   unfold CA;rw[show cV (mV 7) cW (rT N i w e L rs cs n a b Y Y) S=Z ([.int (n:Nat)],S)from rfl,oS1];dsimp only;rw[ak (show nz 0 (n:Int)=M by unfold nz;simp;lia),Int.toNat_natCast,kC];rfl
  refine gh (C:=λp=>p=(.tup [.tup (nmD (af n))],V)) (W.of (Gu (xQ er Gv) (by simp) V) O) λd U h=>?_;cases h;exact W.of O ⟨O,c,O⟩
 rintro r V ⟨c,rfl⟩;refine dW (λr V=>dq V /\ ∃x,r=rT N i w e L rs cs n a b (Z (.tup [.tup (nmD (af n))])) (Z x)/\LB (λx=>jY n x=J) 40 V x) ?_ ?_
 ·refine gh (C:=λp=>Up V p.2/\LB (λx=>jY n x=J) 40 p.2 p.1) ?_ λx U h=>W.of O ⟨O,h.1.2,x,O,h.2⟩;refine Dq ((lV c).mono ?_);rintro⟨x,V1⟩ ⟨u,h⟩;dsimp only at u h ⊢;refine(AK (B:=λx=>mE n x=J) (B':=λx=>jY n x=J) (N:=17) (h:=λx=>.tup [x]) (P:=[]) (by lia) (hj (ds:=[.int (n:Nat)]) O (xC u.2 λd U u h=>⟨u,h⟩)) O ?_).mono ?_
  ·intro x V hV G v;refine W.of O ⟨O,.tup (by simp) (cg.mpr ⟨G,λ_ h=>by cases h⟩),?_⟩;show(mE n x&&M)=J;rw[v];rfl
  ·rintro⟨x',A⟩ ⟨am,h'⟩;exact mK ((h.imp λx v=>by rw[Gj];exact v1 (λy wq=>Fd wq) v).up am) h' (by lia) am.2 λd U hU X=>⟨(u.trans am).trans hU,X⟩
 rintro r V ⟨c,x,rfl,v⟩;refine dW (λr V=>dq V /\ ∃a,r=rT N i w e L rs cs n a b (Z (.tup [.tup (nmD (af n))])) (Z x)) ((HW (T:=V) ok q (by lia) (by lia) c v).mono ?_) ?_
 ·rintro p ⟨h1,h2,y,E⟩;exact⟨h1,h2.2,y,E⟩
 rintro r V ⟨c,a,rfl⟩;have e1:mB (m2 (b2 ul) (mV 7) (mC (D.int 1))) (rT N i w e L rs cs n a b (Z (.tup [.tup (nmD (af n))])) (Z x)) V=Z (decide (n=1),V):=by
  show Z ((n:Int) == 1,V)=_;refine congrArg (λz=>Z (z,V)) ?_;rw[bM,beq_iff_eq,al];lia
 have e2:mB (m2 (b2 (hh λi j=>decide (j<i))) (mV 7) (mC (D.int 1))) (rT N i w e L rs cs n a b (Z (.tup [.tup (nmD (af n))])) (Z x)) V=Z (decide (1<n),V):=by
  show Z (decide ((1:Int)<n),V)=_;refine congrArg (λz=>Z (z,V)) (decide_eq_decide.mpr ?_);lia
 have ao:=Fz (cs:=cs) l F;rw[q]at ao;refine dW (λr A=>A=V/\r=rT N i w e L rs cs n a b (Z (.tup [.tup (nmD (af n))])) (Z x)) ((DF e1 λh=>hj (ds:=[dQ w,iH e L,dB rs cs,.tup []]) O (vP t ok l q (by lia) ?_)).mono ?_) ?_
 ·rw[ao,h]
 ·rintro p rfl;exact⟨O,O,O⟩
 rintro r A ⟨rfl,rfl⟩;refine dW (λr V=>V=A/\r=rT N i w e L rs cs n a b (Z (.tup [.tup (nmD (af n))])) (Z x)) ((zA (hj (ds:=[dQ w,iH e L,dB rs cs,.tup [],.tup []]) O (AG ok l q (by lia) O))).mono ?_) ?_
 ·rintro p rfl;exact⟨O,O,O⟩
 rintro r V ⟨rfl,rfl⟩;refine(DF e2 λh=>hj (ds:=[dQ w,iH e L,dB rs cs,.tup []]) O (vP t ok l q (by lia) ?_)).mono ?_
 ·have:decide (n=1)=J:=ai (by have:=of_decide_eq_true h;lia);rw[ao,this]
 ·rintro p rfl;exact⟨O,_,O,O⟩
theorem BN{a c:List Bool}{b:FS}{r r1 d r2:Ev}{S f:cZ}(h1:e9 a r=r1)(h2:iy r1=M)(e:b r1 []=Z (.nx,d,f))(g:e9 c d=r2)(h:iy r2=M):nM a c b r S=Z (.nx,r2,S):=by
 unfold nM;rw[h1,ak h2,e,oS1];dsimp only;rw[g,ak h]
theorem truth(ns:List Int)(y:ns.length<=63):∃S,m_law [.rol (ns.map D.int)] []=Z (.bl M,S):=by
 have l:W (m_law [.rol (ns.map D.int)] []) λp=>p.1 = .bl M:=by
  unfold m_law;refine j3 ?_;unfold AW;have m:(D.rol (ns.map D.int)).und 0=M:=by simp[D.und,k7]
  have q:=λi hi=>BB ns i hi;generalize s:D.rol (ns.map D.int)=N at *
  have a:d4 N []=Z (.int ns.length,[]):=by rw[<- s];simp[d4,dw]
  refine dW (λr S=>S=[]/\r=rV N) ?_ ?_
  ·((try walk_at"w");repeat(simp only[CW,vb,a];try walk_at"w"))
   have u:∃t:Nat,t<=4/\(if(if(ns.length:Int)<4 then(ns.length:Int)else 4)>1 then(if(ns.length:Int)<4 then(ns.length:Int)else 4)else 1)=(t:Int):=by
    by_cases h1:(ns.length:Int)<4
    ·rw[ak h1];by_cases h2:(ns.length:Int)>1
     ·rw[ak h2];exact⟨ns.length,by lia,O⟩
     ·rw[aj h2];exact⟨1,by lia,O⟩
    ·rw[aj h1];exact⟨4,by lia,by decide⟩
   obtain⟨t,z,te⟩:=u;rw[te,Int.toNat_natCast];refine⟨gn (by lia),?_⟩;refine fg (λ_ r S=>S=[]/\r=rV N) _ 0 _ _ ⟨O,O⟩ (λ_ _ _ _=>rfl) ?_ ?_
   ·rintro i d g r S ⟨rfl,rfl⟩;have c:=(gE1.mp g).1;rw [eR] at c;have k:d = .int (i:Nat):=by
     rw[kC,gP1,cf c]at g;exact(Option.some.inj g).symm
    subst k;walk_at"w";obtain⟨⟨f,r2,w⟩,o,n,v,b,j⟩:=q i (by lia);dsimp only at n b;subst n;subst b;refine W.of (x:=(.nx,rV N,[])) (BN (r1:=rU N i Y Y Y Y) O (by simp[iy,D.und,m]) o ?_ (by simp[iy,m])) ⟨O,O,O⟩
    match v,j with
    |[z1,z2,z3,z4,z5,z6,z7,z8,z9,z10,z11,z12],_=>rfl
   ·rintro r S ⟨rfl,rfl⟩;exact⟨O,O,O⟩
  ·rintro r S ⟨rfl,rfl⟩;walk_at"w"
 obtain⟨⟨d,S⟩,e,h⟩:=l;dsimp only at h;exact⟨S,by rw[e,h]⟩
end Law
end
open PySem PySem.W PyProof.Rows
namespace PySem.W.Fast
def tw13760207536450637767:=()
def tw15471224873287604373:=()
def tw16730870979907725909:=()
def tw14794554532045921857:=()
def tw14119673002615428031:=()
def tw17043142947950952663:=()
def tw16189506342840730249:=()
def tw5565440215641846912:=()
def tw2458678335884621247:=()
def tw1544445840301866106:=()
def tw17746975000781606733:=()
def tw462215251909559502:=()
def tw2013414659611743608:=()
def tw4599315071754815343:=()
def tw8436606722754074801:=()
def tw14167765439282687024:=()
def tw17258002876761382959:=()
def tw12025473027522784547:=()
def tw5052048619466059657:=()
def tw8406251151250533730:=()
def tw12420210057339115825:=()
def tw18343615250267749820:=()
def tw8904357101014384486:=()
def tw2948351075076212992:=()
def tw10267694570205952764:=()
def tw3890445402984251258:=()
def tw11830389328136997054:=()
def tw13539574786954040189:=()
def tw16541371665282657799:=()
def tw3186866950918357925:=()
def tw12977178619055326402:=()
def tw8148698017391921545:=()
def tw9106329057277707984:=()
def tw11663748570725204373:=()
def tw16467837154499684556:=()
def tw835772234085512192:=()
def tw12231907098469524278:=()
def tw8469005352810770022:=()
def tw7911420737255151554:=()
def tw4305743898802816437:=()
def tw4770781949645802133:=()
def tw16624542214984670828:=()
def tw8512150022862629477:=()
def tw1754254904700954736:=()
def tw8654653638861785973:=()
def tw5883523762017639069:=()
def tw16568830416755958466:=()
def tw10860622415994384793:=()
def tw9347625465714752967:=()
def tw16745267582554560280:=()
def tw15660286733455556038:=()
def tw3438213013127414868:=()
def tw2750457044610353332:=()
def tw9265861941762325566:=()
def tw14191850074775393979:=()
def tw14495928122475634914:=()
def tw15012385140704661246:=()
def tw12667517756831031390:=()
def tw2398070320699722003:=()
def tw2948427803425610400:=()
def tw593286878383180307:=()
def tw9890698273144649185:=()
def tw12993380532745010753:=()
def tw15309569489888006292:=()
def tw10477960826631485692:=()
def tw11981419298362142982:=()
def tw14543975032888928188:=()
def tw1328630815402395030:=()
def tw5089594430248910236:=()
def tw2468288374572325554:=()
def tw7472970296944565138:=()
def tw10038735280340356318:=()
def tw14440880896811469380:=()
def tw14831159481015360663:=()
def tw6591135605438832058:=()
def tw15227870595184208273:=()
def tw3580417763681080847:=()
def tw15973854383838304297:=()
def tw4795284855226050651:=()
def tw13149255955420996735:=()
def tw5819725610775705579:=()
def tw4513426354062925411:=()
def tw16668483843822094419:=()
def tw15493801578538325834:=()
def tw5324936253960635596:=()
def tw14535067326112127702:=()
def tw1260863787264164404:=()
def tw10187559405457993948:=()
def tw11124669997858268890:=()
def tw10922368096607250326:=()
def tw6822880279867344133:=()
def tw2845658840236324107:=()
def tw9843187981599412196:=()
def tw16678348845166638511:=()
def tw11105674124968278672:=()
def tw8332388066791316578:=()
def tw17616588749432313763:=()
def tw4233298753755286670:=()
def tw6289823867976978839:=()
def tw18340153814799318035:=()
def tw1343232378854541090:=()
def tw391930213189131175:=()
def tw2109891074466805243:=()
def tw15380986768062432420:=()
def tw5427516330362314506:=()
def tw5201868923528717891:=()
def tw13369552392870162467:=()
def tw6711887476508328444:=()
def tw8785918115166411973:=()
def tw6811925302388721379:=()
def tw10775802322597701068:=()
def tw18358518686877953326:=()
def tw15637169911197535575:=()
def tw17298751191285869925:=()
def tw11273224184102895962:=()
def tw4691852224560582130:=()
def tw14280711553121341711:=()
def tw11143471780612377420:=()
def tw545358965812401416:=()
def tw14360616395984254197:=()
def tw2031433321463158130:=()
def tw3977191364728839341:=()
def tw17038711299628461549:=()
def tw9070609027019632481:=()
def tw17269191920086079881:=()
def tw2444665988351463777:=()
def tw12339829846588242706:=()
def tw3853269669402316835:=()
def tw17722136274008223515:=()
def tw14485800524629484973:=()
def tw11513892735274506942:=()
def tw11443517045566598351:=()
def tw7102995690617506167:=()
def tw18072696794072089787:=()
def tw16488066042037033131:=()
def tw11876950732722774829:=()
def tw8996708661488496593:=()
def tw4985173689997521206:=()
def tw17812775325672757925:=()
def tw6046520623922934824:=()
def tw515138868689795769:=()
def tw12212586291031181807:=()
def tw6950897249231111619:=()
def tw17747736823251088779:=()
def tw13642788255834901514:=()
def tw13518897161848612022:=()
def tw10833215926391121737:=()
def tw986422485451580275:=()
def tw2279987378979528309:=()
def tw15956773393452003784:=()
def tw12600763490502261285:=()
def tw2724147500417894922:=()
def tw6995948741039000335:=()
def tw17624861539960476553:=()
def tw5035199338483126520:=()
def tw4405472349517570571:=()
def tw14718789104712081666:=()
def tw4649554357825658759:=()
def tw9313349108685808750:=()
def tw13125743936407759349:=()
def tw12170167359668003825:=()
def tw14042220786259227679:=()
def tw1098067961899091569:=()
def tw1251202024537733091:=()
def tw1178550051893284291:=()
def tw3295675468703570138:=()
def tw10202907706404088188:=()
def tw1608547117119799696:=()
def tw5997365718567327234:=()
def tw13412832686900882357:=()
def tw13377557534250030550:=()
def tw7566941605418127287:=()
def tw10610692019643974046:=()
def tw6509135931622051352:=()
def tw12805162595959583406:=()
def tw2053064779786683370:=()
def tw8283446621236999655:=()
def tw1231644777773167819:=()
def tw14012692804960581231:=()
def tw16724578544910974879:=()
def tw15306180121000235767:=()
def tw10740719562030754045:=()
end PySem.W.Fast
set_option maxRecDepth 100000 in
set_option maxHeartbeats 0 in
theorem PySem.Challenge.cw_ringmeet_k70_lookers_of_anything_holds : PySem.Challenge.rw_ringmeet_k70_lookers_of_anything.Holds := by
 w_on;refine PySem.W.holds_law (by decide+kernel) fun d=>?_;k_head;(case hw=>w_witness2)
 k_fill
 refine Mi.walk_m (l:=PySem.Challenge.rw_ringmeet_k70_lookers_of_anything) (m:=Law.m_law) (k:=7) (x:="_law_script") rfl rfl ⟨rfl,by decide,by decide,rfl⟩ (fun w h Y=>PySem.W.kIn_of Y) Law.truth ?F
 case F=>
  intro w mg f h e G b;refine' Law.all_mk e G b ?a1 ?a2 ?a3 ?a4 ?a5 ?a6 ?a7 ?a8 ?a9 ?a10 ?a11 ?a12 ?a13 ?a14 ?a15 ?a16 ?a17 ?a18 ?a19 ?a20 ?a21 ?a22 ?a23 ?a24 ?a25 ?a26 ?a27 ?a28 ?a29 ?a30 ?a31 ?a32 ?a33 ?a34 ?a35 ?a36 ?a37 ?a38 ?a39 ?a40 ?a41 ?a42 ?a43 ?a44 ?e_MOODS ?e_PARTS ?h2 ?h3 ?h6 ?h9 ?h12 ?z
  all_goals try (refine' Mi.Il ?a ?l ?c ?k;(case a=>k_is);(case l=>k_is);(case c=>k_is);(case k=>k_is))
  (case e_MOODS=>k_is)
  (case e_PARTS=>k_is)
  (case h2=>k_is)
  (case h3=>k_is)
  (case h6=>k_is)
  (case h9=>k_is)
  (case h12=>k_is)
  (case z=>exact ⟨by k_is,by k_is,by k_is,by k_is,by k_is,by k_is,by k_is,by k_is,by k_is,by k_is,by k_is,by k_is,by k_is,by k_is,by k_is,by k_is,trivial⟩)

