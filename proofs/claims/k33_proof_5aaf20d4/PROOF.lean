import PyProof.Rows.All
import Wide.All
import OpenK.AllK
import Wide.FinOn
import Lean
import PyProof.EqAt
import PyProof.EqKinds
import PyProof.TupleCall
import PySem.Challenge.RW_ringmeet_k33_marking_first
set_option Elab.async false
set_option compiler.extract_closed false
set_option linter.all false
set_option maxRecDepth 100000
set_option maxHeartbeats 4000000
open List renaming getElem?_eq_some_iff → gE1, getElem?_append_left → gL1, getElem?_eq_getElem → gG1, mem_of_getElem? → gM1, getElem?_set_ne → gS1, length_append → lA1, length_map → lM1, getElem?_cons_succ → gC1, mem_cons_of_mem → mC1, mem_cons_self → mS1, getElem?_map → gP1, getElem?_append_right → gR1, size_toArray → sT1, map_cons → mP1, length_cons → lC1, length_replicate → lR1, mem_append_right → mA1
open Option renaming bind_eq_some_iff → oB1, map_eq_some_iff → oM1, bind_some → oS1, map_some → oP1
open Nat renaming le_refl → nR1, lt_of_lt_of_le → nL1, ne_of_lt → nN1, ne_of_gt → nG1
open Bool renaming and_eq_true → bA1, false_eq_true → bF1
open Array renaming getElem?_eq_getElem → aG1, getElem?_toList → aT1
open PySem.W renaming Frag → Fg1, nsIn → wN1, keepIn → wK1, codeIn → wC1, fnOf → wF1, mg_of → wM1
open PySem.Heap renaming get?_push_of_some → hP1, get?_push_size → hS1, lt_size → hL1, size_push → hZ1, get?_update_ne → hU1, get?_update_self → hW1
open PySem renaming wpAny_bind → wB1, wpAny_pure → wP1, wpAny_setField_rec → wS1, wpAny_newObj_type → wO1, codeAny_builtin → wD1, wpAny_call_entry → wE1
open List renaming take_nil → av, drop_nil → aw, mem_filter → aA, mem_range → aB, filterMap_cons → aE, mem_cons → aF, mem_append → aG, mem_append_left → aH, getElem?_set_self → aI, mem_filterMap → aL, append_nil → aN, nodup_cons → aO, replicate → aP, length_take → aR, getElem?_replicate → aS, getElem?_take_of_lt → aT, take_sublist → aU, length_drop → aV, length_set → aW, length_singleton → aY, map_nil → aZ, find?_cons → bc, any_cons → bd, length_nil → bf, cons_append → bj, prefix_rfl → bn, nodup_nil → bo, getElem?_of_mem → bq, map_map → bu, prefix_append → bv, nodup_append → bA, all_eq_true → bC, drop_drop → bE, forIn_cons → bF, lookup_cons → bG, append_assoc → bH, getD_eq_getElem?_getD → bK, zipIdx_cons → bL, not_mem_nil → bM, all_cons → bP, any_eq_true → bR, getElem_mem → bS, zip_cons_cons → bT, drop_eq_getElem_cons → bU, cons_prefix_cons → bW, drop_zero → bX, take_length → bY, ext_getElem? → bZ, getElem?_eq_none → b4, findIdx?_eq_some_iff_getElem → b6, take_of_length_le → b8, foldl_cons → b9, pairwise_cons → ca, mem_map → cc, getElem?_toArray → cg, mapM_toArray → cj, all_toArray → ck, length_eq_zero_iff → cm, take_succ → cr, map_append → cu, pairwise_iff_getElem → cw, pairwise_append → cB, getElem?_drop → cC, drop_sublist → cD, pairwise_lt_range → cE, length_eraseIdx_of_lt → cF, take_append_drop → cG, eraseIdx_eq_take_drop_succ → cH, getElem?_range → cI, mem_of_mem_take → cJ, mem_of_mem_drop → cK, contains_iff_mem → cN, forall_mem_nil → cO, perm_append_comm → cP, take_succ_cons → cQ, take_zero → cR, extract_eq_take_drop → cT, mem_singleton → cU, mem_reverse → cV, nil_append → cW, set_append_right → cZ, set_cons_zero → c5, flatten_cons → c6, set_cons_succ → c7, length_pos_iff → c8, flatten_append → c9, take_left → da, map_congr_left → de, filter_cons → df, pairwise_map → dg, getElem?_cons_zero → di, length_filter_le → dj, zipWith → dq, zipWith_cons_cons → dr, mem_of_find?_eq_some → dw, length_range → dy, all_append → dz, mem_flatMap → dA
open Option renaming some → ay, isSome_iff_exists → aQ, isSome_map → bg, getD_some → b7
open Nat renaming lt_irrefl → az, le_trans → aC, le_of_lt → aD, le_succ → aX, le_of_not_lt → a0, lt_trans → bh, zero_le → bi, add_assoc → bm, le_add_right → br, add_sub_cancel_left → bt, not_lt_zero → bw, min_eq_left → bB, lt_succ_self → bD, lt_of_le_of_lt → bI, le_of_succ_le → bJ, lt_or_ge → bV, lt_succ_of_lt → cv, sub_self → cM, zero_add → cY, mul_le_mul_right → dk, lt_succ_of_le → dB
open Array renaming length_toList → aJ, mem_toList_iff → aM, perm_iff_toList_perm → cb, mem_of_getElem? → cf, getElem?_eq_none → cp, toList_push → cq, toList_append → cy, toList_extract → cA, getElem_mem → cS, toList_reverse → cX
open Bool renaming false_ne_true → aK, and_true → bN, or_eq_true → bO, eq_iff_iff → bQ, not_true → b5, not_false → ci, and_self → db
open PySem renaming Value → dD, Shared → dE, Addr → dF, Program → dG, Around → dH, World → dI, mainGlobals → dJ, starEach → dL, sizeLine → dM, wpAny → dN, codeAny → dP, Heap → dQ, FuncData → dR, Stmt → dS, Scope → dU
open Option renaming some → Z, none → Y
open Bool renaming true → M, false → J
theorem Mi.O{α}{a:α}:a=a:=rfl
open Mi (O)
theorem Mi.al{p:Prop}[Decidable p]:(decide p=true)=p:=decide_eq_true_eq
theorem Mi.ak{c:Prop}{h:Decidable c}(a:c){α:Sort _}{t e:α}:ite c t e=t:=if_pos a
theorem Mi.aj{c:Prop}{h:Decidable c}(a:¬c){α:Sort _}{t e:α}:ite c t e=e:=if_neg a
theorem Mi.ai{p:Prop}[Decidable p]:¬p→decide p=false:=decide_eq_false
theorem Mi.ah{p:Prop}[Decidable p]:p→decide p=true:=decide_eq_true
open List renaming range → af
open Mi (al ak aj ai ah)
noncomputable section
namespace L2
open PySem PySem.Spec PyProof.Rows
abbrev Key:=Sum Int Str
noncomputable def pY:Key->dD->Bool
 | .inl k,v=>Value.isInt k v
 | .inr x,v=>Value.isStrOf x v
noncomputable def Ko(w:dI):Key->Int
 | .inl k=>hashInt k
 | .inr x=>hashStr w x
theorem fg:∀{k:Key} {v:dD},pY k v=M->(∃i t,k=Sum.inl i/\v=Value.int i t)\/(∃x t,k=Sum.inr x/\v=Value.str x t)
 | .inl i,v,h=>by
  obtain⟨t,e⟩:=Value.isInt_shape (k:=i) (v:=v) h;exact .inl ⟨i,t,O,e⟩
 | .inr x,v,h=>by
  obtain⟨t,e⟩:=Value.isStrOf_shape (x:=x) (v:=v) h;exact .inr ⟨x,t,O,e⟩
theorem yc(i:Int)(t:Tok):pY (.inl i) (.int i t)=M:=by simp[pY,Value.isInt]
theorem yb(x:Str)(t:Tok):pY (.inr x) (.str x t)=M:=by simp[pY,Value.isStrOf]
theorem GL(a b:Int):decide ((Sum.inl a:Key)=Sum.inl b)=(a == b):=by
 by_cases e:a=b
 ·subst e;simp
 ·have h:¬ (Sum.inl a:Key)=Sum.inl b:=λq=>e (Sum.inl.inj q);rw[ai h];exact(beq_eq_false_iff_ne.mpr e).symm
theorem GH(a b:Str):decide ((Sum.inr a:Key)=Sum.inr b)=decide (a=b):=by
 by_cases e:a=b
 ·subst e;simp
 ·have h:¬ (Sum.inr a:Key)=Sum.inr b:=λq=>e (Sum.inr.inj q);rw[ai h,ai e]
theorem GK(a:Int)(b:Str):decide ((Sum.inl a:Key)=Sum.inr b)=J:=ai (λq=>nomatch q)
theorem GI(a:Str)(b:Int):decide ((Sum.inr a:Key)=Sum.inl b)=J:=ai (λq=>nomatch q)
noncomputable def fe(prog:dG)(w:dI):PySem.KeyKind prog w Key where
 is:=pY
 hash:=Ko w
 inj:=λv a b ha hb=>by
  rcases fg ha with⟨i,t,rfl,rfl⟩|⟨x,t,rfl,rfl⟩
  ·rcases fg hb with⟨j,u,rfl,e⟩|⟨y,u,rfl,e⟩
   ·injection e with e1 _;rw[e1]
   ·exact nomatch e
  ·rcases fg hb with⟨j,u,rfl,e⟩|⟨y,u,rfl,e⟩
   ·exact nomatch e
   ·injection e with e1 _;rw[e1]
 byValue:=λk v h=>by
  rcases fg h with⟨i,t,rfl,rfl⟩|⟨x,t,rfl,rfl⟩<;>rfl
 pyHash:=λhv h=>by
  rcases fg hv with⟨i,t,rfl,rfl⟩|⟨x,t,rfl,rfl⟩
  ·exact wpAny_pyHash_int h
  ·exact wpAny_pyHash_str h
 eqBool:=λhu hv h=>by
  rcases fg hu with⟨i,t,rfl,rfl⟩|⟨x,t,rfl,rfl⟩
  ·rcases fg hv with⟨j,u,rfl,rfl⟩|⟨y,u,rfl,rfl⟩
   ·rw[GL]at h;exact wpAny_eqBool_int h
   ·rw[GK]at h;exact SeqAt.EqAt.int_str i t y u _ _ _ _ h
  ·rcases fg hv with⟨j,u,rfl,rfl⟩|⟨y,u,rfl,rfl⟩
   ·rw[GI]at h;exact SeqAt.EqAt.str_int x t j u _ _ _ _ h
   ·rw[GH]at h;exact wpAny_eqBool_str h
 «strs» :=λk x t v h=>by
  rcases fg h with⟨i,u,rfl,e⟩|⟨y,u,rfl,e⟩
  ·exact nomatch e
  ·injection e with e1 _;subst e1;cases v<;>rfl
theorem tf(prog:dG)(w:dI)(i:Int)(t:Tok):(fe prog w).is (.inl i) (.int i t)=M:=yc i t
theorem s9(prog:dG)(w:dI)(x:Str)(t:Tok):(fe prog w).is (.inr x) (.str x t)=M:=yb x t
end L2
namespace L2
open PySem PySem.Spec PyProof.Rows
inductive V where
 |non|bl (b:Bool)|int (i:Int)|str (x:Str)|byt (b:Array UInt8)|flt (b:UInt64)|ref (a:dF)|ty (n:String)
 deriving DecidableEq
def d6:V->dD->Prop
 | .non,u=>u=Value.none
 | .bl b,u=>u=Value.bool b
 | .int i,u=>∃t,u=Value.int i t
 | .str x,u=>∃t,u=Value.str x t
 | .byt b,u=>∃t,u=Value.bytes b t
 | .flt b,u=>∃t,u=Value.float b t
 | .ref a,u=>u=Value.ref a
 | .ty n,u=>u=Value.type n
abbrev ei:List V->List dD->Prop:=Paired d6
theorem ei.length{xs:List V}{a:List dD}(r:ei xs a):xs.length=a.length:=Paired.length r
theorem ei.get:∀{xs:List V} {a:List dD} {i:Nat} {x:V},ei xs a->xs[i]?=Z x -> ∃u,a[i]?=Z u/\d6 x u:=by
 intro xs a i x h e
 induction h generalizing i with
 |nil=>cases e
 |cons r t ih=>cases i with
  |zero=>cases e;exact⟨_,O,r⟩
  |succ i=>exact ih (i:=i) e
theorem ei.set{x:V}{u:dD}(r:d6 x u):∀{xs:List V} {a:List dD} (i:Nat),ei xs a->ei (xs.set i x) (a.set i u):=by
 intro xs a i h
 induction h generalizing i with
 |nil=>exact .nil
 |cons q t ih=>cases i with
  |zero=>exact .cons r t
  |succ i=>exact .cons q (ih i)
theorem ei.append:∀{xs ys:List V} {a ws:List dD},ei xs a->ei ys ws->ei (xs++ys) (a++ws):=by
 intro xs ys a ws h s
 induction h with
 |nil=>exact s
 |cons r t ih=>exact .cons r ih
theorem ei.take:∀{xs:List V} {a:List dD} (n:Nat),ei xs a->ei (xs.take n) (a.take n):=by
 intro xs a n h
 induction h generalizing n with
 |nil=>rw[av,av];exact .nil
 |cons r t ih=>cases n with
  |zero=>exact .nil
  |succ n=>exact .cons r (ih n)
theorem ei.drop:∀{xs:List V} {a:List dD} (n:Nat),ei xs a->ei (xs.drop n) (a.drop n):=by
 intro xs a n h
 induction h generalizing n with
 |nil=>rw[aw,aw];exact .nil
 |cons r t ih=>cases n with
  |zero=>exact .cons r t
  |succ n=>exact ih n
def me:Option V->Option dD->Prop
 |some v,Z u=>d6 v u
 |none,Y=>True
 |_,_=>False
def KV{κ:Type}:List (κ×V)->List (κ×dD)->Prop:=Paired λ(p:κ×V) (q:κ×dD)=>p.1=q.1/\d6 p.2 q.2
noncomputable def kV:Key->V
 | .inl i=>.int i
 | .inr x=>.str x
inductive HO where
 /-- a list -/
 |lst (xs:List V)
 /-- a tuple (never changes) -/
 |tup (xs:List V)
 /-- a dict whose keys are ints and texts; one whose keys are tuples of ints and texts (the empty one is both) -/
 |dK (kvs:List (Key×V))|dT (kvs:List (List Key×V))
 /-- a set of ints: its members, its size -/
 |set (S:Int->Bool) (n:Nat)
 /-- an instance of the class at C, its dict at dx, its attributes -/
 |ins (C dx:dF) (fs:List (Str×V))
 /-- the dict of the instance at x -/
 |own (x:dF)
 /-- the dict of an exception -/
 |xd (fs:List (Str×V))
 /-- a bound method, f of x -/
 |met (f x:dF)
 /-- a range object lo, lo + 1, .. below hi -/
 |rng (lo hi:Int)
 /-- a thing that is known to the object (the script; a dict while a loop walks it): read, never written while it is so -/
 |frz (o:Obj) (u:HO)
 /-- a code object's table -/
 |tbl (ps:Array dD)
 /-- any other thing, by what is true of its one object (a def of one's own: SetO a S n := HO.ext λh => ..) -/
 |ext (φ:dQ->Prop)
abbrev Hp:=dF->Option HO
noncomputable def upd(H:Hp)(a:dF)(o:HO):Hp:=λb=>if b=a then Z o else H b
theorem d9{H:Hp}{a:dF}{o:HO}:upd H a o a=Z o:=by unfold upd;rw[ak O]
theorem dZ{H:Hp}{a b:dF}{o:HO}(h:b≠a):upd H a o b=H b:=by unfold upd;rw[aj h]
theorem Ir{H:Hp}{a b:dF}{o u:HO}(h:H a=Z o)(h':H b=Z u)(d:o≠u):a≠b:=by
 intro e;subst e;rw[h]at h';exact d (Option.some.inj h')
theorem eD{H:Hp}{a b:dF}{o:HO}(h:H a=Z o)(h':H b=Y):a≠b:=by
 intro e;subst e;rw[h]at h';cases h'
section
variable(P:dG) (w:dI)
def eJ(H:Hp)(h:dQ)(a:dF):HO->Prop
 | .lst xs=>xs.length<=dM /\ ∃(its:List dD) (n:Nat),ei xs its/\h.get? a=Z {cls:=.type "list",data:=.seq its.toArray n}
 | .tup xs=>xs.length<=dM /\ ∃its:List dD,ei xs its/\IsTup h a its.toArray
 | .dK kvs=>kvs.length<=dM/\(a == sysModules)=J /\ ∃vs,KV kvs vs/\h.DictOf (fe P w) a vs
 | .dT kvs=>kvs.length<=dM/\(a == sysModules)=false /\ ∃ xs:List (List Key×dF×dD),
   Paired (λ(p:List Key×V) (q:List Key×dF×dD)=>p.1=q.1/\H q.2.1=Z (.tup (p.1.map kV))/\d6 p.2 q.2.2) kvs xs /\
   ∃o es ep,h.get? a=Z o/\o.ExactDict/\o.data = .dict es ep/\es.toList=xs.map (entryOfKey (tupleKind (fe P w)))/\(xs.map (·.1)).Nodup
 | .set S n=>h.SetOf (intKind P w) a S n
 | .ins C dx fs=>H dx=some (.own a)/\fs.length<=1000/\dx≠a/\h.get? a=some (PySem.W.instObj C dx) /\
   ∃mA,h.Ns1 dx mA/\(∀f,me (fs.lookup f) (mA f))/\PySem.Within mA (fs.map (·.1))
 | .own _=>∃o,h.get? a=Z o
 | .xd fs=>∃mA,h.Ns1 a mA /\ ∀f,me (fs.lookup f) (mA f)
 | .rng lo hi=>∃t u v,h.get? a=Z {cls:=.type "range",data:=.fields #[.int lo t,.int hi u,.int 1 v]}
 | .frz o u=>h.get? a=Z o/\eJ H h a u
 | .tbl ps=>h.get? a=Z {cls:=.none,data:=.fields ps}
 | .met f x=>h.get? a=Z (PySem.W.methodObj (.ref f) (.ref x))
 | .ext φ=>φ h/\(∃o,h.get? a=Z o) /\ ∀h1 h2:dQ,φ h1->(∀o,h1.get? a=Z o->h2.get? a=Z o)->φ h2
def kn(H:Hp)(h:dQ):Prop:=∀a o,H a=Z o->eJ P w H h a o
end
section
variable{P:dG}{w:dI}{H H':Hp}{h h':dQ}{a:dF}{o:HO}
theorem eJ.lt(x:eJ P w H h a o):a<h.objs.size:=by
 cases o with
 |lst xs=>obtain⟨_,_,_,_,e⟩:=x;exact hL1 e
 |tup xs=>obtain⟨_,_,_,p⟩:=x;exact p.lt
 |dK kvs=>obtain⟨_,_,_,_,o,_,_,e,_⟩:=x;exact hL1 e
 |dT kvs=>obtain⟨_,_,_,_,o,_,_,e,_⟩:=x;exact hL1 e
 |set S n=>obtain⟨o,_,_,_,e,_⟩:=x;exact hL1 e
 |ins C dx fs=>obtain⟨_,_,_,e,_⟩:=x;exact hL1 e
 |own y=>obtain⟨_,e⟩:=x;exact hL1 e
 |xd fs=>obtain⟨_,⟨_,_,_,e,_⟩,_⟩:=x;exact hL1 e
 |rng lo hi=>obtain⟨_,_,_,e⟩:=x;exact hL1 e
 |frz b u=>obtain⟨e,_⟩:=x;exact hL1 e
 |tbl ps=>exact hL1 (show h.get? a=Z _ from x)
 |met f y=>exact hL1 (show h.get? a=Z _ from x)
 |ext φ=>obtain⟨_,⟨_,e⟩,_⟩:=x;exact hL1 e
theorem Paired.mapP{α β:Type}{F G:α->β->Prop}:∀{l₁:List α} {l₂:List β},Paired F l₁ l₂->(∀a b,F a b->G a b)->Paired G l₁ l₂:=by
 intro a b h f
 induction h with
 |nil=>exact .nil
 |cons r t ih=>exact .cons (f _ _ r) ih
theorem eJ.stay(x:eJ P w H h a o)(k:∀ b u,(b=a\/H b=Z (.own a))->h.get? b=Z u->h'.get? b=Z u)(ho:∀b,H b=Z (.own a)->H' b=Z (.own a))(ht:∀b xs,H b=Z (.tup xs)->H' b=Z (.tup xs)):eJ P w H' h' a o:=by
 induction o with
 |lst xs=>obtain⟨z,i,n,r,e⟩:=x;exact⟨z,i,n,r,k _ _ (.inl O) e⟩
 |tup xs=>obtain⟨z,i,r,g,e,c⟩:=x;exact⟨z,i,r,g,k _ _ (.inl O) e,c⟩
 |dK kvs=>obtain⟨z,y,vs,r,g,es,ep,e,c⟩:=x;exact⟨z,y,vs,r,g,es,ep,k _ _ (.inl O) e,c⟩
 |dT kvs=>
  obtain⟨z,y,xs,r,g,es,ep,e,c⟩:=x;exact⟨z,y,xs,Paired.mapP r λp q z=>⟨z.1,ht _ _ z.2.1,z.2.2⟩,g,es,ep,k _ _ (.inl O) e,c⟩
 |set S n=>obtain⟨g,es,ep,t,e,c⟩:=x;exact⟨g,es,ep,t,k _ _ (.inl O) e,c⟩
 |ins C dx fs=>
  obtain⟨d,z,ne,e,mA,⟨j,es,ep,l,c⟩,r⟩:=x;exact⟨ho _ d,z,ne,k _ _ (.inl O) e,mA,⟨j,es,ep,k _ _ (.inr d) l,c⟩,r⟩
 |own y=>obtain⟨g,e⟩:=x;exact⟨g,k _ _ (.inl O) e⟩
 |xd fs=>obtain⟨mA,⟨j,es,ep,e,c⟩,r⟩:=x;exact⟨mA,⟨j,es,ep,k _ _ (.inl O) e,c⟩,r⟩
 |rng lo hi=>obtain⟨t,u,v,e⟩:=x;exact⟨t,u,v,k _ _ (.inl O) e⟩
 |frz g u ih=>obtain⟨e,q⟩:=x;exact⟨k _ _ (.inl O) e,ih q⟩
 |tbl ps=>
  have e:h.get? a=Z {cls:=.none,data:=.fields ps}:=x;show h'.get? a=Z {cls:=.none,data:=.fields ps};exact k a _ (.inl O) e
 |met f y=>
  have e:h.get? a=Z (PySem.W.methodObj (.ref f) (.ref y)):=x;show h'.get? a=Z (PySem.W.methodObj (.ref f) (.ref y));exact k a _ (.inl O) e
 |ext φ=>obtain⟨p,⟨o,e⟩,st⟩:=x;exact⟨st _ _ p λo q=>k _ _ (.inl O) q,⟨o,k _ _ (.inl O) e⟩,st⟩
theorem kn.lt(x:kn P w H h)(e:H a=Z o):a<h.objs.size:=(x a o e).lt
theorem kn.fresh(x:kn P w H h)(e:h.objs.size<=a):H a=Y:=by
 cases q:H a with
 |none=>rfl
 |some u=>exact absurd (nL1 (x.lt q) e) (az _)
theorem kn.kept(x:kn P w H h)(k:∀b u,h.get? b=Z u->h'.get? b=Z u):kn P w H h':=λa o e=>
 (x a o e).stay (λb u _ q=>k b u q) (λ_ q=>q) λ_ _ q=>q
theorem kn.laid(x:kn P w H h)(k:∀b u,h.get? b=Z u->h'.get? b=Z u)(hp:h.objs.size<=a)(new:eJ P w (upd H a o) h' a o):kn P w (upd H a o) h':=λb u e=>by
 have f:=x.fresh hp;by_cases d:b=a
 ·subst d;rw[d9]at e;cases e;exact new
 ·rw[dZ d]at e;exact(x b u e).stay (λc v _ q=>k c v q) (λc q=>by rw[dZ (eD q f)];exact q) λc xs q=>by rw[dZ (eD q f)];exact q
end
def Rd(H:Hp)(a:dF)(u:HO):Prop:=H a=Z u \/ ∃o,H a=Z (.frz o u)
theorem Rd.ok{P:dG}{w:dI}{H:Hp}{h:dQ}{a:dF}{u:HO}(r:Rd H a u)(x:kn P w H h):eJ P w H h a u:=by
 rcases r with r|⟨o,r⟩
 ·exact x a u r
 ·obtain⟨_,q⟩:=x a _ r;exact q
def Mut:Option HO->Prop
 |some (.lst _)=>True
 |some (.dK _)=>True
 |some (.dT _)=>True
 |some (.set _ _)=>True
 |some (.ins _ _ _)=>True
 |some (.ext _)=>True
 |_=>False
section
variable{P:dG}{w:dI}{H:Hp}{h h':dQ}{x e:dF}{o':HO}
theorem kn.write(ok:kn P w H h)(mu:Mut (H x))(he:e=x\/H e=Z (.own x))(k:∀ b u,b≠e->h.get? b=Z u->h'.get? b=Z u)(i:∃ u,h'.get? e=Z u)(new:eJ P w (upd H x o') h' x o'):kn P w (upd H x o') h':=λb u q=>by
 have d:∀c y,H c=Z (.own y)->c≠x:=λc y r z=>by subst z;rw[r]at mu;exact mu
 have f:∀c xs,H c=Z (.tup xs)->c≠x:=λc xs r z=>by subst z;rw[r]at mu;exact mu
 by_cases g:b=x
 ·subst g;rw[d9]at q;cases q;exact new
 ·rw[dZ g]at q;by_cases a:b=e
  ·have j:H b=some (.own x):=by
    rcases he with z|z
    ·exact absurd (a.trans z) g
    ·rw[a];exact z
   rw[q]at j;cases j;obtain⟨v,l⟩:=i;exact⟨v,by rw[a];exact l⟩
  ·refine(ok b u q).stay (λc v hc r=>k c v ?_ r) (λc r=>by rw[dZ (d c b r)];exact r) λc xs r=>by rw[dZ (f c xs r)];exact r
   rcases hc with rfl|hc
   ·exact a
   ·rintro rfl;rcases he with z|z
    ·exact d c b hc z
    ·rw[hc]at z;cases z;exact g O
end
structure Un (fs ex:List dF)(H H':Hp)(h h':dQ):Prop where
 keep:∀b o,h.get? b=some o->H b=none->b∉fs->b∉ex->h'.get? b=some o
 slot:∀b o,h.get? b=some o->H b=none->b∈fs->b∉ex -> ∃sl,h'.get? b=some {o with slots:=sl}
 free:∀b o,h.get? b=some o->H b=none->b∉ex->H' b=none
 there:∀b o,h.get? b=some o->b∉ex -> ∃o',h'.get? b=some o'
 tups:∀b xs,H b=some (.tup xs)->H' b=some (.tup xs)
 frzs:∀b o u,H b=some (.frz o u)->H' b=some (.frz o u)
 tbls:∀b ps,H b=some (.tbl ps) -> ∃more,H' b=some (.tbl (ps++more))
section
variable{fs fs' ex ex':List dF}{H H1 H2:Hp}{h h1 h2 h':dQ}{a x e:dF}{o:HO}
theorem Un.any(u:Un fs ex H H1 h h1){b:dF}{a:Obj}(q:h.get? b=Z a)(n:H b=Y)(hx:b∉ex):∃d,h1.get? b=Z {a with slots:=d}:=by
 by_cases c:b∈fs
 ·exact u.slot b a q n c hx
 ·exact⟨a.slots,u.keep b a q n c hx⟩
theorem Un.kept(k:∀b u,h.get? b=Z u->h'.get? b=Z u):Un fs ex H H h h':=
 ⟨λb a q _ _ _=>k b a q,λb a q _ _ _=>⟨a.slots,k b a q⟩,λ_ _ _ n _=>n,λb a q _=>⟨a,k b a q⟩,λ_ _ q=>q,λ_ _ _ q=>q,λ_ ps q=>⟨#[],by rw[q];simp⟩⟩
theorem Un.refl:Un fs ex H H h h:=Un.kept λ_ _ q=>q
theorem Un.laid(k:∀b u,h.get? b=Z u->h'.get? b=Z u)(hp:h.objs.size<=a)(hn:H a=Y):Un fs ex H (upd H a o) h h' where
 keep:=λb u q _ _ _=>k b u q
 slot:=λb u q _ _ _=>⟨u.slots,k b u q⟩
 free:=λb u q n _=>by rw[dZ (nN1 (nL1 (hL1 q) hp))];exact n
 there:=λb u q _=>⟨u,k b u q⟩
 tups:=λb xs q=>by rw[dZ (eD q hn)];exact q
 frzs:=λb u xs q=>by rw[dZ (eD q hn)];exact q
 tbls:=λb ps q=>⟨#[],by rw[dZ (eD q hn),q];simp⟩
theorem Un.write(mu:Mut (H x))(he:e=x\/H e=Z (.own x))(k:∀b u,b≠e->h.get? b=Z u->h'.get? b=Z u)(c:∃u,h'.get? e=Z u):Un fs ex H (upd H x o) h h':=by
 have g:∀b,H b=Y->b≠x:=λb n z=>by subst z;rw[n]at mu;exact mu
 have f:∀b,H b=Y->b≠e:=λb n z=>by
  subst z;rcases he with r|r
  ·exact g b n r
  ·rw[n]at r;cases r
 have d:∀b u,H b=Z u -> ¬ Mut (Z u)->b≠x:=λb u q nm z=>by subst z;rw[q]at mu;exact nm mu
 refine⟨λb u q n _ _=>k b u (f b n) q,λb u q n _ _=>⟨u.slots,k b u (f b n) q⟩,λb u q n _=>by rw[dZ (g b n)];exact n,λb u q _=>?_,
  λb xs q=>by rw[dZ (d b _ q λz=>z)];exact q,λb u xs q=>by rw[dZ (d b _ q λz=>z)];exact q,λb ps q=>⟨#[],by rw[dZ (d b _ q λz=>z),q];simp⟩⟩
 by_cases a:b=e
 ·subst a;exact c
 ·exact⟨u,k b u a q⟩
end
noncomputable def trk(h:dQ)(H:Hp):List dF:=(af h.objs.size).filter λa=>(H a).isSome
noncomputable def rM(h:dQ)(H:Hp):dQ:=PySem.W.hideAll h (trk h H)
theorem yp(h:dQ)(H:Hp):(rM h H).objs.size=h.objs.size:=PySem.W.hideAll_size _ _
theorem AS{h:dQ}{H:Hp}{b:dF}{o:Obj}(e:h.get? b=Z o)(n:H b=Y):(rM h H).get? b=Z o:=
 PySem.W.hideAll_get _ e λa=>by
  have q:(H b).isSome=M:=(aA.mp a).2;rw[n]at q;simp at q
theorem CM{h:dQ}{H:Hp}{b:dF}{o:Obj}(e:(rM h H).get? b=Z o):h.get? b=Z o/\H b=Y:=by
 have a:h.get? b=Z o:=PySem.W.of_hideAll (trk h H) e;refine⟨a,?_⟩;cases q:H b with
 |none=>rfl
 |some x=>
  have c:b∈trk h H:=aA.mpr ⟨aB.mpr (hL1 a),by simp[q]⟩;have z:(rM h H).get? b=Y:=PySem.W.hideAll_none (trk h H) c;rw[z]at e;cases e
noncomputable def D0(g h:dQ)(L:dF):List (dF×Obj):=(af h.objs.size).filterMap λa=>if a=L\/(g.get? a).isSome=M then Y else(h.get? a).map λo=>(a,o)
noncomputable def rest(g h:dQ)(L d:dF):List (dF×Obj):=(D0 g h L).filter λp=>decide (p.1≠d)
end L2
namespace L2
open PySem PySem.Spec PyProof.Rows
structure Mod (K:Fg1)(mg:Str->Option dD)(base:dQ):Prop where
 kin:K.In base
 glob:base.Ns dJ mg
 blt:∃mb,base.Ns builtinsNs mb /\ ∀x:Str,x≠"__name__"->mb x=bootBuiltins x
 nolimit:base.NoLimit
structure Cx where
 prog:dG
 w:dI
 K:Fg1
 mg:Str->Option dD
 base:dQ
 A:dH
 N:List Str
 s₀:dE
 H₀:Hp
 env:Env
 outer:List Env
 stack:List Env
 ex:List dF
 fn:Str->Bool
 calm:Bool
 pn:List (dF×Obj)
 xe:dD->dE->Prop
noncomputable def frs(l:List Env):List dF:=l.filterMap (·.frame)
abbrev Cx.fs(X:Cx):List dF:=frs X.outer
def He(sc:dU)(x:Str):Prop:=sc.names.lookup x=Z .local\/sc.names.lookup x=Z .cell\/sc.names.lookup x=Z .free
def yO(sc:dU)(x:Str):Prop:=sc.names.lookup x=Z .local\/sc.names.lookup x=Z .cell
def KD(env:Env)(h:dQ)(m:Str->Option dD)(x:Str)(u:dD):Prop:=
 (env.kindOf x=Z .local/\m x=Z u)\/((env.kindOf x=Z .cell\/env.kindOf x=Z .free) /\ ∃c,env.cells.lookup x=Z c/\h.IsCell c (Z u))
structure Cx.Ok (X:Cx):Prop where
 mod:Mod X.K X.mg X.base
 kind:X.env.scope.kind = .function
 glob:X.env.globals=dJ
 blt:X.env.builtins=builtinsNs
 above:X.s₀.heap.objs.size<=X.env.locals
 inj:∀x y c,X.env.cells.lookup x=some c->X.env.cells.lookup y=some c->x=y
 has:∀x,(X.env.kindOf x=some .cell\/X.env.kindOf x=some .free) -> ∃c,X.env.cells.lookup x=some c
 cab:∀x c,X.fn x=true->X.env.cells.lookup x=some c->X.s₀.heap.objs.size<=c
 hd:X.calm=true->X.A.handled=none
 frames:X.A.frames=some X.stack
 stk:X.stack=X.outer\/(X.stack=X.env::X.outer/\X.env.frame=some X.env.locals)
 exf:∀b∈X.ex,b≠X.env.locals /\ ∀x c,X.env.cells.lookup x=some c->c≠b
 bs:∀b o,X.base.get? b=some o->X.s₀.heap.get? b=some o/\X.H₀ b=none
 bsz:X.base.objs.size<=X.s₀.heap.objs.size
 noex:∀b o,X.base.get? b=some o->b∉X.ex
 exfs:∀b∈X.ex,b∉X.fs
 funs:X.s₀.heap.FunFrames X.base X.outer
 frf:∀b∈X.fs,X.H₀ b=none
structure Inv (X:Cx)(ag:List (dF×Obj))(σ:List (Option V))(H:Hp)(s:dE):Prop where
 ok:X.Ok
 os:s.os=X.s₀.os
 bare:AllBare s.gens
 base:Un X.fs X.ex X.H₀ H X.s₀.heap s.heap
 loc:∃m,s.heap.Ns X.env.locals m /\ ∀(i:Nat) (x:Str) (v:V),X.N[i]?=some x->σ[i]?=some (some v)->He X.env.scope x -> ∃u,d6 v u/\KD X.env s.heap m x u
 cell:∀x c,X.env.cells.lookup x=some c -> ∃v,s.heap.IsCell c v
 free:H X.env.locals=none
 freeC:∀x c,X.env.cells.lookup x=some c->H c=none
 pin:∀p∈X.pn++ag,s.heap.get? p.1=some p.2/\H p.1=none/\p.1≠X.env.locals/\p.1∉X.fs /\ ∀v,p.2.data ≠ .cell v
 hok:kn X.prog X.w H s.heap
 len:σ.length=X.N.length
section
variable{X:Cx}{ag:List (dF×Obj)}{σ:List (Option V)}{H H':Hp}{s:dE}{h':dQ}
theorem Cx.Ok.nofr(ok:X.Ok){b:dF}{o:Obj}(e:X.base.get? b=Z o):b∉X.fs:=λa=>by
 have:=(ok.funs.mem a).1;rw[e]at this;cases this
theorem Inv.bs(I:Inv X ag σ H s):∀b o,X.base.get? b=Z o->s.heap.get? b=Z o/\H b=Y:=λb o e=>
 ⟨I.base.keep b o (I.ok.bs b o e).1 (I.ok.bs b o e).2 (I.ok.nofr e) (I.ok.noex b o e),I.base.free b o (I.ok.bs b o e).1 (I.ok.bs b o e).2 (I.ok.noex b o e)⟩
theorem Inv.bk(I:Inv X ag σ H s):∀b o,X.base.get? b=Z o->s.heap.get? b=Z o:=λb o e=>(I.bs b o e).1
theorem Inv.mod(I:Inv X ag σ H s):Mod X.K X.mg X.base:=I.ok.mod
theorem Inv.kIn(I:Inv X ag σ H s):X.K.In s.heap:=I.ok.mod.kin.keeps I.bk
theorem Inv.lt(I:Inv X ag σ H s):X.env.locals<s.heap.objs.size:=let ⟨_,hn,_⟩:=I.loc;hn.lt
theorem Inv.sz(I:Inv X ag σ H s):X.s₀.heap.objs.size<=s.heap.objs.size:=aC I.ok.above (aD I.lt)
theorem Inv.nofs(I:Inv X ag σ H s){a:dF}(h:s.heap.objs.size<=a):a∉X.fs:=λc=>by
 obtain⟨_,o,b,_⟩:=I.ok.funs.mem c;exact absurd (nL1 (hL1 b) (aC I.sz h)) (az _)
theorem Inv.cne(I:Inv X ag σ H s):∀x c,X.env.cells.lookup x=Z c->c≠X.env.locals:=λx c e z=>by
 obtain⟨v,o,d,f⟩:=I.cell x c e;obtain⟨m,⟨o',es,ep,a,b,_⟩,_⟩:=I.loc;rw[z,a]at d;cases d;rw[b]at f;cases f
theorem Inv.funs(I:Inv X ag σ H s):s.heap.FunFrames X.base X.outer:=by
 have all:∀(l:List Env),(∀b∈frs l,b∈X.fs)->X.s₀.heap.FunFrames X.base l->s.heap.FunFrames X.base l:=by
  intro l
  induction l with
  |nil=>intro _ _;trivial
  |cons n r ih=>
   intro f j;obtain⟨m,⟨L,o,c,h,g,k⟩,i⟩:=j;have d:L∈X.fs:=f L (by unfold frs;rw[aE,c];exact mS1);obtain⟨p,e⟩:=I.base.slot L o g (I.ok.frf L d) d λz=>I.ok.exfs L z d;exact⟨m,⟨L,_,c,h,e,k⟩,ih (λb a=>f b (by unfold frs;rw[aE,c];exact mC1 _ a)) i⟩
 exact all X.outer (λ_ a=>a) I.ok.funs
theorem Inv.stack(I:Inv X ag σ H s):s.heap.FunFrames X.base X.stack:=by
 rcases I.ok.stk with e|⟨e,a⟩
 ·rw[e];exact I.funs
 ·rw[e];obtain⟨m,b,_⟩:=I.loc;refine .cons (by rw[I.ok.kind];decide) a b ?_ I.funs;exact Heap.get?_none_of_le (aC I.ok.bsz I.ok.above)
theorem Inv.stkSub(I:Inv X ag σ H s):∀b∈frs X.stack,b∈X.env.locals::X.fs:=λb a=>by
 rcases I.ok.stk with e|⟨e,c⟩
 ·rw[e]at a;exact mC1 _ a
 ·rw[e]at a;unfold frs at a;rw[aE,c]at a;exact a
theorem Inv.stkFree(I:Inv X ag σ H s):∀b∈frs X.stack,H b=Y:=λb a=>by
 rcases aF.mp (I.stkSub b a)with e|a
 ·rw[e];exact I.free
 ·obtain⟨_,o,c,_⟩:=I.ok.funs.mem a;exact I.base.free b o c (I.ok.frf b a) λz=>I.ok.exfs b z a
theorem Inv.step{g':Array GenState}{t':Nat}{d':Drawn}{ch:List dF}(I:Inv X ag σ H s)(g:∀b∈ch,(b∈X.ex\/X.s₀.heap.objs.size<=b)/\b≠X.env.locals/\(∀x c,X.env.cells.lookup x=some c->c≠b) /\ ∀p∈X.pn++ag,p.1≠b)(keep:∀b o,b≠X.env.locals->b∉X.fs->b∉ch->s.heap.get? b=some o->H b=none->h'.get? b=some o)(slot:∀b o,b≠X.env.locals->b∈X.fs->b∉ch->s.heap.get? b=some o->H b=none -> ∃am,h'.get? b=some {o with slots:=am})(f:∀b o,b∉ch->s.heap.get? b=some o->H b=none->H' b=none)(A:∀b o,b∉ch->s.heap.get? b=some o -> ∃o',h'.get? b=some o')(C:∀b xs,H b=some (.tup xs)->H' b=some (.tup xs))(E:∀b o u,H b=some (.frz o u)->H' b=some (.frz o u))(F:∀b ps,H b=some (.tbl ps) -> ∃more,H' b=some (.tbl (ps++more)))(ns:∀m,s.heap.Ns X.env.locals m->h'.Ns X.env.locals m)(L:kn X.prog X.w H' h')(hg:AllBare g'):
  Inv X ag σ H' {s with heap:=h',gens:=g',drawn:=d',toks:=t'}:=by
 have G:∀b o,X.s₀.heap.get? b=Z o->b≠X.env.locals:=λb o e=>nN1 (nL1 (hL1 e) I.ok.above);have t:∀b o,X.s₀.heap.get? b=Z o->b∉X.ex->b∉ch:=λb o e a y=>by
  rcases(g b y).1 with z|z
  ·exact a z
  ·exact absurd (nL1 (hL1 e) z) (az _)
 have h:∀x c,X.env.cells.lookup x=Z c -> ∀v,s.heap.IsCell c v->h'.IsCell c v:=λx c e v ⟨o,B,K⟩=>by
  have j:c∉ch:=λz=>(g c z).2.2.1 x c e O;by_cases hc:c∈X.fs
  ·obtain⟨am,q⟩:=slot c o (I.cne x c e) hc j B (I.freeC x c e);exact⟨_,q,K⟩
  ·exact⟨o,keep c o (I.cne x c e) hc j B (I.freeC x c e),K⟩
 refine⟨I.ok,I.os,hg,⟨λb o e n y a=>?_,λb o e n y a=>?_,λb o e n a=>?_,λb o e a=>?_,λb xs e=>C b xs (I.base.tups b xs e),λb o xs e=>E b o xs (I.base.frzs b o xs e),λb ps e=>?_⟩,?_,λx c e=>?_,?_,λx c e=>?_,λp N=>?_,L,I.len⟩
 ·exact keep b o (G b o e) y (t b o e a) (I.base.keep b o e n y a) (I.base.free b o e n a)
 ·obtain⟨am,w⟩:=I.base.slot b o e n y a;obtain⟨ao,D⟩:=slot b _ (G b o e) y (t b o e a) w (I.base.free b o e n a);exact⟨ao,D⟩
 ·obtain⟨o',w⟩:=I.base.there b o e a;exact f b o' (t b o e a) w (I.base.free b o e n a)
 ·obtain⟨o',w⟩:=I.base.there b o e a;exact A b o' (t b o e a) w
 ·obtain⟨m1,w⟩:=I.base.tbls b ps e;obtain⟨m2,D⟩:=F b _ w;exact⟨m1++m2,by rw[D,Array.append_assoc]⟩
 ·obtain⟨m,R,Q⟩:=I.loc;refine⟨m,ns m R,λi x v w D P=>?_⟩;obtain⟨u,r,l⟩:=Q i x v w D P;refine⟨u,r,?_⟩;rcases l with l|⟨k,c,e,z⟩
  ·exact .inl l
  ·exact .inr ⟨k,c,e,h x c e _ z⟩
 ·obtain⟨v,z⟩:=I.cell x c e;exact⟨v,h x c e v z⟩
 ·obtain⟨m,⟨o,_,_,B,_⟩,_⟩:=I.loc;exact f _ o (λz=>(g _ z).2.1 O) B I.free
 ·obtain⟨v,o,B,K⟩:=I.cell x c e;exact f c o (λz=>(g c z).2.2.1 x c e O) B (I.freeC x c e)
 ·obtain⟨e,n,ne,au,d⟩:=I.pin p N;have j:p.1∉ch:=λz=>(g p.1 z).2.2.2 p N O;exact⟨keep p.1 p.2 ne au j e n,f p.1 p.2 j e n,ne,au,d⟩
theorem Inv.un{t':Nat}(I:Inv X ag σ H s)(u:Un X.fs [] H H' s.heap h')(f:kn X.prog X.w H' h'):Inv X ag σ H' {s with heap:=h',toks:=t'}:=by
 obtain⟨m,⟨o,es,ep,h,r⟩,_⟩:=id I.loc;obtain⟨p,j⟩:=u.any h I.free (by simp);exact I.step (g':=s.gens) (d':=s.drawn) (ch:=[]) (λ_ z=>nomatch z) (λb o _ c _ e n=>u.keep b o e n c (by simp)) (λb o _ c _ e n=>u.slot b o e n c (by simp)) (λb o _ e n=>u.free b o e n (by simp)) (λb o _ e=>u.there b o e (by simp)) u.tups u.frzs u.tbls (λl i=>by
  obtain⟨o',g,d,a,k⟩:=i;rw[h]at a;cases a;exact⟨_,g,d,j,k⟩) f I.bare
theorem Inv.call{g':Array GenState}{t':Nat}{d':Drawn}{ch:List dF}(I:Inv X ag σ H s)(u:Un (frs X.stack) ch H H' s.heap h')(g:kn X.prog X.w H' h')(hg:AllBare g')(a:∀b∈ch,(b∈X.ex\/X.s₀.heap.objs.size<=b)/\b≠X.env.locals/\(∀x c,X.env.cells.lookup x=some c->c≠b) /\ ∀p∈X.pn++ag,p.1≠b):
  Inv X ag σ H' {s with heap:=h',gens:=g',drawn:=d',toks:=t'}:=by
 obtain⟨m,⟨o,es,ep,j,r⟩,_⟩:=id I.loc;obtain⟨v,i⟩:=u.any j I.free λz=>(a _ z).2.1 O;exact I.step (ch:=ch) a (λb o i k hc e n=>u.keep b o e n (λz=>(aF.mp (I.stkSub b z)).elim i k) hc) (λb o _ _ hc e n=>u.any e n hc) (λb o hc e n=>u.free b o e n hc) (λb o hc e=>u.there b o e hc) u.tups u.frzs u.tbls (λt l=>by
  obtain⟨o',h,f,d,q⟩:=l;rw[j]at d;cases d;exact⟨_,h,f,i,q⟩) g hg
theorem Inv.turned{t':Nat}{it:dF}(I:Inv X ag σ H s)(k:∀ b o,b≠it->s.heap.get? b=Z o->h'.get? b=Z o)(hn:H it=Y)(d:it≠X.env.locals)(h1:it∈X.ex\/X.s₀.heap.objs.size<=it)(h2:∀x c,X.env.cells.lookup x=Z c->c≠it)(h:∀p∈X.pn++ag,p.1≠it):Inv X ag σ H {s with heap:=h',toks:=t'}:=by
 have a:∀b u,H b=Z u->b≠it:=λb u e z=>by rw[z,hn]at e;cases e
 refine I.step (g':=s.gens) (d':=s.drawn) (ch:=[it]) (λb g=>?_) (λb o _ _ hc e _=>k b o (λz=>hc (by simp[z])) e) (λb o _ _ hc e _=>⟨o.slots,k b o (λz=>hc (by simp[z])) e⟩) (λ_ _ _ _ n=>n)
  (λb o hc e=>⟨o,k b o (λz=>hc (by simp[z])) e⟩) (λ_ _ e=>e) (λ_ _ _ e=>e) (λb ps e=>⟨#[],by rw[e];simp⟩) (λm i=>?_) (λb u e=>?_) I.bare
 ·have e:b=it:=by simpa using g
  subst e;exact⟨h1,d,h2,h⟩
 ·obtain⟨o,es,ep,f,r⟩:=i;exact⟨o,es,ep,k _ o (Ne.symm d) f,r⟩
 ·refine(I.hok b u e).stay (λc v hc q=>k c v ?_ q) (λ_ q=>q) λ_ _ q=>q;rcases hc with z|z
  ·rw[z];exact a b u e
  ·exact a c _ z
theorem Inv.tok(I:Inv X ag σ H s)(t:Nat):Inv X ag σ H {s with toks:=t}:=I.un (h':=s.heap) (t':=t) Un.refl I.hok
theorem Inv.kept{t':Nat}(I:Inv X ag σ H s)(k:∀b u,s.heap.get? b=Z u->h'.get? b=Z u):Inv X ag σ H {s with heap:=h',toks:=t'}:=I.un (Un.kept k) (I.hok.kept k)
theorem Inv.laid{a:dF}{o:HO}{t':Nat}(I:Inv X ag σ H s)(k:∀ b u,s.heap.get? b=some u->h'.get? b=some u)(hp:s.heap.objs.size<=a)(new:eJ X.prog X.w (upd H a o) h' a o):
  Inv X ag σ (upd H a o) {s with heap:=h',toks:=t'}:=I.un (Un.laid k hp (I.hok.fresh hp)) (I.hok.laid k hp new)
theorem Inv.write{x e:dF}{o:HO}{t':Nat}(I:Inv X ag σ H s)(mu:Mut (H x))(he:e=x\/H e=Z (.own x))(k:∀ b u,b≠e->s.heap.get? b=Z u->h'.get? b=Z u)(a:∃ u,h'.get? e=Z u)(new:eJ X.prog X.w (upd H x o) h' x o):Inv X ag σ (upd H x o) {s with heap:=h',toks:=t'}:=I.un (Un.write mu he k a) (I.hok.write mu he k a new)
theorem Inv.pins_of{a:List (dF×Obj)}(I:Inv X ag σ H s)(h:∀p∈a,s.heap.get? p.1=Z p.2/\H p.1=Y/\p.1≠X.env.locals/\p.1∉X.fs /\ ∀v,p.2.data ≠ .cell v):Inv X a σ H s:=
 ⟨I.ok,I.os,I.bare,I.base,I.loc,I.cell,I.free,I.freeC,λp b=>(aG.mp b).elim (λz=>I.pin p (aH _ z)) (h p),I.hok,I.len⟩
theorem s0{N:List Str}(hN:N.Nodup){i j:Nat}{x:Str}(a:N[i]?=Z x)(b:N[j]?=Z x):i=j:=by
 obtain⟨h1,d⟩:=gE1.mp a;obtain⟨h2,c⟩:=gE1.mp b;exact(List.getElem_inj hN).mp (d.trans c.symm)
theorem xB{ao:Model}{A:dH}{E:dD->dE->Prop}{i:Nat}{x:Str}{v:V}{u:dD}{Q:Unit->dE->Prop}(I:Inv X ag σ H s)(hN:X.N.Nodup)(hi:X.N[i]? = Z x)(hx:yO X.env.scope x)(r:d6 v u)(h:∀s',Inv X ag (σ.set i (Z v)) H s'->(∃a,Heap.SameBut a s.heap s'.heap/\(a=X.env.locals\/X.env.cells.lookup x=Z a))->Q () s')(hf:X.fn x=M\/X.env.scope.names.lookup x=Z .local:=by first|exact .inl rfl|exact .inr rfl|assumption):dN ao A (storeName X.env x u) Q E s:=by
 obtain⟨m,wq,hl⟩:=id I.loc;have K:(X.env.scope.kind == .class||(X.env.scope.kind == .module&&X.env.locals != X.env.globals))=J:=by rw[I.ok.kind];rfl
 have B:i<σ.length:=by rw[I.len];exact(gE1.mp hi).1
 have cne:=I.cne;have tracked:∀{a:dF} {h':dQ},(∃o,s.heap.get? a=Z o/\H a=Y)->Heap.SameBut a s.heap h'->kn X.prog X.w H h':=λ{a h'} ha f b ob e=>by
  obtain⟨_,_,l⟩:=ha;refine(I.hok b ob e).stay (λc au hc q=>(f.2 c ?_).trans q) (λ_ q=>q) λ_ _ q=>q;rintro rfl;rcases hc with rfl|hc
  ·rw[l]at e;cases e
  ·rw[l]at hc;cases hc
 rcases hx with w|w
 ·refine wpAny_storeName_local w wq (λh' hn' f=>?_) K;obtain⟨oL,_,_,aq,_⟩:=id wq;refine h _ ⟨I.ok,I.os,I.bare,⟨λb o e n C hx=>?_,λb o e n C hx=>?_,I.base.free,λb o e hx=>?_,I.base.tups,I.base.frzs,I.base.tbls⟩,⟨_,hn',λj y T g t U=>?_⟩,λy c e=>?_,I.free,I.freeC,λp S=>?_,tracked ⟨oL,aq,I.free⟩ f,by simpa using I.len⟩ ⟨_,f,.inl O⟩
  ·exact(f.2 b (nN1 (nL1 (hL1 e) I.ok.above))).trans (I.base.keep b o e n C hx)
  ·obtain⟨W,g⟩:=I.base.slot b o e n C hx;exact⟨W,(f.2 b (nN1 (nL1 (hL1 e) I.ok.above))).trans g⟩
  ·obtain⟨o',g⟩:=I.base.there b o e hx;exact⟨o',(f.2 b (nN1 (nL1 (hL1 e) I.ok.above))).trans g⟩
  ·by_cases F:j=i
   ·subst F;rw[hi]at g;cases g;rw[aI B]at t;cases t;exact⟨u,r,.inl ⟨w,by simp⟩⟩
   ·rw[gS1 (Ne.symm F)]at t;obtain⟨R,r',q⟩:=hl j y T g t U;refine⟨R,r',?_⟩;rcases q with⟨k,e⟩|⟨k,c,e,z⟩
    ·refine .inl ⟨k,?_⟩;have:y≠x:=λe=>F (s0 hN g (e ▸ hi));simp[this,e]
    ·exact .inr ⟨k,c,e,z.sameBut f (cne y c e)⟩
  ·obtain⟨au,z⟩:=I.cell y c e;exact⟨au,z.sameBut f (cne y c e)⟩
  ·obtain⟨e,n,ne,nf,d⟩:=I.pin p S;exact⟨(f.2 p.1 ne).trans e,n,ne,nf,d⟩
 ·have D:X.fn x=true:=by
   rcases hf with z|z
   ·exact z
   ·rw[z]at w;cases w
  obtain⟨c,hc⟩:=I.ok.has x (.inl w);obtain⟨au,z⟩:=I.cell x c hc;refine wpAny_storeName_cell I.ok.kind w hc z (λh' G f=>?_);obtain⟨oc,L,N⟩:=id z;refine h {s with heap:=h'} ⟨I.ok,I.os,I.bare,⟨λb o e n C hx=>?_,λb o e n C hx=>?_,I.base.free,λb o e hx=>?_,I.base.tups,I.base.frzs,I.base.tbls⟩,⟨m,wq.sameBut f (Ne.symm (cne x c hc)),λj y T g t U=>?_⟩,λy P e=>?_,I.free,I.freeC,λp S=>?_,tracked ⟨oc,L,I.freeC x c hc⟩ f,by simpa using I.len⟩ ⟨c,f,.inr hc⟩
  ·exact(f.2 b (nN1 (nL1 (hL1 e) (I.ok.cab x c D hc)))).trans (I.base.keep b o e n C hx)
  ·obtain⟨W,g⟩:=I.base.slot b o e n C hx;exact⟨W,(f.2 b (nN1 (nL1 (hL1 e) (I.ok.cab x c D hc)))).trans g⟩
  ·obtain⟨o',g⟩:=I.base.there b o e hx;exact⟨o',(f.2 b (nN1 (nL1 (hL1 e) (I.ok.cab x c D hc)))).trans g⟩
  ·by_cases F:j=i
   ·subst F;rw[hi]at g;cases g;rw[aI B]at t;cases t;exact⟨u,r,.inr ⟨.inl w,c,hc,G⟩⟩
   ·rw[gS1 (Ne.symm F)]at t;obtain⟨R,r',q⟩:=hl j y T g t U;refine⟨R,r',?_⟩;rcases q with q|⟨k,P,e,z'⟩
    ·exact .inl q
    ·refine .inr ⟨k,P,e,z'.sameBut f ?_⟩;rintro rfl;exact F (s0 hN g (I.ok.inj _ _ _ e hc ▸ hi))
  ·by_cases am:P=c
   ·subst am;exact⟨_,G⟩
   ·obtain⟨w2,z2⟩:=I.cell y P e;exact⟨w2,z2.sameBut f am⟩
  ·obtain⟨e,n,ne,nf,d⟩:=I.pin p S;refine⟨(f.2 p.1 ?_).trans e,n,ne,nf,d⟩;intro q;rw[q,L]at e;have q':oc=p.2:=Option.some.inj e;exact d au (by rw[<- q'];exact N)
theorem kC{ao:Model}{A:dH}{E:dD->dE->Prop}{i:Nat}{x:Str}{v:V}{u:dD}{Q:Unit->dE->Prop}(I:Inv X ag σ H s)(hN:X.N.Nodup)(hi:X.N[i]? = Z x)(hx:yO X.env.scope x)(r:d6 v u)(h:∀s',Inv X ag (σ.set i (Z v)) H s'->Q () s')(hf:X.fn x=M\/X.env.scope.names.lookup x=Z .local:=by first|exact .inl rfl|exact .inr rfl|assumption):dN ao A (storeName X.env x u) Q E s:=
 xB I hN hi hx r (λs' a _=>h s' a) hf
theorem Inv.call'{s':dE}{ch:List dF}(I:Inv X ag σ H s)(ho:s'.os=s.os)(u:Un (frs X.stack) ch H H' s.heap s'.heap)(d:kn X.prog X.w H' s'.heap)(hg:AllBare s'.gens)(a:∀b∈ch,(b∈X.ex\/X.s₀.heap.objs.size<=b)/\b≠X.env.locals/\(∀x c,X.env.cells.lookup x=Z c->c≠b) /\ ∀p∈X.pn++ag,p.1≠b):Inv X ag σ H' s':=by
 obtain⟨h',f,h,g,o'⟩:=s';have e:o'=s.os:=ho;subst e;exact I.call (g':=f) (t':=g) (d':=h) u d hg a
end
abbrev XK:=dD->Option dF->Hp->Prop
abbrev St:=List (Option V)
abbrev VK:=V->Hp->Prop
abbrev TE:=St->Hp->VK->Prop
abbrev TT:=St->Hp->(Bool->Hp->Prop)->Prop
abbrev TA:=St->Hp->(List V->Hp->Prop)->Prop
structure i4 where
 nx:St->Hp->Prop
 rt:VK
 bk:St->Hp->Prop:=λ_ _=>False
 ct:St->Hp->Prop:=λ_ _=>False
abbrev TS:=i4->St->Hp->Prop
def EP(X:Cx)(ag:List (dF×Obj))(σ:St)(Q:VK)(u:dD)(s':dE):Prop:=∃v H',Inv X ag σ H' s'/\d6 v u/\Q v H'
def TP(X:Cx)(ag:List (dF×Obj))(σ:St)(Q:Bool->Hp->Prop)(b:Bool)(s':dE):Prop:=∃H',Inv X ag σ H' s'/\Q b H'
def AP(X:Cx)(ag:List (dF×Obj))(σ:St)(Q:List V->Hp->Prop)(us:List dD)(s':dE):Prop:=∃vs H',Inv X ag σ H' s'/\ei vs us/\Q vs H'
def SP(X:Cx)(ag:List (dF×Obj))(D:i4)(f:Flow)(s':dE):Prop:=
 match f with
 | .next=>∃ σ' H',Inv X ag σ' H' s'/\D.nx σ' H'
 | .brk=>∃ σ' H',Inv X ag σ' H' s'/\D.bk σ' H'
 | .cont=>∃ σ' H',Inv X ag σ' H' s'/\D.ct σ' H'
 | .ret u=>∃v σ' H',Inv X ag σ' H' s'/\d6 v u/\D.rt v H'
def PE(X:Cx)(e:Expr)(t:TE):Prop:=
 ∀(ag:List (dF×Obj)) (s:dE) (σ:St) (H:Hp) (Q:VK),Inv X ag σ H s->t σ H Q->dN (model X.prog X.w) X.A (eval e X.env) (EP X ag σ Q) X.xe s
def PT(X:Cx)(e:Expr)(t:TT):Prop:=
 ∀(ag:List (dF×Obj)) (s:dE) (σ:St) (H:Hp) (Q:Bool->Hp->Prop),Inv X ag σ H s->t σ H Q->dN (model X.prog X.w) X.A (isTrue e X.env (eval e X.env)) (TP X ag σ Q) X.xe s
def PW(X:Cx)(e:Expr)(t:TT):Prop:=
 ∀(whole:Sem dD) (ag:List (dF×Obj)) (s:dE) (σ:St) (H:Hp) (Q:Bool->Hp->Prop),Inv X ag σ H s->t σ H Q->dN (model X.prog X.w) X.A (isTrue e X.env whole) (TP X ag σ Q) X.xe s
theorem PW.pt{X:Cx}{e:Expr}{t:TT}(h:PW X e t):PT X e t:=h _
def PA(X:Cx)(es:List Expr)(t:TA):Prop:=
 ∀(pos:Pos) (ag:List (dF×Obj)) (s:dE) (σ:St) (H:Hp) (Q:List V->Hp->Prop),Inv X ag σ H s->t σ H Q->dN (model X.prog X.w) X.A (spliced (backTo pos (dL es X.env))) (AP X ag σ Q) X.xe s
def PS(X:Cx)(st:dS)(t:TS):Prop:=
 ∀(ag:List (dF×Obj)) (s:dE) (σ:St) (H:Hp) (D:i4),Inv X ag σ H s->t D σ H->dN (model X.prog X.w) X.A (exec st X.env) (SP X ag D) X.xe s
def uu(X:Cx)(st:List dS)(t:TS):Prop:=
 ∀(ag:List (dF×Obj)) (s:dE) (σ:St) (H:Hp) (D:i4),Inv X ag σ H s->t D σ H->dN (model X.prog X.w) X.A (execs st X.env) (SP X ag D) X.xe s
theorem fj{α:Type}{t:Sem α}{Q b:α->dE->Prop}{ao:Model}{A:dH}{E:dD->dE->Prop}{s:dE}(h:dN ao A t Q E s)(c:∀a s,Q a s->b a s):dN ao A t b E s:=wpAny_mono h c λ_ _ x=>x
end L2
namespace L2
open PySem PySem.Spec PyProof.Rows
section
variable{X:Cx}
theorem LQ{a b:Expr}{ta tb:TE}(ha:PE X a ta)(hb:PE X b tb){ag:List (dF×Obj)}{s:dE}{σ:St}{H:Hp}{R:V->V->Hp->Prop}(I:Inv X ag σ H s)(h:ta σ H fun x H1=>tb σ H1 fun y H2=>R x y H2){α:Type}{Q:α->dE->Prop}{f:dD->dD->Sem α}(hf:∀v u e x y H2,Inv X ag σ H2 e->d6 x v->d6 y u->R x y H2->dN (model X.prog X.w) X.A (f v u) Q X.xe e):
  dN (model X.prog X.w) X.A (eval a X.env) (λv d=>dN (model X.prog X.w) X.A (eval b X.env) (λu c=>dN (model X.prog X.w) X.A (f v u) Q X.xe c) X.xe d) X.xe s:=by
 refine fj (ha ag s σ H _ I h) λv m ⟨x,H1,i,g,j⟩=>?_;refine fj (hb ag m σ H1 _ i j) λu e ⟨y,H2,k,r2,l⟩=>?_;exact hf v u e x y H2 k g r2 l
noncomputable def HD(i:Nat):TE:=fun σ H Q=>∃v,σ[i]?=Z (Z v)/\Q v H
noncomputable def tC(v:V):TE:=λ_ H Q=>Q v H
theorem zQ {i:Nat}{x:Str}{pos:Pos}(hN:X.N[i]?=Z x)(hv:He X.env.scope x)(hd:(x == ("__debug__":Str))=J:=by decide)(hcd:(x == ("__classdict__":Str))=J:=by decide):PE X (.Name x pos) (HD i):=by
 intro ag s σ H Q I h;obtain⟨v,e,h⟩:=h;obtain⟨m,f,j⟩:=I.loc;obtain⟨u,r,l⟩:=j i x v hN e hv;have b:EP X ag σ Q u s:=⟨v,H,I,r,h⟩;rcases l with⟨d,g⟩|⟨d,c,hc,a⟩
 ·exact wpAny_Name (wpAny_loadName_local I.ok.kind d f g b) hd
 ·rcases d with d|d
  ·exact wpAny_Name (wpAny_loadName_cell I.ok.kind d hc a b) hd
  ·exact wpAny_Name (wpAny_loadName_free I.ok.kind d hc a b hcd) hd
theorem FC{i j pos}:PE X (.Constant (.int i) j pos) (tC (.int i)):=λ_ _ _ H _ I h=>wpAny_Constant_int ⟨.int i,H,I.tok _,⟨_,O⟩,h⟩
theorem Ih{b j pos}:PE X (.Constant (.bool b) j pos) (tC (.bl b)):=λ_ _ _ H _ I h=>Constant_bool ⟨.bl b,H,I,O,h⟩
theorem Fz{j pos}:PE X (.Constant .none j pos) (tC .non):=λ_ _ _ H _ I h=>Constant_none ⟨.non,H,I,O,h⟩
theorem Fv{x j pos}:PE X (.Constant (.str x) j pos) (tC (.str x)):=λ_ _ _ H _ I h=>Calls.Constant_str ⟨.str x,H,I.tok _,⟨_,O⟩,h⟩
def Gl(X:Cx)(x:Str):Prop:=X.env.kindOf x=Z .globalImplicit
theorem wD {E:dD->dE->Prop}{ag:List (dF×Obj)}{s:dE}{σ:St}{H:Hp}{x:Str}{u:dD}{pos:Pos}{Q:dD->dE->Prop}(I:Inv X ag σ H s)(hg:Gl X x)(hm:X.mg x=some u)(h:Q u s)
  (hd:(x == ("__debug__":Str))=J:=by decide):dN (model X.prog X.w) X.A (eval (.Name x pos) X.env) Q E s:=
 Calls.Name_function_global I.ok.kind hg (Calls.loadGlobal_global (by rw[I.ok.glob];exact I.mod.glob.keeps I.bk) hm h) hd
theorem kd {E:dD->dE->Prop}{ag:List (dF×Obj)}{s:dE}{σ:St}{H:Hp}{x:Str}{u:dD}{pos:Pos}{Q:dD->dE->Prop}(I:Inv X ag σ H s)(hg:Gl X x)(hm:X.mg x=none)(hv:bootBuiltins x=some u)(h:Q u s)
  (hn:x≠"__name__":=by decide) (hd:(x == ("__debug__":Str))=J:=by decide):dN (model X.prog X.w) X.A (eval (.Name x pos) X.env) Q E s:=by
 obtain⟨a,h1,h2⟩:=I.mod.blt;exact Calls.Name_function_global I.ok.kind hg (Calls.loadGlobal_builtin (by rw[I.ok.glob];exact I.mod.glob.keeps I.bk) hm (by rw[I.ok.blt];exact h1.keeps I.bk) ((h2 x hn).trans hv) h) hd
theorem CC {x:Str}{v:V}{u:dD}{pos:Pos}(hg:Gl X x)(hm:X.mg x=Z u)(r:d6 v u)(hd:(x == ("__debug__":Str))=J:=by decide):PE X (.Name x pos) (tC v):=
 λ_ _ _ H _ I h=>wD I hg hm ⟨v,H,I,r,h⟩ hd
theorem CH {x:Str}{v:V}{u:dD}{pos:Pos}(hg:Gl X x)(hm:X.mg x=Y)(hv:bootBuiltins x=Z u)(r:d6 v u)(hn:x≠"__name__":=by decide)(hd:(x == ("__debug__":Str))=J:=by decide):PE X (.Name x pos) (tC v):=
 λ_ _ _ H _ I h=>kd I hg hm hv ⟨v,H,I,r,h⟩ hn hd
variable{a b:Expr}{ta tb:TE}{pos:Pos}
noncomputable def tB(t:TE):TT:=fun σ H Q=>t σ H λx H1=>∃c,x = .bl c/\Q c H1
variable{tA tB':TT}{rest:List Expr}
noncomputable def JZ(t u:TT):TT:=fun σ H Q=>t σ H λc H1=>if c=M then u σ H1 Q else Q J H1
noncomputable def K8(t u:TT):TT:=fun σ H Q=>t σ H λc H1=>if c=M then Q M H1 else u σ H1 Q
noncomputable def JS(t:TT):TT:=fun σ H Q=>t σ H λc H1=>Q (!c) H1
theorem Cn(ha:PT X a tA):PW X (.BoolOp .And [a] pos) tA:=by
 intro b ag s σ H Q I h;refine isTrue_and (fj (ha ag s σ H Q I h) λc d e=>?_);cases c with
 |true=>exact isTrue_and_nil e
 |false=>exact e
theorem Fc(ha:PT X a tA):PW X (.BoolOp .Or [a] pos) tA:=by
 intro b ag s σ H Q I h;refine isTrue_or (fj (ha ag s σ H Q I h) λc d e=>?_);cases c with
 |false=>exact isTrue_or_nil e
 |true=>exact e
theorem Fd(ha:PT X a tA)(hb:PW X (.BoolOp .And (b::rest) pos) tB'):PW X (.BoolOp .And (a::b::rest) pos) (JZ tA tB'):=by
 intro f ag s σ H Q I h;refine isTrue_and (fj (ha ag s σ H _ I h) λc g ⟨H1,d,e⟩=>?_);cases c with
 |true=>exact hb f ag g σ H1 Q d e
 |false=>exact⟨H1,d,e⟩
theorem H7(ha:PT X a tA)(hb:PW X (.BoolOp .Or (b::rest) pos) tB'):PW X (.BoolOp .Or (a::b::rest) pos) (K8 tA tB'):=by
 intro f ag s σ H Q I h;refine isTrue_or (fj (ha ag s σ H _ I h) λc g ⟨H1,d,e⟩=>?_);cases c with
 |true=>exact⟨H1,d,e⟩
 |false=>exact hb f ag g σ H1 Q d e
theorem Ff(ha:PT X a tA):PT X (.UnaryOp .Not a pos) (JS tA):=by
 intro ag s σ H Q I h;exact isTrue_not (ha ag s σ H (λc H1=>Q (!c) H1) I h)
noncomputable def HR(ta tb:TE):TE:=fun σ H Q=>ta σ H λx H1=>∃c,x = .bl c/\if c=M then tb σ H1 Q else Q (.bl J) H1
noncomputable def HI(ta:TE):TE:=fun σ H Q=>ta σ H λx H1=>∃c,x = .bl c/\Q (.bl (!c)) H1
theorem Fx{op}{t:TE}(h:PE X a t):PE X (.BoolOp op [a] pos) t:=λag s σ H Q I b=>BoolOp_one (h ag s σ H Q I b)
theorem FH(ha:PE X a ta)(hb:PE X (.BoolOp .And (b::rest) pos) tb):PE X (.BoolOp .And (a::b::rest) pos) (HR ta tb):=by
 intro ag s σ H Q I h;refine BoolOp_and (fj (ha ag s σ H _ I h) λv f ⟨x,H1,e,g,d⟩=>?_);obtain⟨c,rfl,d⟩:=d;cases g;refine wpAny_truthy_bool ?_;cases c with
 |true=>exact hb ag f σ H1 Q e d
 |false=>exact⟨.bl J,H1,e,O,d⟩
theorem Fy(ha:PE X a ta):PE X (.UnaryOp .Not a pos) (HI ta):=by
 intro ag s σ H Q I h;refine UnaryOp_ (fj (ha ag s σ H _ I h) λv f ⟨x,H1,e,d,b⟩=>?_);obtain⟨c,rfl,b⟩:=b;cases d;exact not_of (wpAny_truthy_bool ⟨.bl (!c),H1,e,O,b⟩)
noncomputable def La(t:TT)(ta tb:TE):TE:=fun σ H Q=>t σ H λc H1=>if c=M then ta σ H1 Q else tb σ H1 Q
theorem zS{c:Expr}(hc:PT X c tA)(ha:PE X a ta)(hb:PE X b tb):PE X (.IfExp c a b pos) (La tA ta tb):=by
 intro ag s σ H Q I h;refine wpAny_IfExp (fj (hc ag s σ H _ I h) λd e ⟨H1,f,g⟩=>?_);cases d with
 |true=>exact ha ag e σ H1 Q f g
 |false=>exact hb ag e σ H1 Q f g
end
end L2
namespace L2
open PySem PySem.Spec PyProof.Rows
def mX(K:Fg1)(H:Hp)(a:dF)(xs:List V):Prop:=
 Rd H a (.lst xs) \/
  ∃(o:Obj) (its:Array dD) (n:Nat),K.lookup a=Z o/\o.cls = .type "list"/\o.dict=Y/\o.data = .seq its n/\its.size<=dM/\ei xs its.toList
def j6(K:Fg1)(H:Hp)(a:dF)(xs:List V):Prop:=
 Rd H a (.tup xs) \/
  ∃(o:Obj) (its:Array dD) (n:Nat),K.lookup a=Z o/\o.cls = .type "tuple"/\o.data = .seq its n/\its.size<=dM/\ei xs its.toList
noncomputable def Kz:dD->Option V
 | .none=>Z .non
 | .bool b=>Z (.bl b)
 | .int i _=>Z (.int i)
 | .str x _=>Z (.str x)
 | .bytes b _=>Z (.byt b)
 | .float b _=>Z (.flt b)
 | .ref a=>Z (.ref a)
 | .type n=>Z (.ty n)
 |_=>Y
theorem d6.abs{x:V}{u:dD}(r:d6 x u):Kz u=Z x:=by
 cases x with
 |non=>cases r;rfl
 |bl _=>cases r;rfl
 |int _=>obtain⟨t,rfl⟩:=r;rfl
 |str _=>obtain⟨t,rfl⟩:=r;rfl
 |byt _=>obtain⟨t,rfl⟩:=r;rfl
 |flt _=>obtain⟨t,rfl⟩:=r;rfl
 |ref _=>cases r;rfl
 |ty _=>cases r;rfl
theorem d6.inj{x y:V}{u:dD}(r:d6 x u)(q:d6 y u):x=y:=Option.some.inj (r.abs.symm.trans q.abs)
theorem ei.inj:∀{xs ys:List V} {a:List dD},ei xs a->ei ys a->xs=ys:=by
 intro xs ys a h g
 induction h generalizing ys with
 |nil=>cases g;rfl
 |cons r t ih=>cases g with
  |cons c b=>rw[r.inj c,ih b]
section
variable{X:Cx}{ag:List (dF×Obj)}{σ:St}{H:Hp}{s:dE}{a:dF}{xs ys:List V}
theorem mX.of{K:Fg1}(h:H a=Z (.lst xs)):mX K H a xs:=.inl (.inl h)
theorem j6.of{K:Fg1}(h:H a=Z (.tup xs)):j6 K H a xs:=.inl (.inl h)
theorem Inv.list(I:Inv X ag σ H s)(h:mX X.K H a xs):∃b:List dD,ei xs b/\PlainL s.heap a b.toArray/\xs.length<=dM:=by
 rcases h with h|⟨o,b,n,f,hc,d,c,g,r⟩
 ·obtain⟨z,b,n,r,e⟩:=h.ok I.hok;exact⟨b,r,⟨_,n,e,O,O,O⟩,z⟩
 ·refine⟨b.toList,r,⟨o,n,I.kIn a o f,hc,d,by simpa using c⟩,?_⟩;have e:=r.length;simp only[aJ]at e;lia
theorem Inv.tuple(I:Inv X ag σ H s)(h:j6 X.K H a xs):∃b:List dD,ei xs b/\IsTup s.heap a b.toArray/\xs.length<=dM:=by
 rcases h with h|⟨o,b,n,c,hc,d,f,r⟩
 ·obtain⟨z,b,r,p⟩:=h.ok I.hok;exact⟨b,r,p,z⟩
 ·refine⟨b.toList,r,⟨o,I.kIn a o c,hc,n,by simpa using d⟩,?_⟩;have e:=r.length;simp only[aJ]at e;lia
theorem Inv.list_inj(I:Inv X ag σ H s)(h:mX X.K H a xs)(h':mX X.K H a ys):xs=ys:=by
 obtain⟨b,r,⟨o,n,e,_,_,d⟩,_⟩:=I.list h;obtain⟨its',g,⟨o',j,c,_,_,f⟩,_⟩:=I.list h';rw[e]at c;cases c;rw[d]at f;injection f with i _;have:b=its':=by simpa using congrArg Array.toList i
 subst this;exact r.inj g
theorem Inv.tuple_inj(I:Inv X ag σ H s)(h:j6 X.K H a xs)(h':j6 X.K H a ys):xs=ys:=by
 obtain⟨b,r,⟨o,e,_,n,d⟩,_⟩:=I.tuple h;obtain⟨its',g,⟨o',c,_,j,f⟩,_⟩:=I.tuple h';rw[e]at c;cases c;rw[d]at f;injection f with i _;have:b=its':=by simpa using congrArg Array.toList i
 subst this;exact r.inj g
end
abbrev Cx.wish(X:Cx)(E:dD->dE->Prop):Cx:={X with xe:=E}
abbrev Cx.nox(X:Cx):Cx:=X.wish λ_ _=>False
theorem Cx.Ok.wish{X:Cx}(ok:X.Ok)(E:dD->dE->Prop):(X.wish E).Ok:=
 ⟨ok.mod,ok.kind,ok.glob,ok.blt,ok.above,ok.inj,ok.has,ok.cab,ok.hd,ok.frames,ok.stk,ok.exf,ok.bs,ok.bsz,ok.noex,ok.exfs,ok.funs,ok.frf⟩
theorem Cx.Ok.unwish{X:Cx}{E:dD->dE->Prop}(ok:(X.wish E).Ok):X.Ok:=
 ⟨ok.mod,ok.kind,ok.glob,ok.blt,ok.above,ok.inj,ok.has,ok.cab,ok.hd,ok.frames,ok.stk,ok.exf,ok.bs,ok.bsz,ok.noex,ok.exfs,ok.funs,ok.frf⟩
section
variable{X:Cx}{ag:List (dF×Obj)}{σ:St}{H:Hp}{s:dE}{E:dD->dE->Prop}
theorem Inv.wish(I:Inv X ag σ H s)(E:dD->dE->Prop):Inv (X.wish E) ag σ H s:=⟨I.ok.wish E,I.os,I.bare,I.base,I.loc,I.cell,I.free,I.freeC,I.pin,I.hok,I.len⟩
theorem Inv.unwish(I:Inv (X.wish E) ag σ H s):Inv X ag σ H s:=⟨I.ok.unwish,I.os,I.bare,I.base,I.loc,I.cell,I.free,I.freeC,I.pin,I.hok,I.len⟩
theorem SP.unwish{D:i4}{f:Flow}{s':dE}(h:SP (X.wish E) ag D f s'):SP X ag D f s':=by
 cases f with
 |next=>obtain⟨a,H',I,q⟩:=h;exact⟨a,H',I.unwish,q⟩
 |brk=>obtain⟨a,H',I,q⟩:=h;exact⟨a,H',I.unwish,q⟩
 |cont=>obtain⟨a,H',I,q⟩:=h;exact⟨a,H',I.unwish,q⟩
 |ret u=>obtain⟨v,a,H',I,r,q⟩:=h;exact⟨v,a,H',I.unwish,r,q⟩
theorem uu.nox{st:List dS}{t:TS}(h:uu X.nox st t):uu X st t:=λag s σ H D I a=>
 wpAny_mono (h ag s σ H D (I.wish _) a) (λ_ _ q=>q.unwish) λ_ _ z=>False.elim z
end
section
variable{X:Cx}{st:dS}{rest:List dS}{t u:TS}{e:Expr}{te:TE}{pos:Pos}
noncomputable def HJ:TS:=λD σ H=>D.nx σ H
noncomputable def JP(t u:TS):TS:=λD σ H=>t {D with nx:=u D} σ H
theorem Cs:uu X [] HJ:=λ_ _ σ H _ I h=>wpAny_execs_nil ⟨σ,H,I,h⟩
theorem zF(h1:PS X st t)(h2:uu X rest u):uu X (st::rest) (JP t u):=by
 intro ag s σ H D I h;refine wpAny_execs_cons (fj (h1 ag s σ H {D with nx:=u D} I h) λf b q=>?_);cases f with
 |next=>
  obtain⟨a,H',c,q⟩:=q;exact h2 ag b a H' D c q
 |ret v=>exact q
 |brk=>exact q
 |cont=>exact q
theorem Cr(h1:PS X st t):uu X [st] t:=by
 intro ag s σ H D I h;refine wpAny_execs_cons (fj (h1 ag s σ H D I h) λf a q=>?_);cases f with
 |next=>exact wpAny_execs_nil q
 |ret v=>exact q
 |brk=>exact q
 |cont=>exact q
theorem Inv.quiet{ag:List (dF×Obj)}{σ:St}{H:Hp}{s:dE}(I:Inv X ag σ H s):interactive X.env=J:=by simp[interactive,I.ok.kind]
noncomputable def HM(te:TE):TS:=λD σ H=>te σ H λ_ H1=>D.nx σ H1
theorem Ct(he:PE X e te)(hs:swapsWith e Y pos.line X.env=pure J:=by rfl):PS X (.Expr e pos) (HM te):=by
 intro ag s σ H D I h;exact wpAny_Expr_any (fj (he ag s σ H _ I h) λv c ⟨x,H1,a,d,b⟩=>⟨σ,H1,a,b⟩) I.quiet hs
noncomputable def JQ(te:TE):TS:=λD σ H=>te σ H D.rt
theorem Fi(he:PE X e te):PS X (.Return (Z e) pos) (JQ te):=by
 intro ag s σ H D I h;exact wpAny_Return_some (fj (he ag s σ H _ I h) λv d ⟨x,H1,b,a,c⟩=>⟨x,σ,H1,b,a,c⟩)
noncomputable def JX(c:TT)(t u:TS):TS:=λD σ H=>c σ H λb H1=>if b=M then t D σ H1 else u D σ H1
theorem Ia{c:Expr}{a b:List dS}{tc:TT}(hc:PT X c tc)(ha:uu X a t)(hb:uu X b u):PS X (.If c a b pos) (JX tc t u):=by
 intro ag s σ H D I h;refine wpAny_If (fj (hc ag s σ H _ I h) λd e ⟨H1,f,g⟩=>?_);cases d with
 |true=>exact ha ag e σ H1 D f g
 |false=>exact hb ag e σ H1 D f g
end
abbrev TG:=V->St->Hp->(St->Hp->Prop)->Prop
abbrev Et:=List V->St->Hp->(St->Hp->Prop)->Prop
def PG(X:Cx)(target:Expr)(t:TG):Prop:=
 ∀(ag:List (dF×Obj)) (s:dE) (σ:St) (H:Hp) (v:V) (u:dD) (Q:St->Hp->Prop),Inv X ag σ H s->d6 v u->t v σ H Q ->
  dN (model X.prog X.w) X.A (assign target X.env u) (λ_ s'=>∃ σ' H',Inv X ag σ' H' s'/\Q σ' H') X.xe s
def Hi(X:Cx)(ts:List Expr)(t:Et):Prop:=
 ∀(ag:List (dF×Obj)) (s:dE) (σ:St) (H:Hp) (vs:List V) (us:List dD) (Q:St->Hp->Prop),Inv X ag σ H s->ei vs us->t vs σ H Q ->
  dN (model X.prog X.w) X.A (assignInOrder ((assignEach ts X.env).map (·.2)) us) (λ_ s'=>∃ σ' H',Inv X ag σ' H' s'/\Q σ' H') X.xe s
abbrev Hf:=V->V->V->Hp->(Hp->Prop)->Prop
def vL(X:Cx)(t:Hf):Prop:=
 ∀(ag:List (dF×Obj)) (s:dE) (σ:St) (H:Hp) (o i v:V) (ov iv u:dD) (Q:Hp->Prop),Inv X ag σ H s->d6 o ov->d6 i iv->d6 v u->t o i v H Q ->
  dN (model X.prog X.w) X.A (setItem ov iv u) (λ_ s'=>∃H',Inv X ag σ H' s'/\Q H') X.xe s
section
variable{X:Cx}{pos:Pos}
noncomputable def wS(i:Nat):TG:=λv σ H Q=>Q (σ.set i (Z v)) H
theorem we{i:Nat}{x:Str}(hN:X.N.Nodup)(hi:X.N[i]?=Z x)(hx:yO X.env.scope x)(hf:X.fn x=M\/X.env.scope.names.lookup x=Z .local:=by first|exact .inl rfl|exact .inr rfl|assumption):PG X (.Name x pos) (wS i):=by
 intro ag s σ H v u Q I r h;exact wpAny_assign_Name (kC I hN hi hx r (λs' a=>⟨_,H,a,h⟩) hf)
noncomputable def Ks:Et:=λvs σ H Q=>vs=[]/\Q σ H
noncomputable def IS(t:TG)(u:Et):Et:=λvs σ H Q=>∃v r,vs=v::r/\t v σ H fun σ' H'=>u r σ' H' Q
theorem CB:Hi X [] Ks:=by
 intro ag s σ H vs a Q I r h;obtain⟨e,h⟩:=h;subst e;cases r;exact assignInOrder_nil ⟨σ,H,I,h⟩
theorem zP{e:Expr}{es:List Expr}{t:TG}{u:Et}(h1:PG X e t)(h2:Hi X es u)(hs:(assignEach (e::es) X.env).map (·.2)=assign e X.env::(assignEach es X.env).map (·.2):=by rfl):Hi X (e::es) (IS t u):=by
 intro ag s σ H vs i Q I r h;obtain⟨v,j,b,h⟩:=h;subst b;cases r with
 |cons r f=>
  rw[hs];refine assignInOrder_cons (fj (h1 ag s σ H _ _ _ I r h) λ_ g ⟨a,H1,c,d⟩=>?_);exact h2 ag g a H1 _ _ Q c f d
noncomputable def gTup(K:Fg1)(n:Nat)(t:Et):TG:=λv σ H Q=>∃a xs,v = .ref a/\j6 K H a xs/\xs.length=n/\t xs σ H Q
theorem Fs{es:List Expr}{k:Nat}{t:Et}{n:Nat}(hc:X.calm=M)(h:Hi X es t)(hn:(assignEach es X.env).length=n:=by rfl)(hst:(assignEach es X.env).findIdx? (·.1)=Y:=by rfl):PG X (.Tuple es k pos) (gTup X.K n t):=by
 intro ag s σ H v u Q I r c;obtain⟨a,xs,f,i,m,c⟩:=c;subst f;cases r;obtain⟨g,d,j,q⟩:=I.tuple i;refine assign_Tuple_tuple (I.ok.hd hc) j (by simp[hn,<- m,d.length]) hst λh' p=>?_;have l:Inv X ag σ H {s with heap:=h'}:=I.kept (t':=s.toks) λb o e=>p b o (nN1 (hL1 e)) e;exact h ag _ σ H xs _ Q l (by simpa using d) c
noncomputable def gSub(to ti:TE)(t:Hf):TG:=λv σ H Q=>to σ H λo H1=>ti σ H1 λi H2=>t o i v H2 λH3=>Q σ H3
theorem Ft{o i:Expr}{to ti:TE}{t:Hf}(ho:PE X o to)(hi:PE X i ti)(hs:vL X t)(ha:∀v,assign (.Subscript o i pos) X.env v=(do
   let a<-holding [v] (eval o X.env)
   let b<-holding [v,a] (eval i X.env)
   standAt pos
   holding [v,a,b] (setItem a b v)
   release [v,a,b] []):=by intro _;rfl):PG X (.Subscript o i pos) (gSub to ti t):=by
 intro ag s σ H v u Q I r h;rw[ha];refine wB1 (wpAny_holding (fj (ho ag s σ H _ I h) λa m ⟨x,H1,e,c,g⟩=>?_));refine wB1 (wpAny_holding (fj (hi ag m σ H1 _ e g) λb l ⟨y,H2,j,r2,k⟩=>?_));refine wB1 (wpAny_standAt (wB1 (wpAny_holding (fj (hs ag l σ H2 x y v a b u _ j c r2 r k) λ_ p ⟨f,d,n⟩=>?_))));exact wpAny_release ⟨σ,f,d,n⟩
noncomputable def zn(te:TE)(g:TG):TS:=λD σ H=>te σ H λx H1=>g x σ H1 D.nx
theorem Fm{tg e:Expr}{te:TE}{g:TG}(he:PE X e te)(hg:PG X tg g)(hs:swapsWithSole [tg] e pos.line X.env=pure J:=by rfl)(hw:swappedStores [tg] e X.env=pure Y:=by rfl)(h1:(assignEach [tg] X.env).map (·.2)=[assign tg X.env]:=by rfl):PS X (.Assign [tg] e pos) (zn te g):=by
 intro ag s σ H D I h;refine wpAny_Assign_stores (fj (he ag s σ H _ I h) λv d ⟨x,H1,b,a,c⟩=>?_) hs hw;rw[h1];exact fj (hg ag d σ H1 x v _ b a c) λ_ f q=>q
theorem Fh{i:Nat}{x:Str}{e:Expr}{te:TE}{pos':Pos}(hN:X.N.Nodup)(hi:X.N[i]? = some x)(hx:yO X.env.scope x)(he:PE X e te)(hs:swapsWith e (some (.Name x pos')) pos.line X.env=pure false:=by rfl)(hf:X.fn x=true\/X.env.scope.names.lookup x=some .local:=by first | exact .inl rfl | exact .inr rfl | assumption):
  PS X (.Assign [.Name x pos'] e pos) (zn te (wS i)):=by
 intro ag s σ H D I h;refine wpAny_Assign_Name (fj (he ag s σ H _ I h) λv g ⟨y,H1,b,a,c⟩=>?_) hs;exact kC b hN hi hx a (λf d=>⟨_,H1,d,c⟩) hf
noncomputable def JR(i j:Nat)(ta:TA):TS:=λD σ H=>ta σ H λvs H1=>∃v w,vs=[v,w]/\D.nx ((σ.set i (Z v)).set j (Z w)) H1
theorem Fj{i j:Nat}{x y:Str}{a b:Expr}{ta:TA}{g l pt:Pos}{kt k2 pt2}(hc:X.calm=true)(hN:X.N.Nodup)(hi:X.N[i]? = some x)(am:X.N[j]? = some y)(f:i≠j)(hx:X.env.scope.names.lookup x=some .local)(hy:X.env.scope.names.lookup y=some .local)(ha:PA X [a,b] ta)(hw:swappedStores [.Tuple [.Name x g,.Name y l] kt pt] (.Tuple [a,b] k2 pt2) X.env=pure (some [x,y]))(hs:swapsWithSole [.Tuple [.Name x g,.Name y l] kt pt] (.Tuple [a,b] k2 pt2) pos.line X.env=pure false:=by rfl):
  PS X (.Assign [.Tuple [.Name x g,.Name y l] kt pt] (.Tuple [a,b] k2 pt2) pos) (JR i j ta):=by
 intro ag s σ H D I h;rw[exec_Assign_arm];refine wB1 (wpAny_standAt ?_);rw[hs];refine wB1 (wP1 ?_);rw[aj (by decide)];refine wB1 (Tuple_ (fj (ha _ ag s σ H _ I h) λA d ⟨vs,H1,z,C,n⟩=>?_));obtain⟨v,w,F,n⟩:=n;subst F;obtain⟨c,u2,rfl,G,m⟩:∃c u2,A=[c,u2]/\d6 v c/\d6 w u2:=by
  cases C with
  |cons p q=>
   cases q with
   |cons t K=>
    cases K;exact⟨_,_,O,p,t⟩
 refine wO1 ?_ (by show 2<=dM;decide);have E:Inv X ag σ H1 {d with heap:=d.heap.push {cls:=.type "tuple",data:=.seq [c,u2].toArray}}:=z.kept (t':=d.toks) λb o e=>hP1 _ e;rw[hw];refine wB1 (wP1 ?_);show dN (model X.prog X.w) X.A (do rule "assign.swapped-stores";let items<-unpackItems (.ref d.heap.objs.size) 2 Y;assignInOrder [λv=>bindName X.env y v,λv=>bindName X.env x v] items.reverse;pure Flow.next) _ _ _;refine wB1 (wpAny_rule (wB1 (unpackItems_tuple (items:= #[c,u2]) (I.ok.hd hc) (IsTup.new d.heap _) λh' k=>?_)));have u:=E.kept (h':=h') (t':=d.toks) λb o e=>k b o (nN1 (hL1 e)) e;show dN _ _ (assignInOrder [λv=>bindName X.env y v,λv=>bindName X.env x v] [u2,c] >>= λ_=>pure Flow.next) _ _ _;refine wB1 (assignInOrder_cons (wpAny_bindName (kC u hN am (.inl hy) m (λao B=>?_) (.inr hy))));refine assignInOrder_cons (wpAny_bindName (kC B hN hi (.inl hx) G (λL r=>assignInOrder_nil (wP1 ?_)) (.inr hx)));rw[List.set_comm _ _ (Ne.symm f)]at r;exact⟨_,H1,r,n⟩
noncomputable def zj(c:TT)(tb:TS):TS:=λD σ H=>∃W:Nat->St->Hp->Prop,(∃m,W m σ H) /\ ∀m σ H,W m σ H ->
 c σ H λb H1=>if b=M then∃N:St->Hp->Prop,(∀ σ' H',N σ' H' -> ∃m',m'<m/\W m' σ' H')/\tb {D with nx:=N,ct:=N,bk:=D.nx} σ H1 else D.nx σ H1
theorem zG{c:Expr}{e:List dS}{tc:TT}{tb:TS}(hp:PassesOwn (model X.prog X.w) X.A X.env X.xe)(hc:PT X c tc)(hb:uu X e tb):PS X (.While c e [] pos) (zj tc tb):=by
 intro ag s σ H D I h;obtain⟨W,⟨w,z⟩,g⟩:=h;refine wpAny_While (codeAny_whileLoop (λn s'=>∃j H',Inv X ag j H' s'/\W n j H') ?_ w ⟨σ,H,I,z⟩);rintro n B ⟨d,H1,x,A⟩;refine wpAny_passesOwn hp (fj (hc ag B d H1 _ x (g n d H1 A)) λb y ⟨H2,t,k⟩=>?_);cases b with
 |true=>
  obtain⟨N,u,k⟩:=k;rw[ak O];refine wpAny_passesOwn hp (fj (hb ag y d H2 _ t k) λf C l=>?_);cases f with
  |next=>
   obtain⟨a,i,m,r⟩:=l;obtain⟨p,q,o⟩:=u a i r;exact⟨p,q,a,i,m,o⟩
  |cont=>
   obtain⟨a,i,m,r⟩:=l;obtain⟨p,q,o⟩:=u a i r;exact⟨p,q,a,i,m,o⟩
  |brk=>exact l
  |ret v=>exact l
 |false=>
  rw[aj aK];exact wpAny_execs_nil ⟨d,H2,t,k⟩
end
structure It where
 go:Nat->Hp->Prop
 yld:Nat->Hp->V->Hp->Prop
 stop:Nat->Hp->Prop
def jQ(X:Cx)(ag:List (dF×Obj))(H:Hp)(b:dF):Prop:=
 H b=Y/\b≠X.env.locals/\b∉X.fs/\(b∈X.ex\/X.s₀.heap.objs.size<=b)/\(∀x c,X.env.cells.lookup x=Z c->c≠b) /\ ∀p∈X.pn++ag,p.1≠b
theorem Inv.fpOk{X:Cx}{ag:List (dF×Obj)}{σ:St}{H H':Hp}{s:dE}{b:dF}(I:Inv X ag σ H s)(hb:s.heap.objs.size<=b)(hn:H' b=Y):jQ X ag H' b:=by
 refine⟨hn,nG1 (nL1 I.lt hb),I.nofs hb,.inr (aC I.sz hb),λx c e z=>?_,λp a z=>?_⟩
 ·obtain⟨v,q⟩:=I.cell x c e;exact absurd (nL1 q.lt (by rw[z];exact hb)) (az _)
 ·exact absurd (nL1 (hL1 (I.pin p a).1) (by rw[z];exact hb)) (az _)
structure vH (P:dG)(w:dI)(K:Fg1)(tg:Expr)(am:It)(fp:List dF)(it:dF)(tn:Nat->dQ->Prop):Prop where
 mem:it∈fp
 obj:∀i h,tn i h -> ∀b∈fp,∃o,h.get? b=some o /\ ∀v,o.data ≠ .cell v
 keep:∀i h h',tn i h->(∀b∈fp,∀o,h.get? b=some o->h'.get? b=some o)->tn i h'
 item:∀(X:Cx),X.prog=P->X.w=w->X.K=K->X.calm=true -> ∀(i:Nat) (ag:List (dF×Obj)) (s:dE) (σ:St) (H:Hp) (E:dD->dE->Prop),Inv X ag σ H s->(∀b∈fp,jQ X ag H b)->tn i s.heap->am.go i H ->
  dN (model P w) X.A (pyNext (.ref it)) (λr s1=>∃u,r=some u /\
   dN (model P w) X.A (letOwnedTupleGo tg (.ref it) u) (λ_ s2=>∃x H',Inv X ag σ H' s2/\d6 x u/\am.yld i H x H'/\tn (i+1) s2.heap /\ ∀b∈fp,H' b=none) E s1) E s
 done:∀(X:Cx),X.prog=P->X.w=w->X.K=K->X.calm=true -> ∀(i:Nat) (ag:List (dF×Obj)) (s:dE) (σ:St) (H:Hp) (E:dD->dE->Prop),Inv X ag σ H s->(∀b∈fp,jQ X ag H b)->tn i s.heap->am.stop i H ->
  dN (model P w) X.A (pyNext (.ref it)) (λr s1=>r=none/\Inv X ag σ H s1) E s
 self:∀(A:dH) (i:Nat) (s:dE) (Q:dD->dE->Prop) (E:dD->dE->Prop),tn i s.heap->Q (.ref it) s->dN (model P w) A (pyIter (.ref it)) Q E s
abbrev TI:=St->Hp->(It->Hp->Prop)->Prop
def K1(X:Cx)(ag:List (dF×Obj))(σ:St)(tg:Expr)(R:It->Hp->Prop)(itv:dD)(s2:dE):Prop:=
 ∃(it:dF) (fp:List dF) (tn:Nat->dQ->Prop) (am:It) (H':Hp),itv = .ref it/\Inv X ag σ H' s2/\vH X.prog X.w X.K tg am fp it tn/\tn 0 s2.heap/\(∀b∈fp,jQ X ag H' b)/\R am H'
def PI(X:Cx)(tg iter:Expr)(wi:TI):Prop:=
 ∀(ag:List (dF×Obj)) (s:dE) (σ:St) (H:Hp) (R:It->Hp->Prop),Inv X ag σ H s->wi σ H R ->
  dN (model X.prog X.w) X.A (eval iter X.env) (λv s1=>dN (model X.prog X.w) X.A (pyIter v) (K1 X ag σ tg R) X.xe s1) X.xe s
theorem wQ {ao:Model}{A:dH}{E:dD->dE->Prop}{s:dE}{tg:Expr}{it:dF}{u:dD}{o:Obj}{n:String}{vs:Array dD}{Q:Unit->dE->Prop}(ho:s.heap.get? it=some o)(hc:o.cls = .type n)(hd:o.data = .fields vs)
   (hn:["enumerate","zip","dict_itemiterator","dict_reverseitemiterator","odict_iterator","itertools.zip_longest","itertools.pairwise"].contains n=J) (a:Q () s):dN ao A (letOwnedTupleGo tg (.ref it) u) Q E s:=by
 unfold letOwnedTupleGo;cases tg <;> first
   |exact wP1 a
   | (cases u<;>first
       |exact wP1 a
       | (refine wB1 (wpAny_load ho ?_)
          rw[hc,hd];show dN ao A (if(["enumerate","zip","dict_itemiterator","dict_reverseitemiterator","odict_iterator","itertools.zip_longest","itertools.pairwise"].contains n&&vs[0]? == Z (rawInt _))=M then _ else _) Q E s;rw[aj (by intro h;rw[hn,Bool.false_and]at h;cases h)];exact wP1 a))
noncomputable def K5(K:Fg1)(a:dF):It:=
 ⟨λi H=>∃xs x,mX K H a xs/\xs[i]?=Z x,λi H x H'=>H'=H /\ ∀xs,mX K H a xs->xs[i]?=Z x,λi H=>∃xs,mX K H a xs/\xs.length<=i⟩
noncomputable def K4(K:Fg1)(a:dF):It:=
 ⟨λi H=>∃xs x,j6 K H a xs/\xs[i]?=Z x,λi H x H'=>H'=H /\ ∀xs,j6 K H a xs->xs[i]?=Z x,λi H=>∃xs,j6 K H a xs/\xs.length<=i⟩
noncomputable def Jp(lo:Int)(n:Nat):It:=⟨λi _=>i<n,λi H x H'=>H'=H/\x = .int (lo+i),λi _=>n<=i⟩
theorem xy{P:dG}{w:dI}{K:Fg1}{tg:Expr}(a it:dF):vH P w K tg (K5 K a) [it] it (λi h=>h.IsListIter it a i) where
 mem:=by simp
 obj:=λi h st b f=>by
  have e:b=it:=by simpa using f
  subst e;obtain⟨o,e,c,d⟩:=st;exact⟨o,e,λv z=>by rw[d]at z;cases z⟩
 keep:=λi h h' st k=>st.at λo e=>k it (by simp) o e
 item:=by
  intro X F m t hc i ag s σ H E I g st l;subst F m t;obtain⟨xs,x,j,r⟩:=l;obtain⟨C,A,p,G⟩:=I.list j;obtain⟨u,N,R⟩:=A.get r;obtain⟨n,D,ao,B,q,y⟩:=g it (by simp);refine wpAny_pyNext_list_item st p.isList (x:=u) (by simpa using N) λh' st' am=>?_;have L:Inv X ag σ H {s with heap:=h'}:=I.turned (t':=s.toks) (λb o f e=>(am.2 b f).trans e) n D B q y;obtain⟨o,e,c,d⟩:=id st';exact⟨u,O,wQ (s:={s with heap:=h'}) e c d (by decide) ⟨x,H,L,R,⟨O,λys au=>by rw[I.list_inj au j];exact r⟩,st',λb f=>(g b f).1⟩⟩
 done:=by
  intro X F m t hc i ag s σ H E I g st l;subst F m t;obtain⟨xs,j,r⟩:=l;obtain⟨C,A,p,G⟩:=I.list j;obtain⟨n,D,ao,B,q,y⟩:=g it (by simp);have S:=A.length;exact wpAny_pyNext_list_end (I.ok.hd hc) st p.isList (by simp;lia) λh' Q=>⟨O,I.turned (t':=s.toks) (λb o f e=>Q b o f e) n D B q y⟩
 self:=λ_ _ _ _ _ st h=>wpAny_pyIter_listiter st h
theorem uF{P:dG}{w:dI}{K:Fg1}{tg:Expr}(a it:dF):vH P w K tg (K4 K a) [it] it (λi h=>h.IsTupleIter it a i) where
 mem:=by simp
 obj:=λi h st b f=>by
  have e:b=it:=by simpa using f
  subst e;obtain⟨o,e,c,d⟩:=st;exact⟨o,e,λv z=>by rw[d]at z;cases z⟩
 keep:=λi h h' st k=>st.at λo e=>k it (by simp) o e
 item:=by
  intro X F n y hc i ag s σ H E I j st m;subst F n y;obtain⟨xs,x,l,t⟩:=m;obtain⟨g,B,p,G⟩:=I.tuple l;obtain⟨u,N,R⟩:=B.get t;obtain⟨q,D,ao,C,r,A⟩:=j it (by simp);refine wpAny_pyNext_tuple_item st (show s.heap.IsTuple a g.toArray from p) (x:=u) (by simpa using N) λh' st' am=>?_;have L:Inv X ag σ H {s with heap:=h'}:=I.turned (t':=s.toks) (λb o f e=>(am.2 b f).trans e) q D C r A;obtain⟨o,e,c,d⟩:=id st';exact⟨u,O,wQ (s:={s with heap:=h'}) e c d (by decide) ⟨x,H,L,R,⟨O,λys au=>by rw[I.tuple_inj au l];exact t⟩,st',λb f=>(j b f).1⟩⟩
 done:=by
  intro X F n y hc i ag s σ H E I j st m;subst F n y;obtain⟨xs,l,t⟩:=m;obtain⟨g,B,p,G⟩:=I.tuple l;obtain⟨q,D,ao,C,r,A⟩:=j it (by simp);have S:=B.length;exact wpAny_pyNext_tuple_end (I.ok.hd hc) st (show s.heap.IsTuple a g.toArray from p) (by simp;lia) λh' Q=>⟨O,I.turned (t':=s.toks) (λb o f e=>Q b o f e) q D C r A⟩
 self:=λ_ _ _ _ _ st h=>wpAny_pyIter_tupleiter st h
theorem uG{P:dG}{w:dI}{K:Fg1}{tg:Expr}(it:dF)(lo:Int)(n:Nat):vH P w K tg (Jp lo n) [it] it (λi h=>IsRangeIter h it (lo+(i:Nat)*1) ((n:Int)-(i:Nat)) 1) where
 mem:=by simp
 obj:=λi h st b a=>by
  have e:b=it:=by simpa using a
  subst e;exact⟨_,st,λv z=>by
   have C:Data.fields _=Data.cell v:=z;cases C⟩
 keep:=λi h h' st k=>k it (by simp) _ st
 item:=by
  intro X q g j hc i ag s σ H E I c st d;subst q g j;obtain⟨p,m,B,r,f,l⟩:=c it (by simp);have W:=Walks.range (prog:=X.prog) (w:=X.w) (I.ok.hd hc) it lo 1 n;refine W.item i s _ _ d st λv h' tk y st' x=>?_;obtain⟨t,rfl⟩:=y;have A:Inv X ag σ H {s with heap:=h',toks:=tk}:=I.turned (λb o a e=>x b o (by simpa using a) e) p m r f l;refine⟨_,O,wQ (s:={s with heap:=h',toks:=tk}) (n:="range_iterator") st' O O (by decide) ⟨.int (lo+i),H,A,⟨t,?_⟩,⟨O,O⟩,st',λb a=>(c b a).1⟩⟩;rw[Int.mul_one]
 done:=by
  intro X q g j hc i ag s σ H E I c st d;subst q g j;obtain⟨p,m,B,r,f,l⟩:=c it (by simp);exact wpAny_pyNext_range_end (I.ok.hd hc) st (by have:n<=i:=d;lia) λh' u=>⟨O,I.turned (t':=s.toks) (λb o a e=>u b o a e) p m r f l⟩
 self:=λ_ _ _ _ _ st h=>wpAny_pyIter_rangeiter st h
end L2
namespace L2
open PySem PySem.Spec PyProof.Rows
section
variable{X:Cx}{tg:Expr}
noncomputable def IM(K:Fg1)(tl:TE):TI:=fun σ H R=>tl σ H λx H1=>∃a,x = .ref a/\(∃xs,mX K H1 a xs)/\R (K5 K a) H1
noncomputable def Kr(K:Fg1)(tl:TE):TI:=fun σ H R=>tl σ H λx H1=>∃a,x = .ref a/\(∃xs,j6 K H1 a xs)/\R (K4 K a) H1
theorem CA{l:Expr}{tl:TE}(m:PE X l tl):PI X tg l (IM X.K tl):=by
 intro ag s σ H R I h;refine fj (m ag s σ H _ I h) λv d ⟨x,H1,c,f,k⟩=>?_;obtain⟨a,e,⟨xs,j⟩,q⟩:=k;subst e;cases f;obtain⟨i,r,p,n⟩:=c.list j;refine wpAny_pyIter_list p.isList ?_;refine⟨d.heap.objs.size,[d.heap.objs.size],_,_,H1,O,c.kept (t':=d.toks) λb o e=>hP1 _ e,xy a _,⟨_,hS1 _ O,O,O⟩,λb g=>?_,q⟩;have e:b=d.heap.objs.size:=by simpa using g
 subst e;exact c.fpOk (nR1 _) (c.hok.fresh (nR1 _))
theorem Fp{l:Expr}{tl:TE}(m:PE X l tl):PI X tg l (Kr X.K tl):=by
 intro ag s σ H R I h;refine fj (m ag s σ H _ I h) λv c ⟨x,H1,d,g,k⟩=>?_;obtain⟨a,e,⟨xs,j⟩,q⟩:=k;subst e;cases g;obtain⟨f,r,p,n⟩:=d.tuple j;refine wpAny_pyIter_tuple (show c.heap.IsTuple a f.toArray from p) ?_;refine⟨c.heap.objs.size,[c.heap.objs.size],_,_,H1,O,d.kept (t':=c.toks) λb o e=>hP1 _ e,uF a _,⟨_,hS1 _ O,O,O⟩,λb i=>?_,q⟩;have e:b=c.heap.objs.size:=by simpa using i
 subst e;exact d.fpOk (nR1 _) (d.hok.fresh (nR1 _))
theorem sK{ag:List (dF×Obj)}{σ:St}{H:Hp}{s:dE}{R:It->Hp->Prop}{E:dD->dE->Prop}{lo hi:Int}{t u v:Tok}{tk:Nat}(I:Inv X ag σ H s)(h1: -(2^62)<=lo)(h2:lo<2^62)(f: -(2^62)<=hi)(h:hi<2^62)(q:R (Jp lo (hi-lo).toNat) H):dN (model X.prog X.w) X.A (pyIter (.ref s.heap.objs.size)) (K1 X ag σ tg R) E {s with heap:=s.heap.push {cls:=.type "range",data:=.fields #[.int lo t,.int hi u,.int 1 v]},toks:=tk}:=by
 refine wpAny_pyIter_range (IsRange.new ..) (small_one h1 h2 f h) ?_;have a:Inv X ag σ H {s with heap:=s.heap.push {cls:=.type "range",data:=.fields #[.int lo t,.int hi u,.int 1 v]},toks:=tk}:=I.kept λb o e=>hP1 _ e;refine⟨(s.heap.push {cls:=.type "range",data:=.fields #[.int lo t,.int hi u,.int 1 v]}).objs.size,[(s.heap.push {cls:=.type "range",data:=.fields #[.int lo t,.int hi u,.int 1 v]}).objs.size],_,_,H,O,
  a.kept (t':=tk) λb o e=>hP1 _ e,uG _ lo (hi-lo).toNat,?_,λb c=>?_,q⟩
 ·have d:lo+((0:Nat):Int)*1=lo:=by simp
  have g:(((hi-lo).toNat:Nat):Int)-((0:Nat):Int)=Builtin.Range.rangeSize lo hi 1:=by rw[rangeSize_one];split<;>lia
  show IsRangeIter _ _ (lo+((0:Nat):Int)*1) ((((hi-lo).toNat:Nat):Int)-((0:Nat):Int)) 1;rw[d,g];exact hS1 _ O
 ·have e:b=(s.heap.push {cls:=.type "range",data:=.fields #[.int lo t,.int hi u,.int 1 v]}).objs.size:=by simpa using c
  subst e;exact a.fpOk (nR1 _) (a.hok.fresh (nR1 _))
noncomputable def IK(ta:TA):TI:=fun σ H R=>ta σ H λvs H1=>∃j:Int,vs=[.int j] /\ -(2^62)<=j/\j<2^62/\R (Jp 0 j.toNat) H1
noncomputable def IJ(ta:TA):TI:=fun σ H R=>ta σ H λvs H1=>∃i j:Int,vs=[.int i,.int j]/\(-(2^62)<=i/\i<2^62 /\ -(2^62)<=j/\j<2^62)/\R (Jp i (j-i).toNat) H1
theorem xO {a:Expr}{ta:TA}{p pos:Pos}(hg:Gl X "range")(hm:X.mg "range"=Y)(ha:PA X [a] ta)(hs:dL [a] X.env=[(J,eval a X.env)]:=by rfl):PI X tg (.Call (.Name "range" p) [a] [] pos) (IK ta):=by
 intro ag s σ H R I h;refine Call_ (kd I hg hm boot_range (PyProof.Rows.callWith_type1 (fj (ha pos ag s σ H _ I h) λi k ⟨vs,H1,d,c,b⟩=>?_) hs O));obtain⟨j,e,b,g,q⟩:=b;subst e;cases c with
 |cons r f=>
  cases f;obtain⟨t,rfl⟩:=r;exact call_range_1 (sK d (by lia) (by lia) b g (by simpa using q))
theorem xN {a b:Expr}{ta:TA}{p pos:Pos}(hg:Gl X "range")(hm:X.mg "range"=none)(ha:PA X [a,b] ta)(hs:dL [a,b] X.env=[(false,eval a X.env),(false,eval b X.env)]:=by rfl)(hs2:dL [b] X.env=[(false,eval b X.env)]:=by rfl):
  PI X tg (.Call (.Name "range" p) [a,b] [] pos) (IJ ta):=by
 intro ag s σ H R I h;refine Call_ (kd I hg hm boot_range (PyProof.Rows.callWith_type1 (fj (ha pos ag s σ H _ I h) λo v ⟨vs,H1,g,f,c⟩=>?_) (by rw[hs,hs2]) (by rw[hs2];rfl)));obtain⟨i,j,e,⟨c,k,m,l⟩,q⟩:=c;subst e;cases f with
 |cons r d=>
  cases d with
  |cons n d=>
   cases d;obtain⟨t,rfl⟩:=r;obtain⟨u,rfl⟩:=n;exact call_range_2 (sK g c k m l q)
noncomputable def HL(wi:TI)(g:TG)(tb:TS):TS:=λD σ H=>wi σ H λam H1=>∃W:Nat->Nat->St->Hp->Prop,(∃m,W 0 m σ H1) /\ ∀i m σ H,W i m σ H ->
 (am.stop i H/\D.nx σ H)\/(am.go i H /\ ∃N:St->Hp->Prop,(∀ σ' H',N σ' H' -> ∃m',m'<m/\W (i+1) m' σ' H') /\ ∀x H',am.yld i H x H'->g x σ H' fun σ2 H2=>tb {D with nx:=N,ct:=N,bk:=D.nx} σ2 H2)
noncomputable def nS(fp:List dF)(h:dQ):List (dF×Obj):=fp.filterMap λb=>(h.get? b).map λo=>(b,o)
theorem iS{a:List dF}{h:dQ}{b:dF}{o:Obj}(hb:b∈a)(e:h.get? b=Z o):(b,o)∈nS a h:=aL.mpr ⟨b,hb,by rw[e];rfl⟩
theorem xU{a:List dF}{h:dQ}{p:dF×Obj}(hp:p∈nS a h):p.1∈a/\h.get? p.1=Z p.2:=by
 obtain⟨b,c,e⟩:=aL.mp hp;cases q:h.get? b with
 |none=>rw[q]at e;cases e
 |some o=>
  rw[q]at e;have d:(b,o)=p:=Option.some.inj e;subst d;exact⟨c,q⟩
theorem Inv.pinned{ag:List (dF×Obj)}{σ:St}{H:Hp}{s:dE}{a:List dF}(I:Inv X ag σ H s)(hf:∀b∈a,jQ X ag H b)(ho:∀b∈a,∃o,s.heap.get? b=Z o /\ ∀v,o.data ≠ .cell v):Inv X (ag++nS a s.heap) σ H s:=
 I.pins_of λp g=>(aG.mp g).elim (λz=>I.pin p (mA1 _ z)) λz=>by
  obtain⟨c,e⟩:=xU z;obtain⟨i,h,j,_⟩:=hf p.1 c;obtain⟨o,f,d⟩:=ho p.1 c;rw[e]at f;cases f;exact⟨e,i,h,j,d⟩
theorem Inv.unpinned{ag pl:List (dF×Obj)}{σ:St}{H:Hp}{s:dE}(I:Inv X (ag++pl) σ H s):Inv X ag σ H s:=I.pins_of λp a=>I.pin p (mA1 _ (aH _ a))
theorem Fk{iter:Expr}{t:List dS}{U:TI}{g:TG}{tb:TS}{pos:Pos}(hp:PassesOwn (model X.prog X.w) X.A X.env X.xe)(hc:X.calm=M)(hi:PI X tg iter U)(hg:PG X tg g)(hb:uu X t tb)(hs:∀x,foldedSetIterable iter X.env x=pure x:=by intro _;rfl):PS X (.For tg iter t [] pos) (HL U g tb):=by
 intro ag s σ H D I h;refine wpAny_For (fj (hi ag s σ H _ I h) λv s1 h1=>fj h1 λitv s2 h2=>?_) hs;obtain⟨it,B,wq,am,H2,e,I2,T,P,S,W,⟨m0,w0⟩,z⟩:=h2;subst e
 -- what stays M of the iterator's objects through the loop
 have q:∀{H':Hp},(∀b∈B,H' b=Y) -> ∀b∈B,jQ X ag H' b:=λhn b hb=>⟨hn b hb,(S b hb).2⟩;refine codeAny_forLoop_any (λn s'=>∃i l H',Inv X ag l H' s'/\wq i s'.heap/\(∀b∈B,H' b=Y)/\W i n l H') ?_ m0 ⟨0,σ,H2,I2,P,λb hb=>(S b hb).1,w0⟩;rintro n V ⟨i,c,G,R,A,E,w3⟩;rcases z i n c G w3 with⟨C,qn⟩|⟨go,N,hN,step⟩
 ·refine wpAny_passesOwn hp (fj (T.done X O O O hc i ag V c G X.xe R (q E) A C) λr s4 ⟨K,I4⟩=>?_);subst K;exact wpAny_execs_nil ⟨c,G,I4,qn⟩
 ·refine wpAny_passesOwn hp (fj (T.item X rfl rfl rfl hc i ag V c G X.xe R (q E) A go) fun r s4 ⟨u,K,h4⟩=>?_);subst K;refine wpAny_passesOwn hp (fj h4 fun _ s5 ⟨x,aq,I5,r5,y5,y,au⟩=>?_);have L:=I5.pinned (q au) (T.obj _ _ y);refine wpAny_passesOwn hp (fj (hg _ s5 c aq x u _ L r5 (step x aq y5)) fun _ s6 ⟨Q,H6,I6,q6⟩=>?_);refine wpAny_passesOwn hp (fj (hb _ s6 Q H6 _ I6 q6) fun f ao w=>?_);have p:∀ {a:St} {k:Hp},Inv X (ag++nS B s5.heap) a k ao->N a k -> ∃ m,m<n /\ ∃ i l H',Inv X ag l H' ao/\wq i ao.heap/\(∀ b∈B,H' b=none)/\W i m l H':=fun {a k} j F=>by
   obtain⟨m',hm,w7⟩:=hN a k F;refine⟨m',hm,i+1,a,k,j.unpinned,T.keep _ _ _ y λb hb o e=>(j.pin (b,o) (mA1 _ (mA1 _ (iS hb e)))).1,λb hb=>?_,w7⟩;obtain⟨o,e,d⟩:=T.obj _ _ y b hb;exact(j.pin (b,o) (mA1 _ (mA1 _ (iS hb e)))).2.1
  cases f with
  |next=>obtain⟨a,k,j,F⟩:=w;exact p j F
  |cont=>obtain⟨a,k,j,F⟩:=w;exact p j F
  |brk=>obtain⟨a,k,j,w⟩:=w;exact⟨a,k,j.unpinned,w⟩
  |ret v=>obtain⟨x7,a,k,j,r7,w⟩:=w;exact⟨x7,a,k,j.unpinned,r7,w⟩
end
end L2
namespace L2
open PySem PySem.Spec PyProof.Rows
abbrev R2:=V->V->Hp->VK->Prop
def fX(X:Cx)(f:dD->dD->Sem dD)(r:R2):Prop:=
 ∀(ag:List (dF×Obj)) (s:dE) (σ:St) (H:Hp) (x y:V) (v u:dD) (Q:VK),Inv X ag σ H s->d6 x v->d6 y u->r x y H Q ->
  dN (model X.prog X.w) X.A (f v u) (EP X ag σ Q) X.xe s
def e9(X:Cx)(f:dD)(r:List V->Hp->VK->Prop):Prop:=
 ∀(ag:List (dF×Obj)) (s:dE) (σ:St) (H:Hp) (xs:List V) (us:List dD) (Q:VK),Inv X ag σ H s->ei xs us->r xs H Q ->
  dN (model X.prog X.w) X.A (call f us) (EP X ag σ Q) X.xe s
def KB(X:Cx)(r:V->Hp->(Bool->Hp->Prop)->Prop):Prop:=
 ∀(ag:List (dF×Obj)) (s:dE) (σ:St) (H:Hp) (x:V) (v:dD) (Q:Bool->Hp->Prop),Inv X ag σ H s->d6 x v->r x H Q ->
  dN (model X.prog X.w) X.A (truthy v) (TP X ag σ Q) X.xe s
noncomputable def HH(r:R2)(ta tb:TE):TE:=fun σ H Q=>ta σ H λx H1=>tb σ H1 λy H2=>r x y H2 Q
def rI(C:Int->Int->Prop)(g:Int->Int->V):R2:=λx y H Q=>∃i j,x = .int i/\y = .int j/\C i j/\Q (g i j) H
noncomputable def Eb(g:Int->Int->V):R2:=λx y H Q=>∃i j,x = .int i/\y = .int j/\Q (g i j) H
def rU(g:Int->V):V->Hp->VK->Prop:=λx H Q=>∃i,x = .int i/\Q (g i) H
section
variable{X:Cx}{a b c:Expr}{ta tb tc:TE}{pos:Pos}
theorem G5(ha:PE X a ta)(hb:PE X b tb){ag:List (dF×Obj)}{s:dE}{σ:St}{H:Hp}{R:V->V->Hp->Prop}(I:Inv X ag σ H s)(h:ta σ H fun x H1=>tb σ H1 fun y H2=>R x y H2){Q:dD->dE->Prop}{f:dD->dD->Sem dD}(hf:∀v u e x y H2,Inv X ag σ H2 e->d6 x v->d6 y u->R x y H2->dN (model X.prog X.w) X.A (f v u) Q X.xe e):
  dN (model X.prog X.w) X.A (eval a X.env) (λv d=>dN (model X.prog X.w) X.A (eval b X.env) (λu c=>dN (model X.prog X.w) X.A (f v u) Q X.xe c) X.xe d) X.xe s:=by
 refine fj (ha ag s σ H _ I h) λv m ⟨x,H1,i,g,j⟩=>?_;refine fj (hb ag m σ H1 _ i j) λu e ⟨y,H2,k,r2,l⟩=>?_;exact hf v u e x y H2 k g r2 l
theorem Ic{op:Operator}{r:R2}(ho:fX X (binaryOp op) r)(ha:PE X a ta)(hb:PE X b tb):PE X (.BinOp a op b pos) (HH r ta tb):=by
 intro ag s σ H Q I h;exact wpAny_BinOp (G5 ha hb I h λv u f x y H2 d c e q=>ho ag f σ H2 x y v u Q d c e q)
theorem Jz{f:dD->dD->Sem dD}{C:Int->Int->Prop}{g:Int->Int->Int}(a:∀(i j:Int) (t u:Tok) (s:dE) (Q:dD->dE->Prop) (E:dD->dE->Prop),C i j->Q (.int (g i j) s.toks) {s with toks:=s.toks+1}->dN (model X.prog X.w) X.A (f (.int i t) (.int j u)) Q E s):
  fX X f (rI C λi j=>.int (g i j)):=by
 intro ag s σ H x y v u Q I b c h;obtain⟨i,j,rfl,rfl,hc,q⟩:=h;obtain⟨t,rfl⟩:=b;obtain⟨d,rfl⟩:=c;exact a i j t d s _ _ hc ⟨.int (g i j),H,I.tok _,⟨_,O⟩,q⟩
theorem Im{f:dD->dD->Sem dD}{g:Int->Int->Int}(a:∀(i j:Int) (t u:Tok) (s:dE) (Q:dD->dE->Prop) (E:dD->dE->Prop),Q (.int (g i j) s.toks) {s with toks:=s.toks+1}->dN (model X.prog X.w) X.A (f (.int i t) (.int j u)) Q E s):
  fX X f (Eb λi j=>.int (g i j)):=by
 intro ag s σ H x y v u Q I b c h;obtain⟨i,j,rfl,rfl,q⟩:=h;obtain⟨t,rfl⟩:=b;obtain⟨d,rfl⟩:=c;exact a i j t d s _ _ ⟨.int (g i j),H,I.tok _,⟨_,O⟩,q⟩
theorem FU{f:dD->dD->Sem dD}{g:Int->Int->Bool}(a:∀(i j:Int) (t u:Tok) (s:dE) (Q:dD->dE->Prop) (E:dD->dE->Prop),Q (.bool (g i j)) s->dN (model X.prog X.w) X.A (f (.int i t) (.int j u)) Q E s):
  fX X f (Eb λi j=>.bl (g i j)):=by
 intro ag s σ H x y v u Q I b c h;obtain⟨i,j,rfl,rfl,q⟩:=h;obtain⟨t,rfl⟩:=b;obtain⟨d,rfl⟩:=c;exact a i j t d s _ _ ⟨.bl (g i j),H,I,O,q⟩
def Jt(i j:Int):Prop:=0<j/\j<1073741824
def Js(i j:Int):Prop:=0<=j/\j<=1000000/\i.natAbs<2^64
theorem FR:fX X (binaryOp .Add) (Eb λi j=>.int (i+j)):=Im λ_ _ _ _ _ _ _ q=>add_int q
theorem FK:fX X (binaryOp .Sub) (Eb λi j=>.int (i-j)):=Im λ_ _ _ _ _ _ _ q=>sub_int q
theorem CK:fX X (binaryOp .FloorDiv) (rI Jt λi j=>.int (i/j)):=Jz λi j _ _ _ _ _ hc q=>by
 have h1:(0:Int)<j:=hc.1;have h2:j<1073741824:=hc.2;exact floordiv_int (by lia) (by rw[Int.fdiv_eq_ediv_of_nonneg i (by lia)];exact q) (.inl (PyProof.noPylong_small (by lia)))
theorem FM:fX X (binaryOp .Mod) (rI (λ_ j=>0<j) λi j=>.int (i%j)):=Jz λi j _ _ _ _ _ hc q=>by
 have h1:(0:Int)<j:=hc;exact mod_int' (by lia) (by rw[Int.fmod_eq_emod_of_nonneg i (by lia)];exact q)
theorem FL:fX X (binaryOp .Pow) (rI Js λi j=>.int (i^j.toNat)):=Jz λ_ _ _ _ _ _ _ hc q=>pow_int_small hc.1 hc.2.1 hc.2.2 q
theorem A1{ag:List (dF×Obj)}{σ:St}{H:Hp}{s:dE}{Q:VK}{k k':Bool}(I:Inv X ag σ H s)(q:Q (.bl k) H)(e:k=k'):EP X ag σ Q (.bool k') s:=by
 subst e;exact⟨.bl k,H,I,O,q⟩
theorem Ij:fX X (compareOp .LtE) (Eb λi j=>.bl (decide (i<=j))):=FU λ_ _ _ _ _ _ _ q=>le_int q
theorem Ik:fX X (compareOp .Gt) (Eb λi j=>.bl (decide (j<i))):=FU λ_ _ _ _ _ _ _ q=>gt_int q
theorem Il:fX X (compareOp .GtE) (Eb λi j=>.bl (decide (j<=i))):=FU λ_ _ _ _ _ _ _ q=>ge_int q
theorem FP:fX X (compareOp .Is) (λx y H Q=>y = .non/\Q (.bl (decide (x = .non))) H):=by
 intro ag s σ H x y v u Q I a b h;obtain⟨rfl,q⟩:=h;cases b;refine is_none_gen (A1 I q ?_);cases x<;>first
  |(cases a;rfl)
  |(obtain⟨t,rfl⟩:=a;rfl)
theorem CJ:fX X (compareOp .IsNot) (λx y H Q=>y = .non/\Q (.bl (!decide (x = .non))) H):=by
 intro ag s σ H x y v u Q I a b h;obtain⟨rfl,q⟩:=h;cases b;refine isnot_none_gen (A1 I q ?_);cases x<;>first
  |(cases a;rfl)
  |(obtain⟨t,rfl⟩:=a;rfl)
theorem Ab(b:Expr){op:CmpOp}(h:op ≠ .In:=by decide)(h2:op ≠ .NotIn:=by decide):behindInMarks op b=J:=by
 have c:(op == CmpOp.In)=J:=by cases op<;>first|rfl|exact absurd rfl h
 have a:(op == CmpOp.NotIn)=J:=by cases op<;>first|rfl|exact absurd rfl h2
 cases b<;>simp[behindInMarks,c,a]
theorem CF{op:CmpOp}{r:R2}(ho:fX X (compareOp op) r)(ha:PE X a ta)(hb:PE X b tb)(hm:behindInMarks op b=J):PE X (.Compare a [op] [b] pos) (HH r ta tb):=by
 intro ag s σ H Q I h;exact wpAny_Compare1 (G5 ha hb I h λv u f x y H2 d c e q=>ho ag f σ H2 x y v u Q d c e q) hm
noncomputable def HE(t:TE):TT:=fun σ H Q=>t σ H λx H'=>∃k,x = .bl k/\Q k H'
theorem Cq{op:CmpOp}{r:R2}(ho:fX X (compareOp op) r)(ha:PE X a ta)(hb:PE X b tb)(hm:behindInMarks op b=J):PT X (.Compare a [op] [b] pos) (HE (HH r ta tb)):=by
 intro ag s σ H Q I h;refine wpAny_isTrue_Compare1 (fj (ha ag s σ H _ I h) λv p ⟨x,H1,g,d,j⟩=>fj (hb ag p σ H1 _ g j) λu o ⟨y,H2,m,r2,n⟩=>
  fj (ho ag o σ H2 x y v u _ m d r2 n) λc t ⟨z,i,f,l,k,e,q⟩=>?_) hm
 subst e;cases l;exact wpAny_truthy_bool ⟨i,f,q⟩
noncomputable def zm(r r':R2)(ta tb tc:TE):TE:=fun σ H Q=>ta σ H λx H1=>tb σ H1 λy H2=>r x y H2 λz H3=>∃k,z = .bl k /\
 (if k=M then tc σ H3 λw' H4=>r' y w' H4 Q else Q (.bl J) H3)
theorem zU{op op':CmpOp}{r j:R2}(ho:fX X (compareOp op) r)(ho':fX X (compareOp op') j)(ha:PE X a ta)(hb:PE X b tb)(hc:PE X c tc)(hm:lastMarks [op,op'] [b,c]=J:=by with_unfolding_all rfl):PE X (.Compare a [op,op'] [b,c] pos) (zm r j ta tb tc):=by
 intro ag s σ H Q I h;refine Compare_chain (fj (ha ag s σ H _ I h) λv am ⟨x,H1,m,p,G⟩=>chain_link (fj (hb ag am σ H1 _ m G) λu A ⟨y,H2,t,r2,w⟩=>
  fj (ho ag A σ H2 x y v u _ t p r2 w) λd q ⟨z,g,f,E,k,e,i⟩=>?_)) hm
 subst e;cases E;refine wpAny_truthy_bool ?_;cases k with
 |false=>exact ite_ff ⟨.bl J,g,f,O,i⟩
 |true=>exact ite_tt (chain_last (fj (hc ag q σ g _ f i) λl n ⟨C,B,o,D,F⟩=>ho' ag n σ B y C u l Q o r2 D F))
def BF(K:Fg1)(x:V)(H:Hp)(k:Bool):Prop:=
 match x with
 | .non=>k=J
 | .bl b=>k=b
 | .int i=>k=(i != 0)
 | .str y=>y.length<=dM/\k=((y.length:Int) != 0)
 | .byt y=>y.size<=dM/\k=((y.size:Int) != 0)
 | .ref p=>(∃xs,mX K H p xs/\k = !xs.isEmpty)\/(∃xs,j6 K H p xs/\k = !xs.isEmpty) \/ ∃kvs,H p=Z (.dK kvs)/\k = !kvs.isEmpty
 |_=>False
theorem ve{κ:Type}{kvs:List (κ×V)}{vs:List (κ×dD)}(r:KV kvs vs):(!vs.isEmpty) = !kvs.isEmpty:=by
 cases r<;>rfl
theorem oh{xs:List V}{its:List dD}(r:ei xs its):(!its.toArray.isEmpty) = !xs.isEmpty:=by
 cases r<;>simp
theorem lX:(dM:Nat)<2^63:=by rw[sizeLine_eq];decide
theorem za:KB X (λx H Q=>∃k,BF X.K x H k/\Q k H):=by
 intro ag s σ H x v Q I d h;obtain⟨k,e,q⟩:=h;have u:=lX;have o:dM=16777216:=sizeLine_eq;cases x with
 |non=>
  cases d;have a:k=J:=e;subst a;exact truthy_none ⟨H,I,q⟩
 |bl b=>
  cases d;have a:k=b:=e;subst a;exact wpAny_truthy_bool ⟨H,I,q⟩
 |int i=>
  obtain⟨t,rfl⟩:=d;have a:k=(i != 0):=e;subst a;exact PySem.P.truthy_int ⟨H,I,q⟩
 |str y=>
  obtain⟨t,rfl⟩:=d;obtain⟨n,a⟩:y.length<=dM/\k=((y.length:Int) != 0):=e;subst a;exact PySem.P.truthy_str (by lia) ⟨H,I.tok _,q⟩
 |byt y=>
  obtain⟨t,rfl⟩:=d;obtain⟨n,a⟩:y.size<=dM/\k=((y.size:Int) != 0):=e;subst a;exact PySem.W.truthy_bytes (by lia) ⟨H,I.tok _,q⟩
 |ref p=>
  cases d;have a:(∃xs,mX X.K H p xs/\k = !xs.isEmpty)\/(∃xs,j6 X.K H p xs/\k = !xs.isEmpty) \/ ∃kvs,H p=Z (.dK kvs)/\k = !kvs.isEmpty:=e;rcases a with⟨xs,f,a⟩|⟨xs,f,a⟩|⟨kvs,f,a⟩
  ·subst a;obtain⟨g,r,pl,j⟩:=I.list f;have c:=r.length;exact wpAny_truthy_list pl.isList (by simp only[sT1];lia) ⟨H,I.tok _,by rw[oh r];exact q⟩
  ·subst a;obtain⟨g,r,pl,j⟩:=I.tuple f;have c:=r.length;exact truthy_tuple pl (by simp only[sT1];lia) ⟨H,I.tok _,by rw[oh r];exact q⟩
  ·subst a;obtain⟨j,l,vs,r,m⟩:kvs.length<=dM/\(p == sysModules)=false /\ ∃vs,KV kvs vs/\s.heap.DictOf (fe X.prog X.w) p vs:=I.hok p _ f;have c:kvs.length=vs.length:=Paired.length r;exact wpAny_truthy_dict l m (by lia) ⟨H,I.tok _,by rw[ve r];exact q⟩
 |_=>exact(show False from e).elim
theorem zE(ha:PE X a ta)(he:∀ b,isTrue a X.env b=(do let v<-b;standAt a.pos;holding [v] (truthy v))):
  PT X a (fun σ H Q=>ta σ H λx H'=>∃k,BF X.K x H' k/\Q k H'):=by
 intro ag s σ H Q I h;exact isTrue_plain (fj (ha ag s σ H _ I h) λv f ⟨x,H1,d,c,e⟩=>za ag f σ H1 x v Q d c e) (he _)
theorem uX:fX X (binaryOp .Add) (λx y H Q=>∃i j,x = .str i/\y = .str j/\i.length+j.length<=dM/\Q (.str (i++j)) H):=by
 intro ag s σ H x y v u Q I b c h;obtain⟨i,j,rfl,rfl,a,q⟩:=h;obtain⟨t,rfl⟩:=b;obtain⟨d,rfl⟩:=c;exact add_str (λd tk=>⟨.str (i++j),H,I.tok _,⟨_,O⟩,q⟩) a
theorem hA{x:V}{a:List dD}(r:ei [x] a):∃u,a=[u]/\d6 x u:=by
 cases r with
 |cons b r2=>cases r2;exact⟨_,O,b⟩
theorem y4{x y:V}{a:List dD}(r:ei [x,y] a):∃u w',a=[u,w']/\d6 x u/\d6 y w':=by
 cases r with
 |cons d r2=>
  cases r2 with
  |cons c b=>cases b;exact⟨_,_,O,d,c⟩
theorem yK(hc:X.calm=M):e9 X (.builtin "max") (λxs H Q=>∃i j,xs=[.int i,.int j]/\Q (.int (if j>i then j else i)) H):=by
 intro ag s σ H xs b Q I r h;obtain⟨i,j,rfl,q⟩:=h;obtain⟨u,c,rfl,⟨t,rfl⟩,⟨d,rfl⟩⟩:=y4 r;refine max_two_ints (I.ok.hd hc) λh' tk k=>⟨_,H,I.kept k,?_,q⟩;by_cases a:j>i
 ·rw[ak a,ak a];exact⟨_,O⟩
 ·rw[aj a,aj a];exact⟨_,O⟩
theorem yJ(hc:X.calm=M):e9 X (.builtin "min") (λxs H Q=>∃i j,xs=[.int i,.int j]/\Q (.int (if j<i then j else i)) H):=by
 intro ag s σ H xs b Q I r h;obtain⟨i,j,rfl,q⟩:=h;obtain⟨u,c,rfl,⟨t,rfl⟩,⟨d,rfl⟩⟩:=y4 r;refine min_two_ints (I.ok.hd hc) λh' tk k=>⟨_,H,I.kept k,?_,q⟩;by_cases a:j<i
 ·rw[ak a,ak a];exact⟨_,O⟩
 ·rw[aj a,aj a];exact⟨_,O⟩
theorem ql:e9 X (.type "int") (λxs H Q=>(∃i,xs=[.int i]/\Q (.int i) H) \/ ∃k,xs=[.bl k]/\Q (.int (if k then 1 else 0)) H):=by
 intro ag s σ H xs b Q I r h;rcases h with⟨i,rfl,q⟩|⟨k,rfl,q⟩
 ·obtain⟨u,rfl,t,rfl⟩:=hA r;exact call_int_int ⟨.int i,H,I,⟨_,O⟩,q⟩
 ·obtain⟨u,rfl,a⟩:=hA r;cases a;exact call_int_bool ⟨.int (if k then 1 else 0),H,I.tok _,⟨_,O⟩,q⟩
end
end L2
namespace L2
open PySem PySem.Spec PyProof.Rows
structure Hj (h:dQ)(x dx C:dF)(mA:Str->Option dD):Prop where
 obj:h.get? x=some (PySem.W.instObj C dx)
 ns:h.Ns1 dx mA
 ne:dx≠x
theorem ya{h:dQ}{dx:dF}{mA:Str->Option dD}(n:h.Ns1 dx mA):∃c,h.get? dx=Z c /\ ∀name,PySem.W.lookIn name c=Z (mA name):=by
 obtain⟨o,es,ep,d,k,f,_,g⟩:=n;refine⟨o,d,λname=>?_⟩;have e:=g name;unfold nsFind findBy at e;rw[<- Array.find?_toList]at e;unfold PySem.W.lookIn;rw[k];dsimp only;split
 ·rename_i y q;rw[q]at e;exact congrArg Z e
 ·rename_i q;rw [q] at e;have a:es.toList.any (·.refKey)=false:=by
   rw[List.any_eq_false];intro y j;obtain⟨z,t,b⟩:=f y (aM.mp j);simp[DictEntry.refKey,b]
  have i:¬ es.toList.any (·.refKey)=M:=by rw[a];exact aK
  rw[aj i];exact congrArg Z e
theorem Hj.look{h:dQ}{x dx C:dF}{mA:Str->Option dD}(I:Hj h x dx C mA):∃a,PySem.W.InstAt h x (PySem.W.instObj C dx) C (Z a) /\ ∀name,PySem.W.lookIn name a=Z (mA name):=
 let ⟨a,ho,hl⟩:=ya I.ns
 ⟨a,⟨I.obj,O,O,ho⟩,hl⟩
section
variable{prog:dG}{w:dI}{A:dH}{E:dD->dE->Prop}{s:dE}{K:Fg1}{x dx C f:dF}{mA:Str->Option dD}{name:Str}{v:dD}
end
theorem me.some_of{v:V}{o:Option dD}(r:me (Z v) o):∃u,o=Z u/\d6 v u:=by
 cases o with
 |none=>exact(show False from r).elim
 |some u=>exact⟨u,O,r⟩
section
variable{P:dG}{w:dI}{H H':Hp}{h h':dQ}{a C dx:dF}{fs fs':List (Str×V)}
theorem Dt(b:kn P w H h)(e:H a=Z (.ins C dx fs)):∃mA,Hj h a dx C mA/\(∀f,me (fs.lookup f) (mA f))/\PySem.Within mA (fs.map (·.1))/\fs.length<=1000/\H dx=Z (.own a):=by
 obtain⟨d,z,ne,c,mA,n,r,q⟩:=(show eJ P w H h a (.ins C dx fs)from b a _ e);exact⟨mA,⟨c,n,ne⟩,r,q,z,d⟩
end
structure KF (K:Fg1)(C:dF):Prop where
 pg:PySem.W.plainGet K C Str.empty=true
 hd:PySem.W.hasDictIn K C=true
 po:PySem.W.plainOver K C=true
 sa:PySem.W.findIn K (.ref C) "__setattr__"=some (some (.builtin "object.__setattr__"))
theorem KF.get{K:Fg1}{C:dF}(c:KF K C)(f:Str):PySem.W.plainGet K C f=M:=c.pg
section
variable{X:Cx}{ag:List (dF×Obj)}{σ:St}{H:Hp}{s:dE}{a C dx:dF}{fs:List (Str×V)}{f:Str}{v:V}{A:dH}{E:dD->dE->Prop}
end
section
variable{X:Cx}{o e value:Expr}{f:Str}{pos pos' tpos:Pos}{ta tv:TE}
end
section
variable{X:Cx}{ag:List (dF×Obj)}{σ:St}{H:Hp}{s:dE}{A:dH}{E:dD->dE->Prop}{Q:dD->dE->Prop}{c:dD}{b:Bool}
inductive mW (K:Fg1)(H:Hp):V->dD->Prop where
 |non:mW K H .non (.type "NoneType")
 |bl (x:Bool):mW K H (.bl x) (.type "bool")
 |int (i:Int):mW K H (.int i) (.type "int")
 |str (x:Str):mW K H (.str x) (.type "str")
 |flt (x:UInt64):mW K H (.flt x) (.type "float")
 |lst {a:dF} {xs:List V} (e:H a=some (.lst xs)):mW K H (.ref a) (.type "list")
 |frz {a:dF} {o:Obj} {xs:List V} (e:H a=some (.frz o (.lst xs))):mW K H (.ref a) (.type "list")
 |tup {a:dF} {xs:List V} (e:H a=some (.tup xs)):mW K H (.ref a) (.type "tuple")
 |dK {a:dF} {kvs:List (Key×V)} (e:H a=some (.dK kvs)):mW K H (.ref a) (.type "dict")
 |dT {a:dF} {kvs:List (List Key×V)} (e:H a=some (.dT kvs)):mW K H (.ref a) (.type "dict")
 | ins {a C dx:dF} {fs:List (Str×V)} (e:H a=some (.ins C dx fs)) (cl:KF K C) (ha:PySem.W.findIn K (.ref C) "__class__"=some (some (.builtin "object.__class__")))
   (hn:PySem.W.specialIn K (.builtin "object.__class__") "__get__"=some (some (.builtin "getset_descriptor.__get__"))) (htk:PySem.W.takesIn K (.builtin "object.__class__")=some true)
   (hm:PySem.W.mroIn K C (.type "object")=some true):mW K H (.ref a) (.ref C)
theorem iA{x:V}{u t:dD}(I:Inv X ag σ H s)(f:d6 x u)(ty:mW X.K H x t)(e:PySem.W.kitOne X.K t c=some b)(h:∀ tk,Q (.bool b) {s with toks:=tk}):
  dN (model X.prog X.w) A (call (.builtin "isinstance") [u,c]) Q E s:=by
 cases ty with
 |non=>cases(show u=Value.none from f);exact PySem.W.kia_one PySem.W.kitx_none I.kIn True.intro e (λz=>nomatch z) h
 |bl y=>cases(show u=Value.bool y from f);exact PySem.W.kia_one PySem.W.kitx_bool I.kIn True.intro e (λz=>nomatch z) h
 |int i=>obtain⟨t,q⟩:=(show∃t,u=Value.int i t from f);cases q;exact PySem.W.kia_one PySem.W.kitx_int I.kIn True.intro e (λz=>nomatch z) h
 |str y=>obtain⟨t,q⟩:=(show∃t,u=Value.str y t from f);cases q;exact PySem.W.kia_one PySem.W.kitx_str I.kIn True.intro e (λz=>nomatch z) h
 |flt y=>obtain⟨t,q⟩:=(show∃t,u=Value.float y t from f);cases q;exact PySem.W.kia_one PySem.W.kitx_float I.kIn True.intro e (λz=>nomatch z) h
 | @lst a xs d=>
  cases(show u=Value.ref a from f);obtain⟨_,_,n,_,h1⟩:=(show eJ X.prog X.w H s.heap a (.lst xs)from I.hok a _ d);exact PySem.W.kia_one PySem.W.kitx_list I.kIn ⟨_,h1,O⟩ e (λz=>nomatch z) h
 | @frz a l xs d=>
  cases(show u=Value.ref a from f);obtain⟨_,_,_,n,_,h1⟩:=(show eJ X.prog X.w H s.heap a (.frz l (.lst xs))from I.hok a _ d);exact PySem.W.kia_one PySem.W.kitx_list I.kIn ⟨_,h1,O⟩ e (λz=>nomatch z) h
 | @tup a xs d=>
  cases(show u=Value.ref a from f);obtain⟨_,_,_,p⟩:=(show eJ X.prog X.w H s.heap a (.tup xs)from I.hok a _ d);obtain⟨o,h1,h2,_⟩:=p;exact PySem.W.kia_one PySem.W.kitx_tuple I.kIn ⟨o,h1,h2⟩ e (λz=>nomatch z) h
 | @dK a kvs d=>
  cases(show u=Value.ref a from f);obtain⟨_,_,vs,_,p⟩:=(show eJ X.prog X.w H s.heap a (.dK kvs)from I.hok a _ d);obtain⟨o,es,ep,h1,h2,_⟩:=p;exact PySem.W.kia_one PySem.W.kitx_dict I.kIn ⟨o,h1,h2.1⟩ e (λz=>nomatch z) h
 | @dT a kvs d=>
  cases(show u=Value.ref a from f);obtain⟨_,_,xs,_,o,es,ep,h1,h2,_⟩:=(show eJ X.prog X.w H s.heap a (.dT kvs)from I.hok a _ d);exact PySem.W.kia_one PySem.W.kitx_dict I.kIn ⟨o,h1,h2.1⟩ e (λz=>nomatch z) h
 | @ins a C dx fs d j k m g r=>
  cases(show u=Value.ref a from f);obtain⟨mA,au,_⟩:=Dt I.hok d;obtain⟨v,am,_⟩:=au.look;exact PySem.W.kia_one (PySem.W.kitx_own (j.get _) j.hd k m g r) I.kIn am e (λz=>nomatch z) h
end
end L2
namespace L2
open PySem PySem.Spec PyProof.Rows
structure fP (k:Nat)(A:dH):Prop where
 hd:A.handled=none
 dp:A.depth+3*k+5<recursionLimit
 un:A.units+16*k+200<cLine
 gd:A.guards=some []
theorem fP.mono{j k:Nat}{A:dH}(r:fP k A)(h:j<=k):fP j A:=⟨r.hd,by have:=r.dp;lia,by have:=r.un;lia,r.gd⟩
theorem fP.deeper{k:Nat}{A:dH}(r:fP (k+1) A)(env:Env):fP k (A.deeper env):=
 ⟨r.hd,by have:=r.dp;show A.depth+1+3*k+5<_;lia,by have:=r.un;show A.units+3+16*k+200<_;lia,r.gd⟩
theorem fP.depth{k:Nat}{A:dH}(r:fP k A):A.depth<recursionLimit:=by have:=r.dp;lia
theorem fP.units{k:Nat}{A:dH}(r:fP k A):A.units+64<cLine:=by have:=r.un;lia
noncomputable def JT:TA:=λ_ H Q=>Q [] H
noncomputable def HP(ta:TE)(tr:TA):TA:=fun σ H Q=>ta σ H λx H1=>tr σ H1 λxs H2=>Q (x::xs) H2
section
variable{X:Cx}{e:Expr}{es:List Expr}{te:TE}{t:TA}{pos:Pos}
theorem nW:PA X [] JT:=λ_ _ _ _ H Q I h=>Calls.spliced_nil ⟨[],H,I,.nil,h⟩
theorem jD(ha:PE X e te)(hr:PA X es t)(hs:dL (e::es) X.env=(J,eval e X.env)::dL es X.env:=by rfl):PA X (e::es) (HP te t):=by
 intro pos ag s σ H Q I h;rw[hs];show dN _ _ (spliced ((J,eval e X.env)::backTo pos (dL es X.env))) _ _ s;refine Calls.spliced_cons (fj (ha ag s σ H _ I h) λu g ⟨x,H1,b,a,c⟩=>?_);exact fj (hr pos ag g σ H1 _ b c) λi j ⟨xs,H2,d,r2,f⟩=>⟨x::xs,H2,d,.cons a r2,f⟩
noncomputable def JO(t:TA):TE:=fun σ H Q=>t σ H λxs H1=>xs.length<=dM /\ ∀p,H1 p=Y->Q (.ref p) (upd H1 p (.tup xs))
noncomputable def JW(t:TA):TE:=fun σ H Q=>t σ H λxs H1=>xs.length<=dM /\ ∀p,H1 p=Y->Q (.ref p) (upd H1 p (.lst xs))
theorem Fu{x1}(h:PA X es t):PE X (.Tuple es x1 pos) (JO t):=by
 intro ag s σ H Q I d;refine wpAny_Tuple_spliced (fj (h pos ag s σ H _ I d) λg a ⟨xs,H1,c,r,z,q⟩=>⟨by rw[<- r.length];exact z,?_⟩);have f:H1 a.heap.objs.size=Y:=c.hok.fresh (nR1 _);refine⟨.ref a.heap.objs.size,upd H1 a.heap.objs.size (.tup xs),c.laid (t':=a.toks) (λb u e=>hP1 _ e) (nR1 _) ?_,O,q _ f⟩;exact⟨z,g,r,⟨_,hS1 _ O,O,_,O⟩⟩
theorem FB(h:PA X es t):PE X (.List es pos) (JW t):=by
 intro ag s σ H Q I d;refine wpAny_List_spliced (fj (h pos ag s σ H _ I d) λg a ⟨xs,H1,c,r,z,q⟩=>⟨by rw[<- r.length];exact z,?_⟩);have f:H1 a.heap.objs.size=Y:=c.hok.fresh (nR1 _);refine⟨.ref a.heap.objs.size,upd H1 a.heap.objs.size (.lst xs),c.laid (t':=a.toks) (λb u e=>hP1 _ e) (nR1 _) ?_,O,q _ f⟩;exact⟨z,g,0,r,hS1 _ O⟩
end
abbrev Sp:=List V->Hp->VK->XK->Prop
abbrev yR:=List Env->Hp->dE->XK->dD->dE->Prop
structure D4 (P:dG)(w:dI)(K:Fg1)(mg:Str->Option dD)(base:dQ)(A:dH)(outer:List Env)(s:dE)(H:Hp):Prop where
 frames:A.frames=some outer
 mod:Mod K mg base
 bs:∀b o,base.get? b=some o->s.heap.get? b=some o/\H b=none
 bsz:base.objs.size<=s.heap.objs.size
 funs:s.heap.FunFrames base outer
 frf:∀b∈frs outer,H b=none
 hok:kn P w H s.heap
 bare:AllBare s.gens
def CE(outer:List Env)(P:dG)(w:dI)(H:Hp)(s:dE)(Q:VK)(u:dD)(s':dE):Prop:=
 ∃v H',s'.os=s.os/\AllBare s'.gens/\Un (frs outer) [] H H' s.heap s'.heap/\kn P w H' s'.heap/\d6 v u/\Q v H'
def CR(CX:yR)(outer:List Env)(P:dG)(w:dI)(H:Hp)(s:dE)(Q:VK)(E:XK)(r:Result)(s':dE):Prop:=
 match r with
 | .ok (.ret u)=>CE outer P w H s Q u s'
 | .ok _=>False
 | .error e=>CX outer H s E e s'
structure jR (P:dG)(w:dI)(K:Fg1)(mg:Str->Option dD)(base:dQ)(CX:yR)(k:Nat)(f:dF)(fd:dR)(ps:List Str)(sp:Sp):Prop where
 len:∀vs H Q E,sp vs H Q E->vs.length=ps.length
 run:∀(A:dH) (outer:List Env) (s:dE) (H:Hp) (args:Args) (us:List dD) (vs:List V) (Q:VK) (E:XK),fP k A->D4 P w K mg base A outer s H->BindsTo s fd args (ps.zip us)->ei vs us->sp vs H Q E ->
  dP (model P w) A (.call (.ref f) args) (CR CX outer P w H s Q E) s
theorem jR.imp{P:dG}{w:dI}{K:Fg1}{mg:Str->Option dD}{base:dQ}{CX:yR}{k:Nat}{f:dF}{fd:dR}{ps:List Str}{sp sp':Sp}(F:jR P w K mg base CX k f fd ps sp)(h:∀vs H Q E,sp' vs H Q E->sp vs H Q E):jR P w K mg base CX k f fd ps sp':=
 ⟨λvs H Q E q=>F.len vs H Q E (h _ _ _ _ q),λA a s H b i vs Q E d j c e g=>F.run A a s H b i vs Q E d j c e (h _ _ _ _ g)⟩
section
variable{X:Cx}{ag:List (dF×Obj)}{σ:St}{H:Hp}{s s':dE}
theorem Inv.env0(I:Inv X ag σ H s):D4 X.prog X.w X.K X.mg X.base X.A X.stack s H:=
 ⟨I.ok.frames,I.ok.mod,I.bs,aC I.ok.bsz I.sz,I.stack,I.stkFree,I.hok,I.bare⟩
theorem Inv.after{Q:VK}{u:dD}(I:Inv X ag σ H s)(h:CE X.stack X.prog X.w H s Q u s'):EP X ag σ Q u s':=by
 obtain⟨v,H',f,a,un,c,r,q⟩:=h;obtain⟨i,g,d,t,e⟩:=s';obtain rfl:e=s.os:=f;exact⟨v,H',I.call (h':=i) (g':=g) (d':=d) (t':=t) (ch:=[]) un c a (λb z=>absurd z (by simp)),r,q⟩
end
noncomputable def HQ(sp:Sp)(dvs:List V)(E:XK)(t:TA):TE:=fun σ H Q=>t σ H λvs H1=>sp (vs++dvs) H1 Q E
def lF(K:Fg1)(fd:dR)(ps:List Str)(ds:List dD):Prop:=
 ∀(s:dE) (us:List dD),K.In s.heap->(us++ds).length=ps.length->BindsTo s fd ⟨us,[]⟩ (ps.zip (us++ds))
theorem lF.all{K:Fg1}{fd:dR}{ps:List Str}(h:∀a:List dD,a.length=ps.length->bindArgs fd ⟨a,[]⟩=pure (ps.zip a)):lF K fd ps []:=λs a _ b=>by
 rw[aN]at b ⊢;exact .of_eq (h a b)
def vK(CX:yR)(X:Cx)(E:XK):Prop:=∀(ag:List (dF×Obj)) (σ:St) (H:Hp) (s:dE) (e:dD) (s':dE),Inv X ag σ H s->CX X.stack H s E e s'->X.xe e s'
section
variable{X:Cx}{CX:yR}{k:Nat}{f C:dF}{fd:dR}{ps:List Str}{sp:Sp}{dvs:List V}{ds:List dD}{E:XK}{x m:Str}{p pos apos:Pos}{e o:Expr}{es:List Expr}{ta:TE}{t:TA}
theorem E5{ag:List (dF×Obj)}{σ:St}{H:Hp}{s:dE}{Q:VK}{a:List dD}{vs:List V}(F:jR X.prog X.w X.K X.mg X.base CX k f fd ps sp)(hr:fP k X.A)(hb:lF X.K fd ps ds)(hd:ei dvs ds)(hx:vK CX X E)(I:Inv X ag σ H s)(r:ei vs a)(h:sp (vs++dvs) H Q E):dN (model X.prog X.w) X.A (call (.ref f) a) (EP X ag σ Q) X.xe s:=by
 have r2:ei (vs++dvs) (a++ds):=r.append hd;have c:(a++ds).length=ps.length:=by rw[<- r2.length];exact F.len _ _ _ _ h
 refine wpAny_call (codeAny_mono (F.run X.A X.stack s H ⟨a,[]⟩ (a++ds) (vs++dvs) Q E hr I.env0 (hb s a I.kIn c) r2 h) λr s' b=>?_);cases r with
 |error e=>exact hx ag σ H s e s' I b
 |ok d=>
  cases d with
  |ret u=>exact I.after b
  |next=>exact False.elim b
  |brk=>exact False.elim b
  |cont=>exact False.elim b
theorem CG (F:jR X.prog X.w X.K X.mg X.base CX k f fd ps sp)(hr:fP k X.A)(hg:Gl X x)(hm:X.mg x=some (.ref f))(hk:wK1 X.K (.ref f)=true)(hb:lF X.K fd ps ds)(hd:ei dvs ds)(hx:vK CX X E)
  (ha:PA X (e::es) t) (hdb:(x == ("__debug__":Str))=J:=by decide) (he:dL (e::es) X.env=(J,eval e X.env)::dL es X.env:=by rfl) (hpl:(backTo pos (dL es X.env)).any (·.1)=J:=by rfl):
  PE X (.Call (.Name x p) (e::es) [] pos) (HQ sp dvs E t):=by
 intro ag s σ H Q I h;refine wpAny_Call_Name_kw (wD I hg hm ?_ hdb);refine PySem.W.callWith_K (h₀:=X.base) I.ok.mod.kin hk (fj (ha pos ag s σ H _ I h) λb c ⟨vs,H1,a,r,q⟩=>⟨a.kIn,?_⟩) he hpl;exact E5 F hr hb hd hx a r q
end
section
variable{X:Cx}{CX:yR}{k:Nat}{f C:dF}{fd:dR}{ps ks:List Str}{sp:Sp}{E:XK}{x m:Str}{p pos apos kpos:Pos}{e o:Expr}{es:List Expr}{kws:List Keyword}{te ta:TE}{t tk:TA}{nm:Option Str}
variable{g:List dD->List dD->List dD}{gV:List V->List V->List V}
end
structure gy (N P:List Str)(sc:dU):Prop where
 kind:sc.kind = .function
 co:sc.isCoroutine=false
 gen:sc.isGenerator=false
 nd:N.Nodup
 pre:N.take P.length=P
 par:∀x∈P,sc.names.lookup x=some .local\/sc.names.lookup x=some .cell
 nofree:∀y∈sc.names,y.2 ≠ .free
theorem qm{kindOf:Str->Option NameKind}{x:Str}:∀{binds:List (Str×dD)} {m:Str->Option dD},(∀v,(x,v)∉binds)->bindL kindOf binds m x=m x
 |[],_,_=>rfl
 |(n,v)::r,m,h=>by
  unfold bindL;rw[qm λw a=>h w (mC1 _ a)];split
  ·have:x≠n:=by rintro rfl;exact h v mS1
   simp[this]
  ·rfl
theorem qp{kindOf:Str->Option NameKind}{x:Str}:∀{binds:List (Str×dD)} {m:Str->Option dD},(∀v,(x,v)∉binds)->bindC kindOf binds m x=m x
 |[],_,_=>rfl
 |(n,v)::r,m,h=>by
  unfold bindC;rw[qp λw a=>h w (mC1 _ a)];split
  ·rfl
  ·have:x≠n:=by rintro rfl;exact h v mS1
   simp[this]
theorem qo{kindOf:Str->Option NameKind}{x:Str}{v:dD}:∀ {P:List Str} {vs:List dD} {i:Nat} {m:Str->Option dD},P.Nodup->P[i]? = some x->vs[i]? = some v->kindOf x=some .local ->
  bindL kindOf (P.zip vs) m x=Z v
 |[],_,_,_,_,h,_,_=>by simp at h
 |_::_,[],_,_,_,_,h,_=>by simp at h
 |p::P,w::vs,0,m,nd,h1,h2,hk=>by
  simp at h1 h2;subst h1;subst h2;show bindL kindOf ((p,w)::P.zip vs) m p=_;unfold bindL;rw[qm λv a=>(aO.mp nd).1 (List.of_mem_zip a).1,ak hk];simp
 |p::P,w::vs,i+1,m,nd,h1,h2,hk=>by
  show bindL kindOf ((p,w)::P.zip vs) m x=_;unfold bindL;exact qo (i:=i) (aO.mp nd).2 (by simpa using h1) (by simpa using h2) hk
theorem qq{kindOf:Str->Option NameKind}{x:Str}{v:dD}:∀ {P:List Str} {vs:List dD} {i:Nat} {m:Str->Option dD},P.Nodup->P[i]? = some x->vs[i]? = some v->kindOf x≠some .local ->
  bindC kindOf (P.zip vs) m x=Z v
 |[],_,_,_,_,h,_,_=>by simp at h
 |_::_,[],_,_,_,_,h,_=>by simp at h
 |p::P,w::vs,0,m,nd,h1,h2,hk=>by
  simp at h1 h2;subst h1;subst h2;show bindC kindOf ((p,w)::P.zip vs) m p=_;unfold bindC;rw[qp λv a=>(aO.mp nd).1 (List.of_mem_zip a).1,aj hk];simp
 |p::P,w::vs,i+1,m,nd,h1,h2,hk=>by
  show bindC kindOf ((p,w)::P.zip vs) m x=_;unfold bindC;exact qq (i:=i) (aO.mp nd).2 (by simpa using h1) (by simpa using h2) hk
noncomputable def i5(N:List Str)(vs:List V):St:=vs.map Z++aP (N.length-vs.length) Y
noncomputable def mU(CX:yR)(P:dG)(w:dI)(K:Fg1)(mg:Str->Option dD)(base:dQ)(N:List Str)(qual:Str)(scope:dU)(f:dF)(cd:dD)(A:dH)(outer:List Env)(s:dE)(H:Hp)(E:XK):Cx where
 prog:=P
 w:=w
 K:=K
 mg:=mg
 base:=base
 A:=A.deeper (envOfC qual scope s.heap.objs.size f cd)
 N:=N
 s₀:=s
 H₀:=H
 env:=envOfC qual scope s.heap.objs.size f cd
 outer:=outer
 stack:=envOfC qual scope s.heap.objs.size f cd::outer
 ex:=[]
 calm:=M
 fn:=λ_=>M
 pn:=[]
 xe:=λe s'=>dN (model P w) (A.deeper (envOfC qual scope s.heap.objs.size f cd)) (leaving (envOfC qual scope s.heap.objs.size f cd) e) (λ_ s''=>CX outer H s E e s'') (λe' s''=>CX outer H s E e' s'') s'
theorem t8{a:dU}{n:Nat}{x:Str}(h:a.names.lookup x=Z .cell):∃c,(cellsFrom n a.names []).lookup x=Z c:=by
 have q:=PySem.W.cellsFrom_some a.names n [] (.inl h);exact aQ.mp q
theorem ye{CX:yR}{P:dG}{w:dI}{K:Fg1}{mg:Str->Option dD}{base:dQ}{N ps:List Str}{g:Str}{scope:dU}{f:dF}{B:dD}{A:dH}{d:List Env}{s s1:dE}{H:Hp}{E:XK}{C:List dD}{vs:List V}(S:gy N ps scope)(hd:A.handled=none)(j:D4 P w K mg base A d s H)(ao:vs.length=ps.length)(r:ei vs C)(x:InCallC s s.heap.objs.size (bindL (envOfC g scope s.heap.objs.size f B).kindOf (ps.zip C) fun _=>none) (cellsFrom (s.heap.objs.size+1) scope.names []) (bindC (envOfC g scope s.heap.objs.size f B).kindOf (ps.zip C) fun _=>none) s1):
  Inv (mU CX P w K mg base N g scope f B A d s H E) [] (i5 N vs) H s1:=by
 have I:ps.length<=N.length:=by have:=congrArg List.length S.pre;rw[aR]at this;lia
 obtain⟨h1,tk,rfl,F⟩:=x.done;have l:∀b:dF,b∉(mU CX P w K mg base N g scope f B A d s H E).ex:=λb z=>absurd (show b∈([]:List dF)from z) (by simp);refine⟨⟨j.mod,S.kind,O,O,nR1 _,λy z c h1 h2=>?_,λy m=>?_,λy c _ h=>?_,λ_=>hd,Around.frames_deeper j.frames,.inr ⟨O,O⟩,λb z=>absurd z (l b),j.bs,j.bsz,λb _ _=>l b,λb z=>absurd z (l b),j.funs,j.frf⟩,
  rfl,j.bare,Un.kept F,⟨_,x.toInCall.ns,λi y v h1 h2 L=>?_⟩,λy c h=>⟨_,x.cell y c h⟩,j.hok.fresh (nR1 _),λy c h=>?_,λp o=>absurd (show p∈([]:List (dF×Obj))from o) (by simp),j.hok.kept F,?_⟩
 ·exact name_of_addr x.apart (PySem.mem_of_lookup h1) (PySem.mem_of_lookup h2)
 ·have m:scope.names.lookup y=Z .cell\/scope.names.lookup y=Z .free:=m;rcases m with m|m
  ·exact t8 m
  ·exact absurd O (S.nofree _ (PySem.mem_of_lookup m))
 ·exact aD (x.above y c (PySem.mem_of_lookup h))
 ·have hi:i<vs.length:=by
   unfold i5 at h2;by_cases hi:i<vs.length
   ·exact hi
   ·rw[gR1 (by simpa using hi)]at h2;rw[aS]at h2;split at h2<;>cases h2
  have G:vs[i]?=Z v:=by
   unfold i5 at h2;rw[gL1 (by simpa using hi),gP1]at h2;cases e:vs[i]? with
   |none=>rw[e]at h2;cases h2
   |some a=>rw[e]at h2;cases h2;rfl
  obtain⟨u,D,am⟩:=r.get G;have o:ps[i]?=Z y:=by
   rw[<- S.pre,aT (by lia)];exact h1
  have t:ps.Nodup:=by rw[<- S.pre];exact S.nd.sublist (aU _ _)
  refine⟨u,am,?_⟩;rcases S.par y (gM1 o)with k|k
  ·exact .inl ⟨k,qo t o D k⟩
  ·obtain⟨c,e⟩:=t8 (n:=s.heap.objs.size+1) k;refine .inr ⟨.inl k,c,e,?_⟩;have q:=x.cell y c e;rw[qq t o D (by show scope.names.lookup y≠_;rw[k];decide)]at q;exact q
 ·exact j.hok.fresh (aD (x.above y c (PySem.mem_of_lookup h)))
 ·unfold i5;show _=N.length;rw[lA1,lM1,lR1];lia
theorem IT{CX:yR}{P:dG}{w:dI}{K:Fg1}{mg:Str->Option dD}{base:dQ}{k:Nat}{f:dF}{name c:Str}{params:Arguments}{g:List dS}{scope:dU}{ao kV B L d ct oc:dD}{R X:Option dF}{D:Array (Option dD)}{N ps:List Str}{sp:Sp}(lk:K.lookup f=some ⟨oc,X,.func (wF1 name c params g scope ao kV B L R d ct),D⟩)(hcd:wC1 K d c=true)(S:gy N ps scope)(len:∀vs H Q E,sp vs H Q E->vs.length=ps.length)(j:∀(A:dH) (a:List Env) (s:dE) (H:Hp) (vs:List V) (Q:VK) (E:XK),fP k (A.deeper (envOfC c scope s.heap.objs.size f d))->sp vs H Q E ->
   ∃t,uu (mU CX P w K mg base N c scope f d A a s H E) g t/\t {nx:=λ_ H'=>Q .non H',rt:=Q} (i5 N vs) H):
  jR P w K mg base CX (k+1) f (wF1 name c params g scope ao kV B L R d ct) ps sp:=by
 refine⟨len,λA a s H T U vs Q E C m W r p=>?_⟩;have aq:=len _ _ _ _ p;have au:K.In s.heap:=m.mod.kin.keeps λb o e=>(m.bs b o e).1;have F:s.heap.NoLimit:=m.mod.nolimit.keeps λb o e=>(m.bs b o e).1;have i:∀y∈ps.zip U,scope.names.lookup y.1=Z .local\/(scope.names.lookup y.1=Z .cell/\((cellsFrom (s.heap.objs.size+1) scope.names []).lookup y.1).isSome=M):=λ⟨n,v⟩ hy=>by
  rcases S.par n (List.of_mem_zip hy).1 with q|q
  ·exact .inl q
  ·exact .inr ⟨q,PySem.W.cellsFrom_some _ _ _ (.inl q)⟩
 refine codeAny_call_function C.depth (au _ _ lk) O S.co S.gen O (PySem.W.codeRec_of au hcd) (W _ _ _ _ ?_);refine wpAny_newFunctionEnv_cells S.kind i λwq he s1 x=>?_;subst he;refine⟨F.keeps x.toInCall.keep,codeAny_func ?_⟩;obtain⟨t,ht,hq⟩:=j A a s H vs Q E (C.deeper _) p;have I:Inv (mU CX P w K mg base N c scope f d A a s H E) [] (i5 N vs) H s1:=ye S C.hd m aq r x;refine wpAny_mono (ht [] s1 (i5 N vs) H _ I hq) (λfl s' l=>?_) λe s' l=>l;have z:∀{h:St} {H':Hp} {v:V} {u:dD},Inv (mU CX P w K mg base N c scope f d A a s H E) [] h H' s'->d6 v u->Q v H'->CE a P w H s Q u s':=
  λ{h H' v u} am G q=>⟨v,H',am.os,am.bare,am.base,am.hok,G,q⟩
 cases fl with
 |ret u=>
  obtain⟨v,h,H',am,G,q⟩:=l;exact z am G q
 |next=>
  obtain⟨h,H',am,q⟩:=l;exact z (v:=V.non) (u:=Value.none) am O q
 |brk=>
  obtain⟨_,_,_,q⟩:=l;exact False.elim q
 |cont=>
  obtain⟨_,_,_,q⟩:=l;exact False.elim q
end L2
namespace L2
open PySem PySem.Spec PyProof.Rows
section
variable{X:Cx}{x:Str}{p pos:Pos}{e:Expr}{es:List Expr}{t:TA}{id T:String}{r:List V->Hp->VK->Prop}
def KI(r:List V->Hp->VK->Prop)(t:TA):TE:=fun σ H Q=>t σ H λvs H1=>r vs H1 Q
theorem nU (hc:e9 X (.builtin id) r)(hg:Gl X x)(hm:X.mg x=none)(hv:bootBuiltins x=some (.builtin id))(ha:PA X (e::es) t)(hn:x≠"__name__":=by decide)(hdb:(x == ("__debug__":Str))=false:=by decide)
  (he:dL (e::es) X.env=(J,eval e X.env)::dL es X.env:=by rfl) (hpl:(backTo pos (dL es X.env)).any (·.1)=J:=by rfl):PE X (.Call (.Name x p) (e::es) [] pos) (KI r t):=by
 intro ag s σ H Q I h;refine wpAny_Call_Name_kw (kd I hg hm hv ?_ hn hdb);exact PyProof.Rows.callWith_builtin1 (fj (ha pos ag s σ H _ I h) λd f ⟨vs,H1,b,a,c⟩=>hc ag f σ H1 vs d Q b a c) he hpl
theorem lQ (hc:e9 X (.type T) r)(hg:Gl X x)(hm:X.mg x=none)(hv:bootBuiltins x=some (.type T))(ha:PA X (e::es) t)(hn:x≠"__name__":=by decide)(hdb:(x == ("__debug__":Str))=false:=by decide)
  (he:dL (e::es) X.env=(J,eval e X.env)::dL es X.env:=by rfl) (hpl:(backTo pos (dL es X.env)).any (·.1)=J:=by rfl):PE X (.Call (.Name x p) (e::es) [] pos) (KI r t):=by
 intro ag s σ H Q I h;refine wpAny_Call_Name_kw (kd I hg hm hv ?_ hn hdb);exact PyProof.Rows.callWith_type1 (fj (ha pos ag s σ H _ I h) λd f ⟨vs,H1,b,a,c⟩=>hc ag f σ H1 vs d Q b a c) he hpl
end
end L2
namespace HT
open PySem PyProof.Rows
section
open PySem.SeqAt
open PySem.AutoSeq1 (wpAny_loadPart')
open PySem.MeetsSeq PySem.MeetsSeq2 PySem.MeetsSeq3
end
section
variable{prog:dG}{w:dI}{A:dH}{E:dD->dE->Prop}{s:dE}
theorem DP {t b:dF}{vs ws:List dD}{Q:dD->dE->Prop}(ht:IsTup s.heap t vs.toArray)(hb:IsTup s.heap b ws.toArray)(hv:vs≠[])
  (h1:ws=[]->Q (.ref t) s) (h2:ws≠[]->Q (.ref s.heap.objs.size) {s with heap:=s.heap.push {cls:=.type "tuple",data:=.seq (vs++ws).toArray}})
  (hsz:vs.length+ws.length<=dM):dN (model prog w) A (binaryOp .Add (.ref t) (.ref b)) Q E s:=by
 obtain⟨⟨cls,l,data,m⟩,h,hc,n,o⟩:=id ht;obtain⟨⟨p,c,j,f⟩,a,d,k,g⟩:=id hb;simp only at hc o d g;subst hc o d g;have e:vs.toArray++ws.toArray=(vs++ws).toArray:=by simp
 by_cases i:ws=[]
 ·exact concat_meets ⟨_,h,rfl⟩ ⟨_,a,rfl⟩ noFill_tuple_add seq_tuple_add PySem.F.slot_tuple_add PySem.F.entry_tuple_add (PySem.F.args_tuple_add_2 _ _)
   (tuple_addW1 t b vs.toArray ws.toArray n k l c m f (by simpa using hv) (by simp[i])) ⟨h,a,h1 i⟩
 ·refine concat_meets ⟨_,h,rfl⟩ ⟨_,a,rfl⟩ noFill_tuple_add seq_tuple_add PySem.F.slot_tuple_add PySem.F.entry_tuple_add (PySem.F.args_tuple_add_2 _ _)
   (tuple_addW2 t b vs.toArray ws.toArray n k l c m f (by simpa using hv) (by simpa using i) (by rw[sT1,sT1];exact hsz)) ⟨h,a,?_⟩
  rw[e];exact h2 i
noncomputable def sIx(n d:Nat):Option Int->Nat
 |none=>d
 |some v=>if v<0 then(v+(n:Int)).toNat else min v.toNat n
theorem E3(n d:Nat)(hd:d<=n)(o:Option Int):sIx n d o<=n:=by
 cases o with
 |none=>exact hd
 |some v=>
  show(if v<0 then(v+(n:Int)).toNat else min v.toNat n)<=n;by_cases a:v<0
  ·rw[ak a];lia
  ·rw[aj a];exact Nat.min_le_right _ _
theorem w8(v:Int)(n d:Nat):(if v<0 then max (v+(n:Int)) 0 else min v (n:Int))=((sIx n d (Z v):Nat):Int):=by
 show(if v<0 then max (v+(n:Int)) 0 else min v (n:Int))=(((if v<0 then(v+(n:Int)).toNat else min v.toNat n):Nat):Int);by_cases a:v<0
 ·simp only[ak a];lia
 ·simp only[aj a];lia
theorem vF(lo hi:Option Int)(n:Nat):Builtin.Slice.sliceAdjust lo hi 1 (n:Int)=(((sIx n 0 lo:Nat):Int),((sIx n n hi:Nat):Int)):=by
 have h1:¬ ((1:Int)<0):=by lia
 unfold Builtin.Slice.sliceAdjust;simp only[h1,if_false];refine Prod.ext ?_ ?_
 ·cases lo with
  |none=>rfl
  |some v=>exact w8 v n 0
 ·cases hi with
  |none=>rfl
  |some v=>exact w8 v n n
theorem uS(i j:Nat):Builtin.Slice.slicePlaces (i:Int) (j:Int) 1=j-i:=by
 unfold Builtin.Slice.slicePlaces;have h1:(1:Int)>0:=by lia
 simp only[h1,if_true,Int.ediv_one];split<;>lia
theorem nE{v:dD}{o:Option Int}{Q:Option Int->dE->Prop}(p:IsPart v o)(h:Q o s):dN (model prog w) A (Builtin.Slice.slicePartIndex v) Q E s:=by
 cases p with
 |none=>exact slicePart_none h
 |int i t=>exact slicePart_int h
theorem iq{sl:dF}{c vu:dD}{lo hi:Option Int}{n:Nat}{Q:Int×Int×Nat->dE->Prop}(hs:s.heap.IsSliceOf sl c vu .none)(pl:IsPart c lo)(e:IsPart vu hi)(h:Q (((sIx n 0 lo:Nat):Int),1,sIx n n hi-sIx n 0 lo) s):dN (model prog w) A (Builtin.Slice.sliceApplied (.ref sl) (pure (n:Int))) Q E s:=by
 obtain⟨f,a,d,b⟩:=id hs;unfold Builtin.Slice.sliceApplied Builtin.Slice.sliceFields;refine wB1 (wB1 (wpAny_field a b (x:=c) O (wB1 (wpAny_field a b (x:=vu) O (wB1 (wpAny_field a b (x:=.none) O (wP1 ?_)))))));refine wB1 (slicePart_none ?_);show dN _ _ (if((1:Int) == 0)=M then _ else _) _ _ s;rw[aj (by decide)];refine wB1 (nE pl (wB1 (nE e (wB1 (wP1 ?_)))));show dN _ _ (match Builtin.Slice.sliceAdjust lo hi 1 (n:Int)with|(lo,hi)=>pure (lo,(1:Int),Builtin.Slice.slicePlaces lo hi 1)) _ _ s;rw[vF lo hi n];show dN _ _ (pure (((sIx n 0 lo:Nat):Int),(1:Int),Builtin.Slice.slicePlaces ((sIx n 0 lo:Nat):Int) ((sIx n n hi:Nat):Int) 1)) _ _ s;rw[uS];exact wP1 h
theorem zO(xs:Array dD)(i k:Nat):((af k).filterMap λ(m:Nat)=>xs[((i:Int)+(m:Int)*1).toNat]?).toArray=((xs.toList.drop i).take k).toArray:=by
 have e:(λ(m:Nat)=>xs[((i:Int)+(m:Int)*1).toNat]?)=λm=>xs[i+m]?:=by
  funext m
  have:((i:Int)+(m:Int)*1).toNat=i+m:=by lia
  rw[this]
 rw[e];have:=pick_run xs i k;rw[List.filterMap_map]at this;have a:((λx=>xs[x]?)∘λx=>i+x)=λm=>xs[i+m]?:=rfl;rw[a]at this;rw[this]
theorem lf {t sl:dF}{items:Array dD}{f vu:dD}{lo hi:Option Int}{Q:dD->dE->Prop}(ht:IsTup s.heap t items)(hs:s.heap.IsSliceOf sl f vu .none)(pl:IsPart f lo)(i:IsPart vu hi)
  (hw:¬ (sIx items.size 0 lo=0/\sIx items.size items.size hi=items.size))
  (h:Q (.ref s.heap.objs.size) {s with heap:=s.heap.push {cls:=.type "tuple",data:=.seq ((items.toList.drop (sIx items.size 0 lo)).take (sIx items.size items.size hi-sIx items.size 0 lo)).toArray}})
  (hsz:items.size<=dM):dN (model prog w) A (getItem (.ref t) (.ref sl)) Q E s:=by
 have a:sizeOk (.seq ((items.toList.drop (sIx items.size 0 lo)).take (sIx items.size items.size hi-sIx items.size 0 lo)).toArray):=by
  show((items.toList.drop (sIx items.size 0 lo)).take (sIx items.size items.size hi-sIx items.size 0 lo)).toArray.size<=dM;rw[sT1,aR,aV,aJ];omega
 have n:sIx items.size items.size hi<=items.size:=E3 _ _ (nR1 _) hi;obtain⟨g,d,b,j⟩:=id hs;have e:s.TypeIs (.ref sl) "slice":=⟨g,d,b⟩;unfold getItem
 try with_reducible refine wpAny_holding ?_
 first|refine wB1 (wP1 ?_)|skip
 refine wB1 (wpAny_sequenceKey ht.typeIs (by decide) ?_);refine wB1 (wpAny_callSpecial?_slot (name:=Str.ofString "__getitem__") ht.typeIs PyProof.Rows.slot_tuple_getitem
  (wE1 PyProof.Rows.slot_tuple_getitem ht.typeIs entry_tuple_getitem ?_ (args_tuple_getitem _ _)))
 show dN _ _ (Builtin.Tuple.tupleItemsOf (.ref t) >>= _) _ _ s;refine wB1 (tupleItemsOf_ ht ?_);refine wB1 (wpAny_typeOf e ?_);rw[ak (by decide)];refine wB1 (iq hs pl i ?_);have c:¬ ((((sIx items.size 0 lo:Nat):Int) == 0&&(1:Int) == 1&&(sIx items.size items.size hi-sIx items.size 0 lo) == items.size)=M):=by
  intro q;rw[bA1,bA1]at q;have k:((sIx items.size 0 lo:Nat):Int)=0:=eq_of_beq q.1.1;have l:sIx items.size items.size hi-sIx items.size 0 lo=items.size:=eq_of_beq q.2;exact hw ⟨by omega,by omega⟩
 show dN _ _ (if(((sIx items.size 0 lo:Nat):Int) == 0&&(1:Int) == 1&&(sIx items.size items.size hi-sIx items.size 0 lo) == items.size)=M then _ else _) _ _ s;rw[aj c,zO]
 first
  |exact wB1 (m:=Builtin.Tuple.tupleExact _) (wO1 (wP1 ⟨_,rfl,wP1 h⟩) a)
  |exact wB1 (m:=Builtin.Tuple.tupleExact _) (wO1 (wB1 (wP1 (wP1 ⟨_,rfl,wP1 h⟩))) a)
  |exact wB1 (wB1 (m:=Builtin.Tuple.tupleExact _) (wO1 (wP1 (wP1 ⟨_,rfl,wP1 h⟩)) a))
  |exact wB1 (wB1 (m:=Builtin.Tuple.tupleExact _) (wO1 (wP1 ⟨_,rfl,wP1 h⟩) a))
end
end HT
namespace L2
open PySem PySem.Spec PyProof.Rows
abbrev TO:=St->Hp->(Option Int->Hp->Prop)->Prop
def PO(X:Cx)(e:Option Expr)(t:TO):Prop:=
 ∀(ag:List (dF×Obj)) (s:dE) (σ:St) (H:Hp) (Q:Option Int->Hp->Prop),Inv X ag σ H s->t σ H Q ->
  dN (model X.prog X.w) X.A (evalPart e X.env) (λu s'=>∃o H',Inv X ag σ H' s'/\IsPart u o/\Q o H') X.xe s
noncomputable def B9:TO:=λ_ H Q=>Q Y H
noncomputable def HG(t:TE):TO:=fun σ H Q=>t σ H λx H1=>∃i,x = .int i/\Q (Z i) H1
section
variable{X:Cx}{e:Expr}{te:TE}{lo hi:Option Expr}{tl th:TO}{pos p2:Pos}
theorem Cy:PO X Y B9:=by
 intro ag s σ H Q I h;rw[evalPart_none];exact wP1 ⟨Y,H,I,.none,h⟩
theorem Cw(h:PE X e te):PO X (Z e) (HG te):=by
 intro ag s σ H Q I b;rw[evalPart_some];refine fj (h ag s σ H _ I b) λu f ⟨x,H1,c,a,d⟩=>?_;obtain⟨i,rfl,q⟩:=d;obtain⟨t,rfl⟩:=a;exact⟨Z i,H1,c,.int i t,q⟩
def BQ(X:Cx)(r:V->Option Int->Option Int->Hp->VK->Prop):Prop:=
 ∀(ag:List (dF×Obj)) (s:dE) (σ:St) (H:Hp) (x:V) (v vl vu:dD) (lo hi:Option Int) (sl:dF) (Q:VK),Inv X ag σ H s->d6 x v->s.heap.IsSliceOf sl vl vu .none->IsPart vl lo->IsPart vu hi->r x lo hi H Q ->
  ∃T id,typeLookup (.type T) "__getitem__"=pure (Z (.builtin id))/\s.TypeIs v T/\dN (model X.prog X.w) X.A (getItem v (.ref sl)) (EP X ag σ Q) X.xe s
theorem BQ.or{r f:V->Option Int->Option Int->Hp->VK->Prop}(h:BQ X r)(h':BQ X f):BQ X (λx lo hi H Q=>r x lo hi H Q\/f x lo hi H Q):=by
 intro ag s σ H x v a vu lo hi d Q I e b pl c q;rcases q with q|q
 ·exact h ag s σ H x v a vu lo hi d Q I e b pl c q
 ·exact h' ag s σ H x v a vu lo hi d Q I e b pl c q
def K7(r:V->Option Int->Option Int->Hp->VK->Prop)(te:TE)(tl th:TO):TE:=fun σ H Q=>te σ H λx H1=>tl σ H1 λl H2=>th σ H2 λu H3=>r x l u H3 Q
theorem zR{r:V->Option Int->Option Int->Hp->VK->Prop}(hr:BQ X r)(he:PE X e te)(p:PO X lo tl)(w:PO X hi th):PE X (.Subscript e (.Slice lo hi Y p2) pos) (K7 r te tl th):=by
 intro ag s σ H Q I h;refine Subscript_ (fj (he ag s σ H _ I h) λv B ⟨x,H1,i,k,z⟩=>?_);refine wpAny_Slice (fj (p ag B σ H1 _ i z) λc o ⟨l,H2,m,pl,n⟩=>fj (w ag o σ H2 _ m n) λvu a ⟨u,d,g,t,C⟩=>?_);rw[evalPart_none];refine wP1 ?_;have j:Inv X ag σ d {a with heap:=a.heap.push {cls:=.type "slice",data:=.fields #[c,vu,.none]}}:=g.kept (t':=a.toks) λb D q=>hP1 _ q;obtain⟨T,id,A,y,f⟩:=hr ag {a with heap:=a.heap.push {cls:=.type "slice",data:=.fields #[c,vu,.none]}} σ d x v c vu l u a.heap.objs.size Q j k (Heap.IsSliceOf.new ..) pl t C;show dN (model X.prog X.w) X.A (subscriptTail e (.Slice lo hi Y p2) v (.ref a.heap.objs.size)) (EP X ag σ Q) X.xe {a with heap:=a.heap.push {cls:=.type "slice",data:=.fields #[c,vu,.none]}};exact tail_any (ops:=[.ref a.heap.objs.size,v]) y A f (by with_unfolding_all rfl)
noncomputable def t0(xs:List V)(lo hi:Option Int):List V:=(xs.drop (HT.sIx xs.length 0 lo)).take (HT.sIx xs.length xs.length hi-HT.sIx xs.length 0 lo)
theorem mG(xs:List V)(lo hi:Option Int):(t0 xs lo hi).length<=xs.length:=by
 unfold t0;rw[aR,aV];lia
def Kb(K:Fg1):V->Option Int->Option Int->Hp->VK->Prop:=λx lo hi H Q=>∃a xs,x = .ref a/\j6 K H a xs /\
 ¬ (HT.sIx xs.length 0 lo=0/\HT.sIx xs.length xs.length hi=xs.length) /\ ∀p,H p=Y->Q (.ref p) (upd H p (.tup (t0 xs lo hi)))
theorem EX:BQ X (Kb X.K):=by
 intro ag s σ H x v m vu lo hi p Q I k i pl j h;obtain⟨a,xs,rfl,l,g,q⟩:=h;cases k;obtain⟨d,r,f,e⟩:=I.tuple l;have c:d.toArray.size=xs.length:=by rw[sT1];exact r.length.symm
 refine⟨"tuple",_,PyProof.Rows.slot_tuple_getitem.lookup,f.typeIs,?_⟩;refine HT.lf f i pl j (by rw[c];exact g) ?_ (by rw[c];exact e);rw[c];refine⟨.ref s.heap.objs.size,_,I.laid (t':=s.toks) (o:=.tup (t0 xs lo hi)) (λb n q=>hP1 _ q) (nR1 _) ?_,O,q _ (I.hok.fresh (nR1 _))⟩;exact⟨aC (mG xs lo hi) e,_,(r.drop (HT.sIx xs.length 0 lo)).take (HT.sIx xs.length xs.length hi-HT.sIx xs.length 0 lo),IsTup.new _ _⟩
noncomputable def H0(K:Fg1):R2:=λx y H Q=>∃a b xs ys,x = .ref a/\y = .ref b/\j6 K H a xs/\j6 K H b ys/\xs≠[]/\xs.length+ys.length<=dM /\
 (ys=[]->Q (.ref a) H)/\(ys≠[] -> ∀p,H p=Y->Q (.ref p) (upd H p (.tup (xs++ys))))
theorem ei.nil_iff{xs:List V}{a:List dD}(r:ei xs a):a=[]↔xs=[]:=by
 cases r with
 |nil=>simp
 |cons _ _=>simp
theorem CL:fX X (binaryOp .Add) (H0 X.K):=by
 intro ag s σ H x y v u Q I n i h;obtain⟨a,b,xs,ys,rfl,rfl,f,g,p,d,l,m⟩:=h;cases n;cases i;obtain⟨k,c,j,_⟩:=I.tuple f;obtain⟨e,r2,p2,_⟩:=I.tuple g;refine HT.DP j p2 (λz=>p (c.nil_iff.mp z)) (λz=>⟨.ref a,H,I,O,l (r2.nil_iff.mp z)⟩) (λz=>?_) (by rw[<- c.length,<- r2.length];exact d);refine⟨.ref s.heap.objs.size,_,I.laid (t':=s.toks) (o:=.tup (xs++ys)) (λb r q=>hP1 _ q) (nR1 _) ?_,O,m (λw=>z (r2.nil_iff.mpr w)) _ (I.hok.fresh (nR1 _))⟩;exact⟨by rw[lA1];exact d,_,c.append r2,IsTup.new _ _⟩
end
end L2
namespace L2
open PySem PySem.Spec PyProof.Rows
noncomputable def yd(n:Nat)(i:Int):Option Nat:=if 0<=i then(if i<n then Z i.toNat else Y)else if-(n:Int)<=i then Z (i+n).toNat else Y
noncomputable def vE{α:Type}(xs:List α)(i:Int):Option α:=(yd xs.length i).bind λj=>xs[j]?
theorem rG{n:Nat}{i:Int}{j:Nat}(h:yd n i=Z j):seqIndex? i n=Z j/\j<n /\ -(n:Int)<=i/\i<n:=by
 unfold yd at h;by_cases a:0<=i
 ·rw[ak a]at h;by_cases h1:i<n
  ·rw[ak h1]at h;have e:i.toNat=j:=Option.some.inj h;exact⟨by rw[seqIndex_of a h1,e],by lia,by lia,h1⟩
  ·rw[aj h1]at h;cases h
 ·rw[aj a]at h;by_cases h1: -(n:Int)<=i
  ·rw[ak h1]at h;have e:(i+n).toNat=j:=Option.some.inj h;exact⟨by rw[seqIndex_neg (by lia) h1,e],by lia,h1,by lia⟩
  ·rw[aj h1]at h;cases h
theorem xi{α:Type}{xs:List α}{i:Int}{v:α}(h:vE xs i=Z v):∃j,seqIndex? i xs.length=Z j/\xs[j]?=Z v/\j<xs.length /\ -(xs.length:Int)<=i/\i<xs.length:=by
 unfold vE at h;cases e:yd xs.length i with
 |none=>rw[e]at h;cases h
 |some j=>
  rw[e]at h;obtain⟨h1,h2,b,a⟩:=rG e;exact⟨j,h1,h,h2,b,a⟩
def nl(b:Expr):Prop:=∀o i,subscripted b J o i=operate [o,i] (getItem o i)
def Ex(X:Cx)(r:R2):Prop:=
 ∀(value slice:Expr) (ag:List (dF×Obj)) (s:dE) (σ:St) (H:Hp) (x y:V) (v u:dD) (Q:VK),Inv X ag σ H s->d6 x v->d6 y u->r x y H Q ->
  subscripted slice J v u=operate [v,u] (getItem v u)->dN (model X.prog X.w) X.A (subscriptTail value slice v u) (EP X ag σ Q) X.xe s
def Eu(X:Cx)(id:String)(r:V->List V->Hp->VK->Prop):Prop:=
 ∀(ag:List (dF×Obj)) (s:dE) (σ:St) (H:Hp) (x:V) (xs:List V) (v:dD) (us:List dD) (Q:VK),Inv X ag σ H s->d6 x v->ei xs us->r x xs H Q ->
  dN (model X.prog X.w) X.A (call (.builtin id) (v::us)) (EP X ag σ Q) X.xe s
section
variable{X:Cx}{a b:Expr}{ta tb:TE}{pos:Pos}
theorem Ie{r:R2}(hr:Ex X r)(ha:PE X a ta)(hb:PE X b tb)(hs:nl b):PE X (.Subscript a b pos) (HH r ta tb):=by
 intro ag s σ H Q I h;exact Subscript_ (G5 ha hb I h λv u f x y H2 d c e q=>hr a b ag f σ H2 x y v u Q d c e q (hs _ _))
noncomputable def Ke(K:Fg1):R2:=λx y H Q=>∃p xs i v,x = .ref p/\y = .int i/\mX K H p xs/\vE xs i=Z v/\Q v H
noncomputable def Kd(K:Fg1):R2:=λx y H Q=>∃p xs i v,x = .ref p/\y = .int i/\j6 K H p xs/\vE xs i=Z v/\Q v H
theorem Dn:Ex X (Ke X.K):=by
 intro value e ag s σ H x y v u Q I C l h g;obtain⟨p,xs,i,z,rfl,rfl,m,A,q⟩:=h;cases C;obtain⟨t,rfl⟩:=l;obtain⟨b,r,pl,D⟩:=I.list m;obtain⟨j,h1,h2,F,o,n⟩:=xi A;obtain⟨w,k,c⟩:=r.get h2;have B:=r.length;have E:=lX;have a:EP X ag σ Q w s:=⟨z,H,I,c,q⟩;by_cases f:0<=i
 ·have d:i.toNat=j:=by
   rw[seqIndex_of f n]at h1;exact Option.some.inj h1
  exact item_listR pl.isList f (by lia) (by rw[d];simpa using k) a g
 ·have d:(i+(b.toArray.size:Int)).toNat=j:=by
   rw[seqIndex_neg (by lia) o]at h1;rw[sT1,<- B];exact Option.some.inj h1
  exact subscriptTail_builtinR (x:=w) pl.isList.typeIs slot_list_getitem.lookup
   (wpAny_getItem_list_neg (Q:=λr s'=>r=w/\EP X ag σ Q r s') pl.isList (by lia) (by rw[sT1]<;>lia) (by lia) (by rw[d];simpa using k) ⟨O,a⟩) g
theorem GM:Ex X (Kd X.K):=by
 intro value c ag s σ H x y v u Q I n d h g;obtain⟨p,xs,i,z,rfl,rfl,f,l,q⟩:=h;cases n;obtain⟨t,rfl⟩:=d;obtain⟨e,r,pl,o⟩:=I.tuple f;obtain⟨j,h1,h2,B,D,C⟩:=xi l;obtain⟨w,k,a⟩:=r.get h2;have m:=r.length;have A:=lX;have b:EP X ag σ Q w s:=⟨z,H,I,a,q⟩;exact subscriptTail_builtinR (x:=w) pl.typeIs slot_tuple_getitem.lookup
  (getItem_tuple (j:=j) (Q:=λr s'=>r=w/\EP X ag σ Q r s') pl (by lia) (by lia) (by rw[sT1,<- m];exact h1) (by simpa using k) ⟨O,b⟩) g
theorem u9(its:List dD)(n j:Nat)(u:dD):Obj.mapSeq (·.setIfInBounds j u) {cls:=.type "list",data:=.seq its.toArray n}={cls:=.type "list",data:=.seq (its.set j u).toArray n}:=by
 simp[Obj.mapSeq]
theorem Inv.lst{ag:List (dF×Obj)}{σ:St}{H:Hp}{s:dE}{p:dF}{xs:List V}(I:Inv X ag σ H s)(h:H p=some (.lst xs)):
  ∃(its:List dD) (n:Nat),ei xs its/\s.heap.get? p=Z {cls:=.type "list",data:=.seq its.toArray n}/\xs.length<=dM:=by
 obtain⟨z,its,n,r,e⟩:=I.hok p _ h;exact⟨its,n,r,e,z⟩
theorem Inv.lstUpd {ag:List (dF×Obj)}{σ:St}{H:Hp}{s:dE}{p:dF}{xs ys:List V}{its its':List dD}{n a:Nat}{f:Obj->Obj}(I:Inv X ag σ H s)(h:H p=some (.lst xs))
  (ho:s.heap.get? p=Z {cls:=.type "list",data:=.seq its.toArray n}) (hf:f {cls:=.type "list",data:=.seq its.toArray n}={cls:=.type "list",data:=.seq its'.toArray a}) (r:ei ys its') (hz:ys.length<=dM) (t:Nat):
  Inv X ag σ (upd H p (.lst ys)) {s with heap:=s.heap.update p f,toks:=t}:=by
 have e:(s.heap.update p f).get? p=Z {cls:=.type "list",data:=.seq its'.toArray a}:=by
  rw[hW1 f ho (by rw[hf]<;>rfl),hf]
 refine I.write (x:=p) (e:=p) (by rw[h];trivial) (.inl O) (λb u c q=>(Heap.get?_update_other _ _ (Ne.symm c)).trans q) ⟨_,e⟩ ?_;exact⟨hz,its',a,r,e⟩
def HZ:V->V->V->Hp->(Hp->Prop)->Prop:=λo i v H Q=>∃p xs k j,o = .ref p/\i = .int k/\H p=Z (.lst xs)/\yd xs.length k=Z j/\Q (upd H p (.lst (xs.set j v)))
theorem zu:vL X HZ:=by
 intro ag s σ H o i v C B u Q I x A z h;obtain⟨p,xs,k,j,rfl,rfl,e,y,q⟩:=h;cases x;obtain⟨t,rfl⟩:=A;obtain⟨a,n,r,b,w⟩:=I.lst e;obtain⟨h1,h2,f,l⟩:=rG y;have c:=r.length;have D:=lX;have m:Inv X ag σ (upd H p (.lst (xs.set j v))) {s with heap:=s.heap.update p (Obj.mapSeq (·.setIfInBounds j u))}:=
  I.lstUpd e b (u9 a n j u) (r.set z j) (by rw[aW];exact w) s.toks
 by_cases g:0<=k
 ·have d:k.toNat=j:=by
   rw[seqIndex_of g l]at h1;exact Option.some.inj h1
  exact PySem.W.ki_setAt b g (by lia) (by rw[sT1,<- c];exact l) (by rw[d];exact⟨_,m,q⟩)
 ·have d:(k+(a.toArray.size:Int)).toNat=j:=by
   rw[seqIndex_neg (by lia) f]at h1;rw[sT1,<- c];exact Option.some.inj h1
  exact PySem.W.ki_setBack b (by lia) (by rw[sT1,<- c];exact f) (by lia) (by rw[d];exact⟨_,m,q⟩)
theorem q0(lo hi:Option Int)(n:Nat):(sliceBounds lo hi Y n).1=((HT.sIx n 0 lo:Nat):Int)/\(sliceBounds lo hi Y n).2.1=((HT.sIx n n hi:Nat):Int)/\(sliceBounds lo hi Y n).2.2=1:=by
 refine⟨?_,?_,O⟩
 ·cases lo with
  |none=>simp[sliceBounds,HT.sIx]
  |some i=>
   simp only[sliceBounds,HT.sIx,Option.getD_none,show(1:Int)>0 by decide,if_true];by_cases h:i<0
   ·simp only[h,if_true]<;>lia
   ·simp only[h,if_false]<;>lia
 ·cases hi with
  |none=>simp[sliceBounds,HT.sIx]
  |some i=>
   simp only[sliceBounds,HT.sIx,Option.getD_none,show(1:Int)>0 by decide,if_true];by_cases h:i<0
   ·simp only[h,if_true]<;>lia
   ·simp only[h,if_false]<;>lia
theorem oQ(its:List dD)(lo hi:Option Int):slicePick its.toArray lo hi Y=((its.drop (HT.sIx its.length 0 lo)).take (HT.sIx its.length its.length hi-HT.sIx its.length 0 lo)).toArray:=by
 obtain⟨h1,h2,a⟩:=q0 lo hi its.toArray.size;unfold slicePick;rw[h1,h2,a];simp only[sliceRange_one,pick_run,sT1]<;>rfl
def Kc(K:Fg1):V->Option Int->Option Int->Hp->VK->Prop:=λx lo hi H Q=>∃a xs,x = .ref a/\mX K H a xs /\ ∀p,H p=Y->Q (.ref p) (upd H p (.lst (t0 xs lo hi)))
theorem Ce:BQ X (Kc X.K):=by
 intro ag s σ H x v l vu lo hi n Q I j g pl i h;obtain⟨a,xs,rfl,k,q⟩:=h;cases j;obtain⟨f,r,d,e⟩:=I.list k;have c:=r.length;refine⟨"list",_,slot_list_getitem.lookup,d.isList.typeIs,?_⟩;refine wpAny_getItem_list_slice d.isList g pl i .none (by simp) ?_ (by rw[sT1]<;>lia);rw[oQ,<- c];refine⟨.ref s.heap.objs.size,_,I.laid (t':=s.toks) (o:=.lst (t0 xs lo hi)) (λb m q=>hP1 _ q) (nR1 _) ?_,O,q _ (I.hok.fresh (nR1 _))⟩;exact⟨aC (mG xs lo hi) e,_,0,(r.drop (HT.sIx xs.length 0 lo)).take (HT.sIx xs.length xs.length hi-HT.sIx xs.length 0 lo),hS1 _ O⟩
noncomputable def jZ:V->Bool
 | .non=>M
 | .bl _=>M
 | .int _=>M
 | .str _=>M
 |_=>J
noncomputable def uq:V->V->Bool
 | .non,.non=>M
 | .bl a,.bl b=>a == b
 | .bl a,.int b=>(if a then 1 else 0) == b
 | .int a,.bl b=>a == (if b then 1 else 0)
 | .int a,.int b=>a == b
 | .str a,.str b=>a == b
 |_,_=>J
theorem kf{A:dH}{s:dE}{y x:V}{u v:dD}(f:d6 y u)(c:d6 x v)(g:jZ y=M)(e:jZ x=M):SeqAt.EqAt A s u v (uq y x):=by
 cases y with
 |non=>
  cases f;cases x with
  |non=>cases c;exact SeqAt.EqAt.same _
  |bl b=>cases c;exact SeqAt.EqAt.none_bool b
  |int b=>obtain⟨t,rfl⟩:=c;exact SeqAt.EqAt.none_int b t
  |str b=>obtain⟨t,rfl⟩:=c;exact SeqAt.EqAt.none_str b t
  |_=>exact absurd (show J=M from e) aK
 |bl a=>
  cases f;cases x with
  |non=>cases c;exact SeqAt.EqAt.bool_none a
  |bl b=>cases c;exact SeqAt.EqAt.bool_bool a b
  |int b=>obtain⟨t,rfl⟩:=c;exact SeqAt.EqAt.bool_int a b t
  |str b=>obtain⟨t,rfl⟩:=c;exact SeqAt.EqAt.bool_str a b t
  |_=>exact absurd (show J=M from e) aK
 |int a=>
  obtain⟨d,rfl⟩:=f;cases x with
  |non=>cases c;exact SeqAt.EqAt.int_none a d
  |bl b=>cases c;exact SeqAt.EqAt.int_bool a d b
  |int b=>obtain⟨t,rfl⟩:=c;exact SeqAt.EqAt.int_int a d b t
  |str b=>obtain⟨t,rfl⟩:=c;exact SeqAt.EqAt.int_str a d b t
  |_=>exact absurd (show J=M from e) aK
 |str a=>
  obtain⟨d,rfl⟩:=f;cases x with
  |non=>cases c;exact SeqAt.EqAt.str_none a d
  |bl b=>cases c;exact SeqAt.EqAt.str_bool a d b
  |int b=>obtain⟨t,rfl⟩:=c;exact SeqAt.EqAt.str_int a d b t
  |str b=>obtain⟨t,rfl⟩:=c;exact SeqAt.EqAt.str_str a d b t
  |_=>exact absurd (show J=M from e) aK
 |_=>exact absurd (show J=M from g) aK
theorem rX:e9 X (.builtin "len") (λxs H Q=>∃p ys,xs=[.ref p]/\(mX X.K H p ys\/j6 X.K H p ys)/\Q (.int ys.length) H):=by
 intro ag s σ H xs i Q I r h;obtain⟨p,ys,rfl,b,q⟩:=h;obtain⟨u,rfl,f⟩:=hA r;cases f;have g:=lX;rcases b with b|b
 ·obtain⟨c,d,pl,e⟩:=I.list b;have a:=d.length;exact Calls.call_len_list pl.isList (by simp only[sT1]<;>lia) ⟨.int ys.length,H,I.tok _,⟨s.toks+1,by rw[sT1,a]⟩,q⟩
 ·obtain⟨c,d,pl,e⟩:=I.tuple b;have a:=d.length;exact len_tuple pl (by simp only[sT1]<;>lia) ⟨.int ys.length,H,I.tok _,⟨s.toks+1,by rw[sT1,a]⟩,q⟩
theorem rW:e9 X (.builtin "len") (λxs H Q=>∃z,xs=[.str z]/\z.length<=dM/\Q (.int z.length) H):=by
 intro ag s σ H xs b Q I r h;obtain⟨z,rfl,a,q⟩:=h;obtain⟨u,rfl,t,rfl⟩:=hA r;have c:=lX;exact len_str (by lia) ⟨.int z.length,H,I.tok _,⟨_,O⟩,q⟩
theorem rV:e9 X (.type "list") (λxs H Q=>∃p ys,xs=[.ref p]/\(mX X.K H p ys\/j6 X.K H p ys) /\ ∀l,H l=Y->Q (.ref l) (upd H l (.lst ys))):=by
 intro ag s σ H xs w Q I r h;obtain ⟨p,ys,rfl,j,q⟩:=h;obtain ⟨u,rfl,v⟩:=hA r;cases v;have i:∀ (a:List dD),ei ys a->ys.length<=dM -> ∀ (h':dQ) (c:Nat),(∀ b o',s.heap.get? b=some o'->h'.get? b=some o') ->
   h'.get? s.heap.objs.size=Z {cls:=.type "list",dict:=Y,data:=.seq a.toArray c,slots:= #[]}->EP X ag σ Q (.ref s.heap.objs.size) {s with heap:=h'}:=λa d g h' c k e=>
  ⟨.ref s.heap.objs.size,_,I.laid (t':=s.toks) k (nR1 _) (show eJ X.prog X.w _ h' _ (.lst ys)from⟨g,a,c,d,e⟩),O,q _ (I.hok.fresh (nR1 _))⟩
 rcases j with j|j
 ·obtain⟨a,d,pl,g⟩:=I.list j;have f:=d.length;obtain⟨o,m,hc,n,t⟩:=pl.isList;exact call_list_seq p (.inl O) m hc t (λh' c k e=>i a d g h' c k e) (by simp only[sT1]<;>lia)
 ·obtain⟨a,d,pl,g⟩:=I.tuple j;have f:=d.length;obtain⟨o,m,hc,n,t⟩:=pl;exact call_list_seq p (.inr O) m hc t (λh' c k e=>i a d g h' c k e) (by simp only[sT1]<;>lia)
theorem pd:e9 X (.type "tuple") (λxs H Q=>∃p ys,xs=[.ref p]/\((mX X.K H p ys /\ ∀l,H l=Y->Q (.ref l) (upd H l (.tup ys)))\/(j6 X.K H p ys/\Q (.ref p) H))):=by
 intro ag s σ H xs n Q I r h;obtain⟨p,ys,rfl,h⟩:=h;obtain⟨u,rfl,m⟩:=hA r;cases m;rcases h with⟨c,q⟩|⟨c,q⟩
 ·obtain ⟨a,d,pl,f⟩:=I.list c;have i:=d.length;refine call_tuple_list pl.isList (fun h' k=>?_) (by simp only [sT1]<;>lia);have g:Inv X ag σ H {s with heap:=h'}:=I.kept (t':=s.toks) k;have j:Inv X ag σ (upd H h'.objs.size (.tup ys)) {s with heap:=h'.push {cls:=.type "tuple",data:=.seq a.toArray}}:=
   g.laid (t':=s.toks) (λb o e=>hP1 _ e) (nR1 _) (show eJ X.prog X.w _ _ _ (.tup ys)from⟨f,a,d,IsTup.new _ _⟩)
  exact⟨.ref h'.objs.size,_,j,O,q _ (g.hok.fresh (nR1 _))⟩
 ·obtain⟨a,d,pl,f⟩:=I.tuple c;exact call_tuple_same pl ⟨.ref p,H,I,O,q⟩
def KG(K:Fg1)(T:String)(x:V)(H:Hp):Prop:=match x with
 | .str _=>T="str"
 | .int _=>T="int"
 | .ref p=>(T="list" /\ ∃ xs,mX K H p xs)\/(T="tuple" /\ ∃ o,K.lookup p=some o/\o.cls = .type "tuple"/\o.dict=none) \/
   (T="dict"/\((∃kvs,H p=Z (.dK kvs)) \/ ∃kvs,H p=Z (.dT kvs)))\/(T="set" /\ ∃S n,H p=Z (.set S n))
 |_=>False
theorem EF{ag:List (dF×Obj)}{σ:St}{H:Hp}{s:dE}{T:String}{x:V}{v:dD}(I:Inv X ag σ H s)(r:d6 x v)(ty:KG X.K T x H):
  s.TypeIs v T /\ ∀a,v = .ref a -> ∃g,s.heap.get? a=Z g/\g.dict=Y:=by
 cases x with
 |str z=>
  obtain⟨t,rfl⟩:=r;cases(show T="str" from ty);exact⟨typeIs_str s z t,λ_ e=>nomatch e⟩
 |int i=>
  obtain⟨t,rfl⟩:=r;cases(show T="int" from ty);exact⟨typeIs_int s i t,λ_ e=>nomatch e⟩
 |ref p=>
  cases r;rcases ty with⟨rfl,xs,j⟩|⟨rfl,o,b,hc,f⟩|⟨rfl,b⟩|⟨rfl,S,n,b⟩
  ·obtain⟨h,_,pl,_⟩:=I.list j;refine⟨pl.isList.typeIs,λa e=>?_⟩;cases e;obtain⟨o,n,e,c,f,_⟩:=pl;exact⟨o,e,f⟩
  ·refine⟨⟨o,I.kIn p o b,hc⟩,λa e=>?_⟩;cases e;exact⟨o,I.kIn _ o b,f⟩
  ·have z:∃ o,s.heap.get? p=some o/\o.ExactDict:=by
    rcases b with⟨kvs,b⟩|⟨kvs,b⟩
    ·obtain⟨_,_,_,_,o,_,_,e,ex,_⟩:=I.hok p _ b;exact⟨o,e,ex⟩
    ·obtain⟨_,_,_,_,o,_,_,e,ex,_⟩:=I.hok p _ b;exact⟨o,e,ex⟩
   obtain⟨o,e,ex⟩:=z;refine⟨⟨o,e,ex.1⟩,λa d=>?_⟩;cases d;exact⟨o,e,ex.2.1⟩
  ·obtain⟨o,_,_,_,e,ex,_⟩:=I.hok p _ b;refine⟨⟨o,e,ex.1⟩,λa d=>?_⟩;cases d;exact⟨o,e,ex.2.1⟩
 |_=>exact False.elim ty
def Lb(K:Fg1)(T:String)(r:V->List V->Hp->VK->Prop)(to:TE)(t:TA):TE:=fun σ H Q=>to σ H λx H1=>KG K T x H1/\t σ H1 λxs H2=>r x xs H2 Q
variable{o e:Expr}{es:List Expr}{to:TE}{t:TA}{name:Str}{apos cpos:Pos}{T id:String}{r:V->List V->Hp->VK->Prop}
theorem Ig (l:PlainAttrs T)(slot:Slot T name id)(hty:typeOf (.builtin id)=pure (.type "method_descriptor"))(hm:Eu X id r)(ho:PE X o to)(ha:PA X (e::es) t)
  (hbase:attributeBase o name X.env (eval o X.env)=eval o X.env:=by rfl)
  (hfew:((backTo cpos (dL (e::es) X.env)).all (λx=> !x.1)&&(backToKw cpos (keywordEach [] X.env)).all (λx=>x.1.isSome)
   && decide ((e::es).length+([]:List Keyword).length+(if([]:List Keyword).isEmpty then 0 else 1)<30))=M:=by rfl)
  (hline:(apos.endLine == cpos.line)=M:=by rfl) (hs:dL (e::es) X.env=(J,eval e X.env)::dL es X.env:=by rfl) (hplain:(backTo cpos (dL es X.env)).any (·.1)=J:=by rfl):
  PE X (.Call (.Attribute o name apos) (e::es) [] cpos) (Lb X.K T r to t):=by
 intro ag s σ H Q I h;refine wpAny_Call_method_late hbase hfew hline O (fj (ho ag s σ H _ I h) λv k ⟨x,H1,b,a,ty,d⟩=>?_);obtain⟨h1,h2⟩:=EF b a ty;refine⟨T,id,l,slot,hty,h1,h2,?_⟩;have c:=ha cpos ag k σ H1 _ b d;rw[hs]at c ⊢;refine Calls.callWith_builtin (by show(J||(backTo cpos (dL es X.env)).any (·.1))=J;rw[hplain]<;>rfl) (Calls.evalArgs_plain ?_);exact fj c λf j ⟨vs,H2,g,r2,i⟩=>hm ag j σ H2 x vs v f Q g a r2 i
end
end L2
namespace L2
open PySem PySem.Spec PyProof.Rows
def K2(X:Cx)(id:String)(r:V->List V->Hp->VK->Prop):Prop:=
 ∀(ag:List (dF×Obj)) (s:dE) (σ:St) (H:Hp) (x:V) (xs:List V) (v:dD) (us:List dD) (Q:VK),Inv X ag σ H s->d6 x v->ei xs us->r x xs H Q ->
  dN (model X.prog X.w) X.A (call (.builtin id) (v::us)) (EP X ag σ Q) X.xe s
theorem ei.one:∀{x:V} {a:List dD},ei [x] a -> ∃u,a=[u]/\d6 x u:=by
 intro x a h;cases h with
 |cons r t=>cases t;exact⟨_,O,r⟩
theorem ei.two:∀{x y:V} {a:List dD},ei [x,y] a -> ∃u v,a=[u,v]/\d6 x u/\d6 y v:=by
 intro x y a h;cases h with
 |cons r t=>obtain⟨v,rfl,q⟩:=ei.one t;exact⟨_,_,O,r,q⟩
theorem ei.eraseIdx:∀{xs:List V} {a:List dD} (i:Nat),ei xs a->ei (xs.eraseIdx i) (a.eraseIdx i)
 |_,_,_,.nil=>.nil
 |_,_,0,.cons _ t=>t
 |_,_,i+1,.cons r t=>.cons r (ei.eraseIdx i t)
theorem pX{α:Type}:∀(l:List α) (i:Nat),(l.eraseIdx i).length<=l.length
 |[],_=>nR1 _
 |_::_,0=>aX _
 |_::r,i+1=>Nat.succ_le_succ (pX r i)
section
variable{X:Cx}{ag:List (dF×Obj)}{σ:St}{H:Hp}{s:dE}{l b:dF}{xs ys zs:List V}
theorem Inv.lset {its its':List dD}{n:Nat}{f:Array dD->Array dD}{t':Nat}(I:Inv X ag σ H s)(c:H l=some (.lst xs))
  (e:s.heap.get? l=Z {cls:=.type "list",data:=.seq its.toArray n}) (hf:f its.toArray=its'.toArray) (hv:ei ys its') (hz:ys.length<=dM):
  Inv X ag σ (upd H l (.lst ys)) {s with heap:=s.heap.update l (Obj.mapSeq f),toks:=t'}:=by
 have q:=PySem.IsL.update e f;rw[hf]at q;refine I.write (x:=l) (e:=l) (by rw[c];exact trivial) (.inl O) (λd u a b=>(Heap.get?_update_other s.heap (Obj.mapSeq f) (Ne.symm a)).trans b) ⟨_,q⟩ ?_;exact⟨hz,its',_,hv,q⟩
theorem Inv.lnew{its:List dD}{t':Nat}(I:Inv X ag σ H s)(hv:ei ys its)(hz:ys.length<=dM):
  Inv X ag σ (upd H s.heap.objs.size (.lst ys)) {s with heap:=s.heap.push {cls:=.type "list",data:=.seq its.toArray},toks:=t'}:=
 I.laid (λ_ _ q=>hP1 _ q) (nR1 _) ⟨hz,its,0,hv,hS1 _ O⟩
theorem Inv.fresh(I:Inv X ag σ H s):H s.heap.objs.size=Y:=I.hok.fresh (nR1 _)
theorem Inv.lstM(I:Inv X ag σ H s)(a:H l=Z (.lst xs)):xs.length<=dM /\ ∃(its:List dD) (n:Nat),ei xs its/\xs.length=its.length/\s.heap.get? l=Z {cls:=.type "list",data:=.seq its.toArray n}:=by
 obtain⟨z,its,n,r,e⟩:=I.hok l _ a;exact⟨z,its,n,r,r.length,e⟩
end
section
variable{X:Cx}
def Cm:V->List V->Hp->VK->Prop:=λx vs H Q=>∃l xs y,x = .ref l/\vs=[y]/\H l=Z (.lst xs)/\xs.length<dM/\Q .non (upd H l (.lst (xs++[y])))
theorem pQ:K2 X "list.append" Cm:=by
 intro ag s σ H x vs v i Q I f c h;obtain⟨l,xs,y,rfl,rfl,b,g,q⟩:=h;cases f;obtain⟨u,rfl,d⟩:=c.one;obtain⟨z,a,n,r,j,e⟩:=I.lstM b;refine call_meets F.slot_list_append ⟨_,e,O⟩ F.entry_list_append (F.args_list_append_2 _ _) (PySem.list_append l a.toArray n u (by rw[sT1];lia)) ⟨e,?_⟩;refine⟨.non,_,I.lset (its':=a++[u]) b e (by simp) (r.append (.cons d .nil)) ?_,O,q⟩;rw[lA1,aY];lia
def Fb:V->List V->Hp->VK->Prop:=λx vs H Q=>∃l xs i k y,x = .ref l/\vs=[.int i]/\H l=Z (.lst xs) /\ -(2^63)<=i/\i<2^63/\seqIndex? i xs.length=Z k/\xs[k]?=Z y/\Q y (upd H l (.lst (xs.eraseIdx k)))
theorem Ag:K2 X "list.pop" Fb:=by
 intro ag s σ H x vs v A Q I m f h;obtain⟨l,xs,i,k,y,rfl,rfl,c,h1,h2,p,o,q⟩:=h;cases m;obtain⟨u,rfl,g⟩:=f.one;obtain⟨t,rfl⟩:=g;obtain⟨z,a,n,r,j,e⟩:=I.lstM c;obtain⟨w,d,b⟩:=r.get o;refine call_meets F.slot_list_pop ⟨_,e,O⟩ F.entry_list_pop (F.args_list_pop_2 _ _)
  (MeetsSeq.list_pop_at l a.toArray n i t k w (fitsIndex_both h1 h2) (by rw[sT1,<- j];exact p) (by rw[<- aT1];exact d) (by rw[sT1];lia)) ⟨e,?_⟩
 refine⟨y,_,I.lset (its':=a.eraseIdx k) c e ?_ (r.eraseIdx k) ?_,b,q⟩
 ·show a.toArray.eraseIdxIfInBounds k=(a.eraseIdx k).toArray;rw[List.eraseIdxIfInBounds_toArray]
 ·have:=pX xs k;lia
noncomputable def Kg:R2:=λx y H Q=>∃l b xs zs,x = .ref l/\y = .ref b/\H l=Z (.lst xs)/\H b=Z (.lst zs)/\xs.length+zs.length<=dM /\ ∀p,H p=Y->Q (.ref p) (upd H p (.lst (xs++zs)))
theorem FQ:fX X (binaryOp .Add) Kg:=by
 intro ag s σ H x y v u Q I j g h;obtain⟨l,b,xs,zs,rfl,rfl,m,d,o,q⟩:=h;cases j;cases g;obtain⟨z,c,n,r,w,e⟩:=I.lstM m;obtain⟨t,a,p,r2,k,i⟩:=I.lstM d;refine PySem.P.add_list e i ?_ (by rw[sT1,sT1];lia);have f:c.toArray++a.toArray=(c++a).toArray:=by simp
 rw[f];exact⟨.ref _,_,I.lnew (t':=s.toks) (r.append r2) (by rw[lA1];lia),O,q _ I.fresh⟩
end
section
variable{prog:dG}{w:dI}{A:dH}{E:dD->dE->Prop}{s:dE}
end
section
variable{X:Cx}
end
end L2
namespace Att
open PySem PySem.W PySem.Calls PyProof.Rows
theorem mP{P:Params}{h:dQ}:∀(ns:List Int) (vs:List dD),WellAll P h vs (ns.map WData.int)->IntsAre vs ns:=by
 intro ns
 induction ns with
 |nil=>
  intro vs w;rw[aZ]at w;cases w;exact .nil
 |cons n ns ih=>
  intro vs w;rw[mP1]at w;cases w with
  |cons a b=>
   cases a;exact .cons _ _ (ih _ b)
theorem xL{l:OpenLaw}{n:Nat}(hn:l.most=some n){P:Params}{h:dQ}{args:List WData}{b:List dD}(c:l.row.toRowW.claim.pre args=true)(j:WellAll P h b args):
  ∃a vs ns,b=[Value.ref a]/\args=[WData.list (ns.map WData.int)]/\h.get? a=Z {cls:=.type "list",data:=.seq vs.toArray}/\IntsAre vs ns/\ns.length<=n:=by
 have k:WShape.hasAll [] args [.list .int]=M:=(pre_splitW c).1;have hc:l.pre.holds [] {args:=args}=M:=(pre_splitW c).2;obtain⟨d,r,rfl,h1,h2⟩:=hasAllW_cons k;obtain rfl:=hasAllW_nil h2;obtain⟨xs,rfl,o⟩:=hasW_list h1;obtain⟨ns,rfl⟩:=items_int o;have f:ns.length<=n:=by
  unfold OpenLaw.pre at hc;have i:(WTm.not (.lt (.lit (.int (n:Int))) (.len (.arg 0)))).holds [] {args:=[.list (ns.map .int)]}=M:=by
   have i:=(holds_andW hc).1;rw[hn]at i;exact i
  have g:=condW_of i (w_not (w_lt w_lit (w_len_list (w_arg O))));rw[lM1]at g;refine a0 λq=>?_;have t:(n:Int)<((ns.length:Nat):Int):=by omega
  first
   |(rw[ah t]at g;exact absurd g (by decide))
   |(simp at g;omega)
 cases j with
 |cons s p=>
  cases p;cases s with
  |list m e=>exact⟨_,_,ns,O,O,m,mP ns _ e,f⟩
theorem xM(l:OpenLaw)(args:List WData):l.row.toRowW.claim.post args (.bool M) args=M:=
 postW_of (r:=l.row.toRowW) (X:=(M == M))
  (show WShape.has [] (.bool M) .bool=M by first|rfl|decide|simp[WShape.has,WShape.arms,WShape.armsAll])
  (show(WTm.eq .res (.lit (.bool M))).value [] {args:=args,res:=Z (.bool M),after:=args}=Z (.bool (M == M))from w_eq_bool (w_res O) w_lit) O
theorem attach_call {l:OpenLaw}{n:Nat}{q:dG}{c:List Str}{XP:(Str->Option dD)->dQ->Prop}{z:dI->dQ->Prop}{d:DefRec}
  (hn:l.most=Z n) (t:d.params.defaults=[])
  (call:∀(w:dI) (e b:dE) (mg v:Str->Option dD) (i:dF) (o:Obj) (s p h:dD) (a:dF) (vs:List dD) (ns:List Int),
   Ground q c [] XP w e mg v b.heap->z w b.heap ->
   b.heap.get? i=Z o->o.data = .func (docDef d.name d.params d.body d.scope s p h)->b.heap.CodeRec p d.name->mg d.name=Z (.ref i) ->
   b.heap.get? a=Z {cls:=.type "list",data:=.seq vs.toArray}->IntsAre vs ns->ns.length<=n->b.gens = #[] ->
   dP (model l.prog w) callerA (.call (.ref i) ⟨[.ref a],[]⟩) (λr s'=>r = .ok (.ret (.bool M))/\OldK b.heap s'.heap/\s'.os=b.os/\AllBare s'.gens) b):
  WalkO q c XP z l.row.toRowW d [] (λf vs=>PySem.call f vs):=by
 intro w e b mg v G aq i o s p h F kV I H y C u E D B as k A N x L;obtain rfl:F = .none:=Dflts.none C t;obtain rfl:kV = .none:=Dflts.noKw C;obtain⟨a,vs,ns,rfl,rfl,j,g,m⟩:=xL hn k x;refine enter_call (codeAny_mono (call w e b mg v i o s p h a vs ns G aq I (fd_plain H) y u j g m E) λr s' ao=>?_);obtain⟨rfl,h2,K,am⟩:=ao;exact⟨.inl ⟨.bool M,.bool M,[],O,λ_=>rfl,.bool M,xM l _,λ_=>⟨List.Pairwise.nil,λ_ au=>(nomatch au)⟩⟩,h2,K,am⟩
section
variable{prog:dG}{w:dI}{A:dH}{E:dD->dE->Prop}{s:dE}{K:Frag}
end
end Att
namespace L2
open PySem PySem.Spec PyProof.Rows
theorem xw:∀{vs:List dD} {ns:List Int},IntsAre vs ns->ei (ns.map V.int) vs:=by
 intro vs ns h
 induction h with
 |nil=>exact .nil
 |cons n t h ih=>exact .cons ⟨t,O⟩ ih
def D3(H:Hp):Prop:=∀b,H b=Y \/ ∃o xs,H b=Z (.frz o (.lst xs))
theorem AE {P:dG}{w:dI}{K:Fg1}{mg D:Str->Option dD}{CX:yR}{k:Nat}{G a:dF}{fd:dR}{x:Str}{sp:Sp}{s₁:dE}{vs:List dD}{ns:List Int}
  (au:K.In s₁.heap) (j:s₁.heap.Ns dJ mg) (hb:s₁.heap.Ns builtinsNs D) (E:∀x:Str,x≠"__name__"->D x=bootBuiltins x) (p:s₁.heap.NoLimit) (hg:s₁.gens = #[])
  (ha:s₁.heap.get? a=Z {cls:=.type "list",data:=.seq vs.toArray}) (hi:IntsAre vs ns) (Q:ns.length<=dM) (hr:fP k callerA)
  (F:∀base:dQ,K.In base->base.Ns dJ mg->jR P w K mg base CX k G fd [x] sp) (g:∀(s:dE) (u:dD),BindsTo s fd ⟨[u],[]⟩ [(x,u)])
  (I:∀H:Hp,D3 H->mX K H a (ns.map V.int)->sp [.ref a] H (λv _=>v = .bl M) λ_ _ _=>False)
  (L:∀H e s',CX [] H s₁ (λ_ _ _=>False) e s'->False):
  dP (model P w) callerA (.call (.ref G) ⟨[.ref a],[]⟩) (λr s'=>r = .ok (.ret (.bool M))/\OldK s₁.heap s'.heap/\s'.os=s₁.os/\AllBare s'.gens) s₁:=by
 have S:=xw hi;have y:=hi.length
 -- from an abstract heap in which nothing but the script may be tracked
 have f:∀ H:Hp,D3 H->mX K H a (ns.map V.int)->kn P w H s₁.heap->(∀ b,H b≠none->b=a)->(H a≠none->K.lookup a=none) ->
   dP (model P w) callerA (.call (.ref G) ⟨[.ref a],[]⟩) (λr s'=>r = .ok (.ret (.bool M))/\OldK s₁.heap s'.heap/\s'.os=s₁.os/\AllBare s'.gens) s₁:=by
  intro H ao U A N aq;have base_of:∀{b:dF} {o:Obj},s₁.heap.get? b=Z o->H b=Y->(rM s₁.heap H).get? b=Z o:=λe n=>AS e n;have am:∀{b:dF} {o:Obj} {es:Array DictEntry} {ep:Nat},s₁.heap.get? b=Z o->o.data = .dict es ep->H b=Y:=λ{b o es ep} e d=>by
   cases q:H b with
   |none=>rfl
   |some u=>
    have C:b=a:=N b (by rw[q];simp);subst C;rw[ha]at e;cases e;have d':Data.seq vs.toArray _=Data.dict es ep:=d;cases d'
  have c:∀{b:dF} {m:Str->Option dD},s₁.heap.Ns b m->(rM s₁.heap H).Ns b m:=λ{b m} ⟨o,es,ep,e,d,r⟩=>⟨o,es,ep,base_of e (am e d),d,r⟩;have B:K.In (rM s₁.heap H):=λb o e=>base_of (au b o e) (by
   cases q:H b with
   |none=>rfl
   |some u=>
    have C:b=a:=N b (by rw[q];simp);subst C;rw[aq (by rw[q];simp)]at e;cases e)
  have hM:Mod K mg (rM s₁.heap H):=⟨B,c j,⟨D,c hb,E⟩,let ⟨mc,h1,h2⟩:=p;⟨mc,c h1,h2⟩⟩;have wq:D4 P w K mg (rM s₁.heap H) callerA [] s₁ H:=⟨O,hM,λb o e=>CM e,Nat.le_of_eq (yp _ _),trivial,λb hb=>absurd (show b∈([]:List dF)from hb) (by simp),A,.of_eq hg⟩;refine codeAny_mono ((F _ B (c j)).run callerA [] s₁ H ⟨[.ref a],[]⟩ [.ref a] [.ref a] _ _ hr wq (g s₁ (.ref a)) (.cons O .nil) (I H ao U)) λr s' h=>?_;cases r with
  |error e=>exact(L H e s' h).elim
  |ok fl=>
   cases fl with
   |next=>exact False.elim h
   |brk=>exact False.elim h
   |cont=>exact False.elim h
   |ret u=>
    obtain⟨v,H',os,l,un,i,r',q⟩:=h;have q':v = .bl M:=q;subst q';obtain rfl:u=Value.bool true:=r';refine⟨O,OldK.of_keep λb o e=>?_,os,l⟩;cases q:H b with
    |none=>exact un.keep b o e q (by intro z;exact absurd (show b∈([]:List dF)from z) (by simp)) (by simp)
    |some u=>
     rcases ao b with z|⟨T,xs,z⟩
     ·rw[q]at z;cases z
     ·have W:=un.frzs b T _ z;obtain⟨R,_⟩:=A b _ z;obtain⟨X,_⟩:=i b _ W;rw[e]at R;cases R;exact X
 cases hk:K.lookup a with
 |some o=>
  -- the script is one of the module's own objects
  have e:=au a o hk;rw[ha]at e;cases e;refine f (λ_=>Y) (λ_=>.inl O) (.inr ⟨_,vs.toArray,_,hk,O,O,O,by rw[sT1,y];exact Q,by simpa using S⟩) (λb u z=>by have t:(Y:Option HO)=Z u:=z;cases t) (λb z=>absurd O z) λz=>absurd O z
 |none=>
  refine f (λb=>if b=a then Z (.frz {cls:=.type "list",data:=.seq vs.toArray} (.lst (ns.map V.int)))else Y) (λb=>?_) (.inl (.inr ⟨{cls:=.type "list",data:=.seq vs.toArray},ak O⟩)) (λb u z=>?_) (λb z=>?_) λ_=>hk
  ·by_cases hb:b=a
   ·exact .inr ⟨_,_,ak hb⟩
   ·exact .inl (aj hb)
  ·by_cases hb:b=a
   ·have t:=(ak hb).symm.trans z;cases t;subst hb;exact⟨ha,by rw[lM1];exact Q,vs,_,S,ha⟩
   ·have t:=(aj hb).symm.trans z;cases t
  ·by_cases hb:b=a
   ·exact hb
   ·exact absurd (aj hb) z
end L2
namespace L2
open PySem PySem.Spec PyProof.Rows
theorem B4{l:PySem.W.OpenLaw}{n k:Nat}{q:dG}{c:List Str}{XP:(Str->Option dD)->dQ->Prop}{A:dI->dQ->Prop}{d:DefRec}{K:Params->Fg1}{CX:dI->yR}{sp:dI->Sp}{x:Str}(hn:l.most=some n)(z:n<=dM)(p:d.params.defaults=[])(hr:fP k callerA)(L:∀(w:dI) (h:dQ),A w h->(K w.params).In h)(F:∀(w:dI) (mg:Str->Option dD) (m:dF) (h:dQ),(K w.params).In h->h.Ns dJ mg->mg d.name=some (.ref m) ->
   ∃fd:dR,(∀(s:dE) (u:dD),BindsTo s fd ⟨[u],[]⟩ [(x,u)]) /\
    ∀base:dQ,(K w.params).In base->base.Ns dJ mg->jR l.prog w (K w.params) mg base (CX w) k m fd [x] (sp w))(t:∀(w:dI) (H:Hp) (a:dF) (ns:List Int),ns.length<=n->D3 H->mX (K w.params) H a (ns.map V.int)->sp w [.ref a] H (λv _=>v = .bl M) λ_ _ _=>False)(y:∀(w:dI) (H:Hp) (s:dE) (e:dD) (s':dE),CX w [] H s (λ_ _ _=>False) e s'->False):
  PySem.W.WalkO q c XP A l.row.toRowW d [] (λf vs=>PySem.call f vs):=by
 refine Att.attach_call hn p λw C i mg Q m o P T au a vs ns G aq S R N r j g b D=>?_;have B:=L w _ aq;obtain⟨fd,am,ao⟩:=F w mg m _ B G.T.g r;exact AE B G.T.g G.T.b G.T.builtins G.T.nolimit D j g (aC b z) hr ao am (λH E I=>t w H a ns b E I) λH e s'=>y w H i e s'
end L2
namespace L2
open PySem PySem.Spec PyProof.Rows
noncomputable def hG(s:dS):Arguments:=match s with
 | .FunctionDef _ a _ _ _ _ _ _ _ _=>a
 |_=>{posonlyargs:=[],args:=[],vararg:=Y,kwonlyargs:=[],kw_defaults:=[],kwarg:=Y,defaults:=[]}
noncomputable def fy(s:dS):List dS:=match s with
 | .FunctionDef _ _ b _ _ _ _ _ _ _=>b
 |_=>[]
noncomputable def ea(s:dS):dU:=match s with
 | .FunctionDef _ _ _ _ _ _ sc _ _ _=>sc
 |_=>{kind:=.function,names:=[],isGenerator:=J,isCoroutine:=J}
abbrev ul:yR:=λ_ _ _ _ _ _=>False
abbrev E0:XK:=λ_ _ _=>False
theorem Ii{X:Cx}:vK ul X E0:=λ_ _ _ _ _ _ _ h=>h.elim
structure yU (K:Fg1)(x qual:Str)(st:dS)(f:dF)(fd:dR):Prop where
 ex:∃(oc:dD) (od:Option dF) (kV doc pm:dD) (an:Option dF) (cdv ct:dD) (osl:Array (Option dD)),
  fd=wF1 x qual (hG st) (fy st) (ea st) .none kV doc pm an cdv ct/\K.lookup f=some ⟨oc,od,.func fd,osl⟩/\wC1 K cdv qual=true
 kp:wK1 K (.ref f)=true
section
variable{P:dG}{w:dI}{K:Fg1}{mg:Str->Option dD}{base:dQ}
theorem yU.ok{x b:Str}{st:dS}{f:dF}{fd:dR}{N ps:List Str}{k:Nat}{sp:Sp}(F:yU K x b st f fd)(S:gy N ps (ea st))(len:∀ vs H Q E,sp vs H Q E->vs.length=ps.length)(d:∀(c:dD) (A:dH) (a:List Env) (s:dE) (H:Hp) (vs:List V) (Q:VK) (E:XK),fP k (A.deeper (envOfC b (ea st) s.heap.objs.size f c))->sp vs H Q E ->
   ∃t,uu (mU ul P w K mg base N b (ea st) f c A a s H E).nox (fy st) t/\t {nx:=λ_ H'=>Q .non H',rt:=Q} (i5 N vs) H):jR P w K mg base ul (k+1) f fd ps sp:=by
 obtain⟨n,p,kV,l,o,r,c,ct,m,rfl,j,e⟩:=F.ex;refine IT j e S len λA a s H vs Q E i g=>?_;obtain⟨t,h,q⟩:=d c A a s H vs Q E i g;exact⟨t,h.nox,q⟩
theorem yU.binds{x a:Str}{st:dS}{f:dF}{fd:dR}{ps:List Str}(F:yU K x a st f fd)(h:∀(kV c d:dD) (e:Option dF) (b ct:dD) (g:List dD),g.length=ps.length->bindArgs (wF1 x a (hG st) (fy st) (ea st) .none kV c d e b ct) ⟨g,[]⟩=pure (ps.zip g)):lF K fd ps []:=by
 obtain⟨k,l,kV,c,d,e,b,ct,j,rfl,m,i⟩:=F.ex;exact .all (h kV c d e b ct)
theorem AZ{x a:Str}{st:dS}{f:dF}{i:dD}{j h:Option dF}{e:Array (Option dD)}{kV d g b ct:dD}(l:K.lookup f=Z ⟨i,j,.func (wF1 x a (hG st) (fy st) (ea st) .none kV d g h b ct),e⟩)(c:wC1 K b a=M)(k:wK1 K (.ref f)=M):yU K x a st f (wF1 x a (hG st) (fy st) (ea st) .none kV d g h b ct):=⟨⟨i,j,kV,d,g,h,b,ct,e,O,l,c⟩,k⟩
end
section
variable{X:Cx}
theorem pv (i:Nat){x:Str}{pos:Pos}(hN:X.N[i]? = some x:=by rfl)(hv:He X.env.scope x:=by first | exact Or.inl rfl | exact Or.inr (Or.inl rfl) | exact Or.inr (Or.inr rfl))(hd:(x == ("__debug__":Str))=false:=by decide)
  (hcd:(x == ("__classdict__":Str))=J:=by decide):PE X (.Name x pos) (HD i):=zQ hN hv hd hcd
end
end L2
namespace L2
open PySem PySem.Spec PyProof.Rows
section
variable{κ:Type} [DecidableEq κ]
noncomputable def iJ(kvs:List (κ×V))(k:κ):Option V:=(kvs.find? λkv=>decide (kv.1=k)).map (·.2)
noncomputable def iw(kvs:List (κ×V))(k:κ)(v:V):List (κ×V):=
 if(kvs.any λkv=>decide (kv.1=k))=M then kvs.map (λkv=>if kv.1=k then(kv.1,v)else kv)else kvs++[(k,v)]
theorem ny{p:κ×V}{r:List (κ×V)}{k:κ}(e:p.1=k):iJ (p::r) k=Z p.2:=by simp[iJ,bc,e]
theorem nz{p:κ×V}{r:List (κ×V)}{k:κ}(e:¬ p.1=k):iJ (p::r) k=iJ r k:=by simp[iJ,bc,e]
theorem sj(k:κ):∀kvs:List (κ×V),(kvs.any λa=>decide (a.1=k))=(iJ kvs k).isSome
 |[]=>rfl
 |p::r=>by
  rw[bd];by_cases e:p.1=k
  ·simp only[ny e,ah e,Bool.true_or,Option.isSome_some]
  ·rw[nz e,ai e,Bool.false_or];exact sj k r
theorem ji(kvs:List (κ×V))(k:κ)(v:V):(iw kvs k v).length<=kvs.length+1:=by
 unfold iw;split
 ·rw[lM1];lia
 ·rw[lA1,lC1,bf];lia
theorem me.isSome_eq{o:Option V}{u:Option dD}(r:me o u):o.isSome=u.isSome:=by
 cases o with
 |none=>cases u with
  |none=>rfl
  |some _=>exact(show False from r).elim
 |some _=>cases u with
  |none=>exact(show False from r).elim
  |some _=>rfl
theorem me.getD{o:Option V}{u:Option dD}{d:V}{d':dD}(r:me o u)(a:d6 d d'):d6 (o.getD d) (u.getD d'):=by
 cases o with
 |none=>cases u with
  |none=>exact a
  |some _=>exact(show False from r).elim
 |some _=>cases u with
  |none=>exact(show False from r).elim
  |some _=>exact r
theorem KV.val{kvs:List (κ×V)}{vs:List (κ×dD)}(r:KV kvs vs)(k:κ):me (iJ kvs k) (valueAt vs k):=by
 unfold KV at r
 induction r with
 |nil=>exact True.intro
 | @cons p q ps a h t ih=>
  obtain⟨h1,h2⟩:=h;by_cases e:p.1=k
  ·have c:q.1=k:=h1.symm.trans e;have b:valueAt (q::a) k=Z q.2:=by simp[valueAt,bc,c]
   rw[ny e,b];exact h2
  ·have c:¬ q.1=k:=λz=>e (h1.trans z);have b:valueAt (q::a) k=valueAt a k:=by simp[valueAt,bc,c]
   rw[nz e,b];exact ih
theorem KV.any{kvs:List (κ×V)}{vs:List (κ×dD)}(r:KV kvs vs)(k:κ):(kvs.any λa=>decide (a.1=k))=vs.any λa=>decide (a.1=k):=by
 unfold KV at r
 induction r with
 |nil=>rfl
 |cons h t ih=>rw[bd,bd,ih,h.1]
theorem KV.repl{kvs:List (κ×V)}{vs:List (κ×dD)}(r:KV kvs vs)(k:κ){y:V}{u:dD}(b:d6 y u):
  KV (kvs.map λa=>if a.1=k then(a.1,y)else a) (vs.map λa=>if a.1=k then(a.1,u)else a):=by
 unfold KV at r ⊢
 induction r with
 |nil=>exact .nil
 | @cons p q ps c h t ih=>
  rw[mP1,mP1];refine .cons ?_ ih;obtain⟨h1,h2⟩:=h;by_cases e:p.1=k
  ·rw[ak e,ak (h1.symm.trans e)];exact⟨h1,b⟩
  ·rw[aj e,aj (λz=>e (h1.trans z))];exact⟨h1,h2⟩
theorem KV.put{kvs:List (κ×V)}{vs:List (κ×dD)}(r:KV kvs vs)(k:κ){y:V}{u:dD}(a:d6 y u):KV (iw kvs k y) (stored vs k u):=by
 unfold iw stored;rw[r.any k];by_cases e:(vs.any λb=>decide (b.1=k))=M
 ·rw[ak e,ak e];exact r.repl k a
 ·rw[aj e,aj e];exact Paired.snoc r ⟨O,a⟩
theorem KV.length{kvs:List (κ×V)}{vs:List (κ×dD)}(r:KV kvs vs):kvs.length=vs.length:=Paired.length r
end
theorem pZ{P:dG}{w:dI}{k:Key}{u:dD}(r:d6 (kV k) u):(fe P w).is k u=M:=by
 cases k with
 |inl i=>obtain⟨t,e⟩:=(show∃t,u=Value.int i t from r);subst e;exact tf P w i t
 |inr x=>obtain⟨t,e⟩:=(show∃t,u=Value.str x t from r);subst e;exact s9 P w x t
theorem p7{P:dG}{w:dI}:∀{ks:List Key} {a:List dD},ei (ks.map kV) a->ItemsAre (fe P w) ks a
 |[],_,r=>by rw[aZ]at r;cases r;exact .nil
 |k::ks,_,r=>by
  rw[mP1]at r;cases r with
  |cons h t=>exact .cons (pZ h) (p7 t)
abbrev KT(H:Hp):List (List Key×V)->List (List Key×dF×dD)->Prop:=Paired λp q=>p.1=q.1/\H q.2.1=Z (.tup (p.1.map kV))/\d6 p.2 q.2.2
theorem KT.val{H:Hp}{kvs:List (List Key×V)}{xs:List (List Key×dF×dD)}(r:KT H kvs xs)(k:List Key):me (iJ kvs k) ((atKey xs k).map (·.2)):=by
 induction r with
 |nil=>exact True.intro
 | @cons p q ps a h t ih=>
  obtain⟨h1,_,h2⟩:=h;by_cases e:p.1=k
  ·have c:q.1=k:=h1.symm.trans e;have b:atKey (q::a) k=Z q.2:=by simp[atKey,bc,c]
   rw[ny e,b];exact h2
  ·have c:¬ q.1=k:=λz=>e (h1.trans z);have b:atKey (q::a) k=atKey a k:=by simp[atKey,bc,c]
   rw[nz e,b];exact ih
theorem KT.repl{H:Hp}{kvs:List (List Key×V)}{xs:List (List Key×dF×dD)}(r:KT H kvs xs)(k:List Key){y:V}{u:dD}(c:d6 y u):
  KT H (kvs.map λa=>if a.1=k then(a.1,y)else a) (xs.map (putAt k u)):=by
 induction r with
 |nil=>exact .nil
 | @cons p q ps d h t ih=>
  rw[mP1,mP1];refine .cons ?_ ih;obtain⟨h1,h2,b⟩:=h;unfold putAt;by_cases e:p.1=k
  ·rw[ak e,ak (h1.symm.trans e)];exact⟨h1,h2,c⟩
  ·rw[aj e,aj (λz=>e (h1.trans z))];exact⟨h1,h2,b⟩
theorem KT.put{H:Hp}{kvs:List (List Key×V)}{xs:List (List Key×dF×dD)}(r:KT H kvs xs)(k:List Key){b:dF}{y:V}{u:dD}(hb:H b=some (.tup (k.map kV)))(a:d6 y u):
  KT H (iw kvs k y) (storedH xs k b u):=by
 have e:(kvs.any λc=>decide (c.1=k))=(atKey xs k).isSome:=by
  rw[sj,(r.val k).isSome_eq,bg]
 unfold iw storedH;rw[e];by_cases q:(atKey xs k).isSome=M
 ·rw[ak q,ak q];exact r.repl k a
 ·rw[aj q,aj q];exact Paired.snoc r ⟨O,hb,a⟩
theorem KT.keeps{H H':Hp}{kvs:List (List Key×V)}{xs:List (List Key×dF×dD)}(r:KT H kvs xs)(ht:∀b ys,H b=Z (.tup ys)->H' b=Z (.tup ys)):KT H' kvs xs:=
 Paired.mapP r λ_ _ z=>⟨z.1,ht _ _ z.2.1,z.2.2⟩
section
variable{P:dG}{w:dI}{H:Hp}{h:dQ}{a:dF}
theorem Ea{u:HO}(ok:kn P w H h)(e:Rd H a u):eJ P w H h a u:=e.ok ok
theorem tV{kvs:List (Key×V)}(ok:kn P w H h)(e:Rd H a (.dK kvs)):kvs.length<=dM/\(a == sysModules)=J /\ ∃vs,KV kvs vs/\h.DictOf (fe P w) a vs:=
 show eJ P w H h a (.dK kvs)from Ea ok e
theorem w4{kvs:List (Key×V)}(ok:kn P w H h)(e:H a=Z (.dK kvs)):kvs.length<=dM/\(a == sysModules)=J /\ ∃vs,KV kvs vs/\h.DictOf (fe P w) a vs:=tV ok (.inl e)
theorem og{ks:List Key}(ok:kn P w H h)(e:H a=Z (.tup (ks.map kV))):(tupleKind (fe P w)).is h ks a:=by
 obtain⟨_,b,r,o,h1,h2,n,c⟩:=(show eJ P w H h a (.tup (ks.map kV))from ok a _ e);exact⟨o,b.toArray,n,h1,h2,c,by simpa using p7 r⟩
theorem tT{kvs:List (List Key×V)}(ok:kn P w H h)(e:Rd H a (.dT kvs)):kvs.length<=dM/\(a == sysModules)=false /\
  ∃xs,KT H kvs xs/\h.DictOfH (tupleKind (fe P w)) a xs:=by
 obtain⟨z,y,xs,r,o,es,ep,h1,h2,d,g,f⟩:=(show eJ P w H h a (.dT kvs)from Ea ok e);refine⟨z,y,xs,r,o,es,ep,h1,h2,d,g,λx b=>?_,f⟩;have all:∀{l:List (List Key×V)} {m:List (List Key×dF×dD)},KT H l m -> ∀x∈m,(tupleKind (fe P w)).is h x.1 x.2.1:=by
  intro l m q
  induction q with
  |nil=>intro x b;exact nomatch b
  | @cons p q ps i c t ih=>
   intro x b;rcases aF.mp b with e|b
   ·subst e;exact og ok (by rw[<- c.1];exact c.2.1)
   ·exact ih x b
 exact all r x b
theorem I0{kvs:List (List Key×V)}(ok:kn P w H h)(e:H a=some (.dT kvs)):kvs.length<=dM/\(a == sysModules)=false /\
  ∃xs,KT H kvs xs/\h.DictOfH (tupleKind (fe P w)) a xs:=tT ok (.inl e)
end
def pf(H:Hp)(a:dF)(y:V)(r:Option V):Prop:=
 (∃kvs k,Rd H a (.dK kvs)/\y=kV k/\r=iJ kvs k) \/ ∃kvs k b,Rd H a (.dT kvs)/\y = .ref b/\H b=Z (.tup (k.map kV))/\r=iJ kvs k
def yQ(H:Hp)(a:dF)(y v:V)(H':Hp):Prop:=
 (∃kvs k,H a=Z (.dK kvs)/\y=kV k/\kvs.length<dM/\H'=upd H a (.dK (iw kvs k v))) \/
 ∃kvs k b,H a=Z (.dT kvs)/\y = .ref b/\H b=Z (.tup (k.map kV))/\kvs.length<dM/\H'=upd H a (.dT (iw kvs k v))
theorem pf.k{H:Hp}{a:dF}{kvs:List (Key×V)}{k:Key}(e:H a=Z (.dK kvs)):pf H a (kV k) (iJ kvs k):=.inl ⟨kvs,k,.inl e,O,O⟩
theorem pf.t{H:Hp}{a b:dF}{kvs:List (List Key×V)}{k:List Key}(e:H a=Z (.dT kvs))(c:H b=Z (.tup (k.map kV))):pf H a (.ref b) (iJ kvs k):=.inr ⟨kvs,k,b,.inl e,O,c,O⟩
theorem yQ.k{H:Hp}{a:dF}{kvs:List (Key×V)}{k:Key}{v:V}(e:H a=Z (.dK kvs))(b:kvs.length<dM):yQ H a (kV k) v (upd H a (.dK (iw kvs k v))):=.inl ⟨kvs,k,e,O,b,O⟩
theorem yQ.t{H:Hp}{a b:dF}{kvs:List (List Key×V)}{k:List Key}{v:V}(e:H a=some (.dT kvs))(c:H b=some (.tup (k.map kV)))(d:kvs.length<dM):
  yQ H a (.ref b) v (upd H a (.dT (iw kvs k v))):=.inr ⟨kvs,k,b,e,O,c,d,O⟩
section
variable{X:Cx}{ag:List (dF×Obj)}{σ:St}{H:Hp}{s:dE}{a:dF}{y v:V}{u r:dD}{o:Option V}{A:dH}{E:dD->dE->Prop}
theorem Inv.big(I:Inv X ag σ H s):sysModules<s.heap.objs.size:=by
 have h:dJ<s.heap.objs.size:=(I.mod.glob.keeps I.bk).lt;exact bh (by decide) h
theorem yB{Q:dD->dE->Prop}(w:A.units+1<cLine)(I:Inv X ag σ H s)(g:pf H a y (some v))(q:d6 y u)(h:∀ f s',Inv X ag σ H s'->d6 v f->Q f s'):
  dN (model X.prog X.w) A (getItem (.ref a) u) Q E s:=by
 rcases g with⟨kvs,k,e,m,l⟩|⟨kvs,k,b,e,m,r,l⟩
 ·subst m;obtain⟨z,x,vs,d,j⟩:=tV I.hok e;obtain⟨f,i,c⟩:=me.some_of (v:=v) (o:=valueAt vs k) (by rw[l];exact d.val k);exact wpAny_getItem_of (pZ q) j.mapOf i (h f _ (I.tok _) c)
 ·subst m;cases(show u=Value.ref b from q);obtain⟨z,x,xs,d,j⟩:=tT I.hok e;obtain⟨f,i,c⟩:=me.some_of (v:=v) (o:=(atKey xs k).map (·.2)) (by rw[l];exact d.val k);obtain⟨p,t,n⟩:=oM1.mp i;refine wpAny_getItem_heap (tupleKind_room_in1 w) (og I.hok r) j t ?_;rw[n];exact h f _ (I.tok _) c
theorem Ku{Q:dD->dE->Prop}(n:A.units+1<cLine)(I:Inv X ag σ H s)(g:pf H a y o)(j:d6 y u)(h:∀ s',Inv X ag σ H s'->Q (.bool o.isSome) s'):
  dN (model X.prog X.w) A (compareOp .In u (.ref a)) Q E s:=by
 rcases g with⟨kvs,k,e,f,l⟩|⟨kvs,k,b,e,f,m,l⟩
 ·subst f;obtain⟨z,i,vs,c,d⟩:=tV I.hok e;refine wpAny_in_of (pZ j) i d.mapOf ?_;rw[<- (c.val k).isSome_eq,<- l];exact h _ (I.tok _)
 ·subst f;cases(show u=Value.ref b from j);obtain⟨z,i,xs,c,d⟩:=tT I.hok e;refine wpAny_in_heap (tupleKind_room_in1 n) (og I.hok m) i d ?_;have q:=(c.val k).isSome_eq;rw[bg]at q;rw[<- q,<- l];exact h _ (I.tok _)
theorem DM{Q:dD->dE->Prop}(n:A.units+1<cLine)(I:Inv X ag σ H s)(g:pf H a y o)(j:d6 y u)(h:∀ s',Inv X ag σ H s'->Q (.bool (!o.isSome)) s'):
  dN (model X.prog X.w) A (compareOp .NotIn u (.ref a)) Q E s:=by
 rcases g with⟨kvs,k,e,f,l⟩|⟨kvs,k,b,e,f,m,l⟩
 ·subst f;obtain⟨z,i,vs,c,d⟩:=tV I.hok e;refine wpAny_notIn_of (pZ j) i d.mapOf ?_;rw[<- (c.val k).isSome_eq,<- l];exact h _ (I.tok _)
 ·subst f;cases(show u=Value.ref b from j);obtain⟨z,i,xs,c,d⟩:=tT I.hok e;refine wpAny_notIn_heap (tupleKind_room_in1 n) (og I.hok m) i d ?_;have q:=(c.val k).isSome_eq;rw[bg]at q;rw[<- q,<- l];exact h _ (I.tok _)
theorem ln{h':dQ}{t':Nat}{c:HO}(I:Inv X ag σ H s)(mu:Mut (H a))(hs:Heap.SameBut a s.heap h')(he:∃ q,h'.get? a=some q)(new:eJ X.prog X.w (upd H a c) h' a c):
  Inv X ag σ (upd H a c) {s with heap:=h',toks:=t'}:=
 I.write (x:=a) (e:=a) mu (.inl O) (λb q d z=>(hs.2 b d).trans z) he new
theorem Bc{P:dG}{w:dI}{H':Hp}{h':dQ}{kvs:List (Key×V)}{vs:List (Key×dD)}(z:kvs.length<=dM)(hd:(a == sysModules)=false)(b:KV kvs vs)(dd:h'.DictOf (fe P w) a vs):
  eJ P w H' h' a (.dK kvs):=⟨z,hd,vs,b,dd⟩
theorem yA{H':Hp}{Q:Unit->dE->Prop}(G:A.units+1<cLine)(I:Inv X ag σ H s)(g:yQ H a y v H')(x:d6 y u)(B:d6 v r)(h:∀ s',Inv X ag σ H' s'->Q () s'):
  dN (model X.prog X.w) A (setItem (.ref a) u r) Q E s:=by
 rcases g with⟨kvs,k,e,p,l,o⟩|⟨kvs,k,b,e,p,C,l,o⟩
 ·subst p o;obtain⟨z,n,vs,d,t⟩:=w4 I.hok e;have j:vs.length<=dM:=by rw[<- d.length];exact z
  have m:(iw kvs k v).length<=dM:=by have:=ji kvs k v;lia
  refine wpAny_setItem_pairs (hsz:=j) (pZ x) t λh' f w=>h _ ?_;have L:∃q,h'.get? a=Z q:=let ⟨q,_,_,i,_⟩:=f;⟨q,i⟩
  exact ln I (by rw[e];exact True.intro) w L (Bc m n (d.put k B) f)
 ·subst p o;cases(show u=Value.ref b from x);obtain⟨z,n,xs,d,t⟩:=I0 I.hok e;have j:xs.length<=dM:=by rw[<- Paired.length d];exact z
  have m:(iw kvs k v).length<=dM:=by have:=ji kvs k v;lia
  refine wpAny_setItem_heap (hsz:=j) (tupleKind_room_in1 G) (og I.hok C) t λh' f w=>h _ ?_;obtain⟨q,es,ep,i,h2,K,am,_,F⟩:=f;refine ln I (by rw[e];exact True.intro) w ⟨q,i⟩ ⟨m,n,_,(d.put k C B).keeps λc ys D=>?_,q,es,ep,i,h2,K,am,F⟩;rw[dZ (Ir D e (λz=>nomatch z))];exact D
end
section
variable{X:Cx}{ag:List (dF×Obj)}{σ:St}{H:Hp}{s:dE}{a:dF}{kvs:List (Key×V)}{k:Key}{u:dD}{A:dH}{E:dD->dE->Prop}
end
theorem tX{X:Cx}{ag:List (dF×Obj)}{σ:St}{H:Hp}{s:dE}{a:dF}{y:V}{o:Option V}(I:Inv X ag σ H s)(g:pf H a y o):s.TypeIs (.ref a) "dict":=by
 rcases g with⟨kvs,k,e,_,_⟩|⟨kvs,k,b,e,_,_,_⟩
 ·obtain⟨_,_,vs,_,c⟩:=tV I.hok e;exact c.typeIs
 ·obtain⟨_,_,xs,_,c⟩:=tT I.hok e;exact c.typeIs
section
variable{X:Cx}{o i e value:Expr}{pos pos' tpos:Pos}{td ty tv:TE}
end
theorem tW{P:dG}{w:dI}{H:Hp}(h:dQ)(hb:sysModules<h.objs.size):eJ P w H (h.push {cls:=.type "dict",data:=.dict #[]}) h.objs.size (.dK []):=
 ⟨bi _,beq_eq_false_iff_ne.mpr (Ne.symm (nN1 hb)),[],.nil,Heap.DictOf.new h⟩
noncomputable def ER:TE:=λ_ H Q=>∀p,H p=Y->Q (.ref p) (upd H p (.dK []))
section
variable{X:Cx}{pos:Pos}
theorem zT:PE X (.Dict [] [] pos) ER:=λag s σ H Q I h=>
 wpAny_Dict_empty ⟨.ref s.heap.objs.size,_,I.laid (a:=s.heap.objs.size) (o:=.dK []) (t':=s.toks) (λ_ _ q=>hP1 _ q) (nR1 _) (tW s.heap I.big),O,h _ (I.hok.fresh (nR1 _))⟩
end
def qL:List (TE×TE)->St->Hp->(List (V×V)->Hp->Prop)->Prop
 |[],_,H,Q=>Q [] H
 |(tk,tv)::r,σ,H,Q=>tk σ H λx H1=>tv σ H1 λy H2=>qL r σ H2 λps H3=>Q ((x,y)::ps) H3
abbrev VV:List (V×V)->List (dD×dD)->Prop:=Paired λp q=>d6 p.1 q.1/\d6 p.2 q.2
def Jm(X:Cx)(pos:Pos)(keys:List (Option Expr))(values:List Expr)(trs:List (TE×TE)):Prop:=
 ∀(ag:List (dF×Obj)) (s:dE) (σ:St) (H:Hp) (Q:List (V×V)->Hp->Prop),Inv X ag σ H s->qL trs σ H Q ->
  dN (model X.prog X.w) X.A (evalPairs (pairTrees keys values X.env pos)) (λvs s'=>∃ps H',Inv X ag σ H' s'/\VV ps vs/\Q ps H') X.xe s
theorem Cv{X:Cx}{pos:Pos}:Jm X pos [] [] []:=λag s σ H Q I h=>pairTrees_nil_walk ⟨[],H,I,.nil,h⟩
theorem zJ{X:Cx}{pos:Pos}{k v:Expr}{ks:List (Option Expr)}{vs:List Expr}{tk tv:TE}{a:List (TE×TE)}(hk:PE X k tk)(hv:PE X v tv)(hr:Jm X pos ks vs a):
  Jm X pos (Z k::ks) (v::vs) ((tk,tv)::a):=λag s σ H Q I h=>
 pairTrees_cons_walk (fj (hk ag s σ H _ I h) λu n ⟨x,H1,e,m,g⟩=>fj (hv ag n σ H1 _ e g) λq l ⟨y,H2,i,c,j⟩=>
  fj (hr ag l σ H2 _ i j) λws p ⟨ps,f,d,b,o⟩=>⟨(x,y)::ps,f,d,.cons ⟨m,c⟩ b,o⟩)
noncomputable def iR(kvs more:List (Key×V)):List (Key×V):=more.foldl (λacc kv=>iw acc kv.1 kv.2) kvs
theorem KV.merge:∀{more:List (Key×V)} {rs:List (Key×dD)} {kvs:List (Key×V)} {vs:List (Key×dD)},KV more rs->KV kvs vs->KV (iR kvs more) (merged vs rs):=by
 intro more rs kvs vs r;unfold KV at r
 induction r generalizing kvs vs with
 |nil=>intro q;exact q
 | @cons p q ps b h t ih=>
  intro a;have e:KV (iw kvs p.1 p.2) (stored vs q.1 q.2):=by
   have:=a.put p.1 h.2;rw[<- h.1];exact this
  exact ih e
theorem jX:∀(more kvs:List (Key×V)),(iR kvs more).length<=kvs.length+more.length
 |[],kvs=>by show kvs.length<=kvs.length+0;lia
 |p::r,kvs=>by
  have h1:=jX r (iw kvs p.1 p.2);have h2:=ji kvs p.1 p.2;show(iR (iw kvs p.1 p.2) r).length<=_;rw[lC1];lia
theorem oC{P:dG}{w:dI}:∀{kvs:List (Key×V)} {ws:List (dD×dD)},VV (kvs.map λd=>(kV d.1,d.2)) ws -> ∃rs,Carries (fe P w) ws rs/\KV kvs rs
 |[],_,r=>by rw[aZ]at r;cases r;exact⟨[],True.intro,.nil⟩
 |p::kvs,_,r=>by
  rw[mP1]at r;cases r with
  | @cons a b as bs h t=>
   obtain⟨rs,c,q⟩:=oC (P:=P) (w:=w) t;obtain⟨b1,b2⟩:=b;exact⟨(p.1,b2)::rs,⟨pZ h.1,O,c⟩,.cons ⟨O,h.2⟩ q⟩
noncomputable def HN(trs:List (TE×TE)):TE:=fun σ H Q=>∀p,H p=Y->qL trs σ (upd H p (.dK [])) λps H2=>H2 p=Z (.dK []) /\ ∃kvs:List (Key×V),ps=kvs.map (λkv=>(kV kv.1,kv.2))/\kvs.length<=15/\Q (.ref p) (upd H2 p (.dK (iR [] kvs)))
theorem CD{X:Cx}{pos:Pos}{keys:List (Option Expr)}{values:List Expr}{d:List (TE×TE)}(h:Jm X pos keys values d)(f:keys.all (·.isSome)=M)(p:keys.length=values.length)(h0:keys≠[])(i:keys.length<=15):PE X (.Dict keys values pos) (HN d):=by
 intro ag s σ H Q I q;have t:=I.hok.fresh (nR1 s.heap.objs.size);have l:=I.laid (a:=s.heap.objs.size) (o:=.dK []) (h':=s.heap.push {cls:=.type "dict",data:=.dict #[]}) (t':=s.toks) (λ_ _ q=>hP1 _ q) (nR1 _) (tW s.heap I.big);refine wpAny_Dict_walk (knd:=fe X.prog X.w) f p h0 i (fj (h ag _ σ _ _ l (q _ t)) λws A ⟨ps,H2,j,g,e,kvs,ep,B,n⟩=>?_);subst ep;obtain⟨rs,c,rk⟩:=oC (P:=X.prog) (w:=X.w) g;obtain⟨z,r,v,m,u⟩:=w4 j.hok e;cases m;refine⟨rs,c,u,λh' b x=>⟨.ref s.heap.objs.size,_,?_,O,n⟩⟩;have k:(iR [] kvs).length<=dM:=by
  have h1:=jX kvs [];rw[bf]at h1;rw[sizeLine_eq];lia
 have y:∃q,h'.get? s.heap.objs.size=Z q:=let ⟨q,_,_,hq,_⟩:=b;⟨q,hq⟩
 exact ln j (by rw[e];exact True.intro) x y (Bc k r (rk.merge .nil) b)
structure M2 (X:Cx)(o:Expr)(m:Str)(apos:Pos)(e f:Expr)(cpos:Pos):Prop where
 base:attributeBase o m X.env (eval o X.env)=eval o X.env
 few:((backTo cpos (dL [e,f] X.env)).all (λx=> !x.1)&&(backToKw cpos (keywordEach [] X.env)).all (λx=>x.1.isSome)
  && decide (([e,f]:List Expr).length+([]:List Keyword).length+(if([]:List Keyword).isEmpty then 0 else 1)<30))=true
 line:(apos.endLine == cpos.line)=true
 trees:backTo cpos (dL [e,f] X.env)=[(false,eval e X.env),(false,eval f X.env)]
section
variable{X:Cx}{ag:List (dF×Obj)}{σ:St}{H:Hp}{s:dE}{a:dF}{y d:V}{u r:dD}{o:Option V}{A:dH}{E:dD->dE->Prop}
end
section
variable{X:Cx}{o e f:Expr}{apos cpos:Pos}{td ty tx:TE}
end
section
variable{X:Cx}{ag:List (dF×Obj)}{σ:St}{H:Hp}{s:dE}{a:dF}{kvs:List (Key×V)}{A:dH}{E:dD->dE->Prop}
end
section
variable{X:Cx}{ag:List (dF×Obj)}{σ:St}{H:Hp}{s:dE}{a:dF}{y:V}{u:dD}{A:dH}{E:dD->dE->Prop}
end
end L2
namespace Mi
open PySem PySem.Spec PyProof.Rows L2
inductive TK where
 |non|int (i:Int)|tup (xs:List TK)
instance:DecidableEq TK:=λ_ _=>Classical.propDecidable _
mutual
noncomputable def TK.hash:TK->Int
 | .non=>0xFCA86420
 | .int i=>hashInt i
 | .tup xs=>reduceHash (Builtin.Tuple.tupleHashOf (TK.hashes xs))
noncomputable def TK.hashes:List TK->List Int
 |[]=>[]
 |x::xs=>TK.hash x::TK.hashes xs
end
mutual
noncomputable def TK.draws:TK->Nat
 | .non=>1
 | .int _=>1
 | .tup xs=>TK.drawsAll xs+1
noncomputable def TK.drawsAll:List TK->Nat
 |[]=>0
 |x::xs=>TK.draws x+TK.drawsAll xs
end
mutual
noncomputable def TK.dep:TK->Nat
 | .non=>0
 | .int _=>0
 | .tup xs=>TK.depAll xs+1
noncomputable def TK.depAll:List TK->Nat
 |[]=>0
 |x::xs=>max (TK.dep x) (TK.depAll xs)
end
theorem TK.dep_mem:∀{xs:List TK} {x:TK},x∈xs->x.dep<=TK.depAll xs
 |y::ys,x,h=>by
  rw[TK.depAll];rcases aF.mp h with e|e
  ·rw[e];exact Nat.le_max_left _ _
  ·exact aC (TK.dep_mem e) (Nat.le_max_right _ _)
theorem TK.hashes_app:∀a b:List TK,TK.hashes (a++b)=TK.hashes a++TK.hashes b
 |[],_=>rfl
 |x::xs,b=>by rw[bj,TK.hashes,TK.hashes,TK.hashes_app xs b];rfl
theorem TK.draws_app:∀a b:List TK,TK.drawsAll (a++b)=TK.drawsAll a+TK.drawsAll b
 |[],_=>by simp[TK.drawsAll]
 |x::xs,b=>by rw[bj,TK.drawsAll,TK.drawsAll,TK.draws_app xs b,bm]
def vJ(xs:Array Nat):Prop:=xs.toList.Pairwise (· < ·)
noncomputable def D9(m:Nat):Nat->Nat->Nat->List Nat
 |0,_,_=>[]
 |n+1,i,b=>List.range' i (SetTable.runEnd m i-i+1)++D9 m n (SetTable.leap m i b).1 (SetTable.leap m i b).2
def Lc(m:Nat):Prop:=m=7\/m=31\/m=127
noncomputable def J4(m:Nat)(h:Int):List Nat:=D9 m (SetTable.turns m) (SetTable.bits h%(m+1)) (SetTable.bits h)
def J8(m:Nat)(occ:List Nat)(h:Int)(j:Nat):Prop:=∃pre post,J4 m h=pre++j::post /\ ∀y∈pre,y∈occ
structure J7 (es:Array (Int×dD))(t:SetTable):Prop where
 mks:Lc t.mask
 up:vJ t.place
 du:t.dummies = #[]
 sz:t.place.size=es.size
 le:∀j∈t.place.toList,j<=t.mask
 fl:es.size<=t.mask
 rc:∀z∈t.place.toList.zip es.toList,J8 t.mask t.place.toList z.2.1 z.1
noncomputable def stO(es:Array (Int×dD))(ep:Nat)(t:SetTable):Obj:={cls:=.type "set",dict:=Y,data:=.set es ep t,slots:= #[]}
def Jl(a:dF)(xs:List (TK×dF×dD))(h:dQ):Prop:=(xs.map (·.1)).Nodup /\ ∃es ep t,h.get? a=Z (stO es ep t)/\J7 es t/\t.tooFull=J/\(∀e∈es.toList,∃z∈xs,e=(z.1.hash,.ref z.2.1))/\(∀z∈xs,(z.1.hash,Value.ref z.2.1)∈es.toList)/\es.size=xs.length
inductive D where
 |non|bl (b:Bool)|int (i:Int)|str (x:Str)|tup (xs:List D)|rol (xs:List D)|ref (n:Nat)|fn (x:Str)
inductive Ob where
 |lst (xs:List D)|dct (kvs:List (Key×D))|dcT (kvs:List (TK×D))|iset (xs:List Int)|dcF (kvs:List (TK×D))|tst (ks:List TK)
abbrev Sto:=List Ob
abbrev Ev:=List (Option D)
abbrev FE:=Ev->Sto->Option (D×Sto)
abbrev FT:=Ev->Sto->Option (Bool×Sto)
abbrev FA:=Ev->Sto->Option (List D×Sto)
abbrev FN:=List D->Sto->Option (D×Sto)
inductive Fl where
 |nx|rt (d:D)|bk|ct
abbrev FS:=Ev->Sto->Option (Fl×Ev×Sto)
def RoL(K:Fg1)(H:Hp)(a:dF)(xs:List V):Prop:=(∃o,H a=Z (.frz o (.lst xs))) \/
 ∃(o:Obj) (its:Array dD) (n:Nat),K.lookup a=Z o/\o.cls = .type "list"/\o.dict=Y/\o.data = .seq its n/\its.size<=dM/\ei xs its.toList
theorem RoL.sq{K:Fg1}{H:Hp}{a:dF}{xs:List V}(h:RoL K H a xs):mX K H a xs:=h.elim (λ⟨o,q⟩=>.inl (.inr ⟨o,q⟩)) .inr
mutual
inductive eK (K:Fg1)(H:Hp)(mu:List dF):D->V->Prop
 |non:eK K H mu .non .non
 |bl (b:Bool):eK K H mu (.bl b) (.bl b)
 |int (i:Int):eK K H mu (.int i) (.int i)
 |str (x:Str):eK K H mu (.str x) (.str x)
 |tup {ds:List D} {vs:List V} {a:dF} (h:j6 K H a vs) (r:d4 K H mu ds vs):eK K H mu (.tup ds) (.ref a)
 |rol {ds:List D} {vs:List V} {a:dF} (h:RoL K H a vs) (r:d4 K H mu ds vs):eK K H mu (.rol ds) (.ref a)
 |ref {n:Nat} {a:dF} (h:mu[n]?=some a):eK K H mu (.ref n) (.ref a)
 |fn {x:Str} {a:dF} (h:wN1 K dJ x=some (some (.ref a))):eK K H mu (.fn x) (.ref a)
inductive d4 (K:Fg1)(H:Hp)(mu:List dF):List D->List V->Prop
 |nil:d4 K H mu [] []
 |cons {d:D} {v:V} {ds:List D} {vs:List V} (r:eK K H mu d v) (t:d4 K H mu ds vs):d4 K H mu (d::ds) (v::vs)
end
structure Ext (mu mu':List dF)(H H':Hp):Prop where
 pre:mu <+: mu'
 old:∀a o,H a=some o->a∉mu->H' a=some o
 tup:∀a xs,Rd H a (.tup xs)->Rd H' a (.tup xs)
 frz:∀a o u,H a=some (.frz o u)->H' a=some (.frz o u)
 new:∀a∈mu',a∈mu\/H a=none
theorem Ext.refl(mu:List dF)(H:Hp):Ext mu mu H H:=⟨bn,λ_ _ h _=>h,λ_ _ h=>h,λ_ _ _ h=>h,λ_ h=>.inl h⟩
theorem Ext.trans{mu m1 m2:List dF}{H H1 H2:Hp}(a:Ext mu m1 H H1)(b:Ext m1 m2 H1 H2):Ext mu m2 H H2 where
 pre:=a.pre.trans b.pre
 old:=λc o h n=>b.old c o (a.old c o h n) λz=>by
  rcases a.new c z with q|q
  ·exact n q
  ·rw[h]at q;cases q
 tup:=λc xs h=>b.tup c xs (a.tup c xs h)
 frz:=λc o u h=>b.frz c o u (a.frz c o u h)
 new:=λc h=>by
  rcases b.new c h with q|q
  ·exact a.new c q
  ·by_cases z:c∈mu
   ·exact .inl z
   ·right;cases e:H c with
    |none=>rfl
    |some o=>rw[a.old c o e z]at q;cases q
theorem Ext.at{mu mu':List dF}{H H':Hp}(e:Ext mu mu' H H'){n:Nat}{a:dF}(h:mu[n]?=Z a):mu'[n]?=Z a:=by
 obtain⟨t,rfl⟩:=e.pre;have b:n<mu.length:=(gE1.mp h).1;rw[gL1 b];exact h
theorem Ext.back{mu mu':List dF}{H H':Hp}(e:Ext mu mu' H H'):Ext mu mu H H':=⟨bn,e.old,e.tup,e.frz,λ_ h=>.inl h⟩
structure r9 (mu mu':List dF)(H H':Hp):Prop where
 pre:mu <+: mu'
 tup:∀a xs,Rd H a (.tup xs)->Rd H' a (.tup xs)
 frz:∀a o u,H a=some (.frz o u)->H' a=some (.frz o u)
theorem Ext.w{mu mu':List dF}{H H':Hp}(e:Ext mu mu' H H'):r9 mu mu' H H':=⟨e.pre,e.tup,e.frz⟩
theorem r9.trans{mu m1 m2:List dF}{H H1 H2:Hp}(a:r9 mu m1 H H1)(b:r9 m1 m2 H1 H2):r9 mu m2 H H2:=⟨a.pre.trans b.pre,λc xs h=>b.tup c xs (a.tup c xs h),λc o u h=>b.frz c o u (a.frz c o u h)⟩
theorem r9.at{mu mu':List dF}{H H':Hp}(e:r9 mu mu' H H'){n:Nat}{a:dF}(h:mu[n]?=Z a):mu'[n]?=Z a:=by
 obtain⟨t,rfl⟩:=e.pre;have b:n<mu.length:=(gE1.mp h).1;rw[gL1 b];exact h
structure yV (mu mu':List dF)(H H':Hp):Prop where
 pre:mu <+: mu'
 tup:∀a xs,Rd H a (.tup xs)->Rd H' a (.tup xs)
 frl:∀a o xs,H a=some (.frz o (.lst xs))->H' a=some (.frz o (.lst xs))
theorem r9.v{mu mu':List dF}{H H':Hp}(e:r9 mu mu' H H'):yV mu mu' H H':=⟨e.pre,e.tup,λa o xs h=>e.frz a o _ h⟩
theorem Ext.v{mu mu':List dF}{H H':Hp}(e:Ext mu mu' H H'):yV mu mu' H H':=e.w.v
theorem yV.at{mu mu':List dF}{H H':Hp}(e:yV mu mu' H H'){n:Nat}{a:dF}(h:mu[n]?=Z a):mu'[n]?=Z a:=by
 obtain⟨t,rfl⟩:=e.pre;have b:n<mu.length:=(gE1.mp h).1;rw[gL1 b];exact h
theorem j6.exv{K:Fg1}{mu mu':List dF}{H H':Hp}{a:dF}{vs:List V}(e:yV mu mu' H H')(h:j6 K H a vs):j6 K H' a vs:=by
 rcases h with h|h
 ·exact .inl (e.tup a vs h)
 ·exact .inr h
theorem RoL.exv{K:Fg1}{mu mu':List dF}{H H':Hp}{a:dF}{vs:List V}(e:yV mu mu' H H')(h:RoL K H a vs):RoL K H' a vs:=by
 rcases h with⟨o,h⟩|h
 ·exact .inl ⟨o,e.frl a o _ h⟩
 ·exact .inr h
theorem eK.exv{K:Fg1}{mu mu':List dF}{H H':Hp}(e:yV mu mu' H H'):∀ {d:D} {v:V},eK K H mu d v->eK K H' mu' d v:=fun h=>h.rec (motive_1:=fun d v _=>eK K H' mu' d v) (motive_2:=fun ds vs _=>d4 K H' mu' ds vs)
  .non .bl .int .str (λh _ ih=>.tup (j6.exv e h) ih) (λh _ ih=>.rol (RoL.exv e h) ih) (λh=>.ref (e.at h)) (λh=>.fn h) .nil (λ_ _ a b=>.cons a b)
theorem d4.ind{K:Fg1}{mu:List dF}{H:Hp}{P:(ds:List D)->(vs:List V)->d4 K H mu ds vs->Prop}(hn:P [] [] .nil)(hc:∀{d v ds vs} (r:eK K H mu d v) (t:d4 K H mu ds vs),P ds vs t->P (d::ds) (v::vs) (.cons r t)){ds:List D}{vs:List V}(h:d4 K H mu ds vs):P ds vs h:=
 h.rec (motive_1:=λ_ _ _=>True) (motive_2:=P) trivial (λ_=>trivial) (λ_=>trivial) (λ_=>trivial) (λ_ _ _=>trivial) (λ_ _ _=>trivial) (λ_=>trivial) (λ_=>trivial) hn (λr t _ ih=>hc r t ih)
theorem d4.exv{K:Fg1}{mu mu':List dF}{H H':Hp}(e:yV mu mu' H H'):∀{ds:List D} {vs:List V},d4 K H mu ds vs->d4 K H' mu' ds vs:=λh=>h.ind (P:=λds vs _=>d4 K H' mu' ds vs) .nil λr _ ih=>.cons (eK.exv e r) ih
section
variable{K:Fg1}{mu mu':List dF}{H H':Hp}{a:dF}{vs:List V}
theorem eK.exw(e:r9 mu mu' H H'){d:D}{v:V}(h:eK K H mu d v):eK K H' mu' d v:=h.exv e.v
theorem d4.exw(e:r9 mu mu' H H'){ds:List D}(h:d4 K H mu ds vs):d4 K H' mu' ds vs:=h.exv e.v
theorem eK.ext(e:Ext mu mu' H H'){d:D}{v:V}(h:eK K H mu d v):eK K H' mu' d v:=h.exv e.v
theorem d4.ext(e:Ext mu mu' H H'){ds:List D}(h:d4 K H mu ds vs):d4 K H' mu' ds vs:=h.exv e.v
end
section
variable{K:Fg1}{H:Hp}{mu:List dF}
theorem d4.length:∀{ds:List D} {vs:List V},d4 K H mu ds vs->ds.length=vs.length:=λh=>h.ind (P:=λds vs _=>ds.length=vs.length) O λ_ _ ih=>congrArg (· + 1) ih
theorem d4.get:∀{ds:List D} {vs:List V} {i:Nat} {d:D},d4 K H mu ds vs->ds[i]?=Z d -> ∃v,vs[i]?=Z v/\eK K H mu d v:=by
 intro ds vs i d h e
 induction h using d4.ind generalizing i with
 |hn=>cases e
 |hc r t ih=>cases i with
  |zero=>cases e;exact⟨_,O,r⟩
  |succ i=>exact ih (i:=i) e
theorem d4.getV:∀{ds:List D} {vs:List V} {i:Nat} {v:V},d4 K H mu ds vs->vs[i]?=Z v -> ∃d,ds[i]?=Z d/\eK K H mu d v:=by
 intro ds vs i d h e
 induction h using d4.ind generalizing i with
 |hn=>cases e
 |hc r t ih=>cases i with
  |zero=>cases e;exact⟨_,O,r⟩
  |succ i=>exact ih (i:=i) e
theorem d4.append:∀{ds es:List D} {vs ws:List V},d4 K H mu ds vs->d4 K H mu es ws->d4 K H mu (ds++es) (vs++ws):=λh s=>h.ind (P:=λds vs _=>d4 K H mu (ds++_) (vs++_)) s λr _ ih=>.cons r ih
theorem d4.take:∀{ds:List D} {vs:List V} (n:Nat),d4 K H mu ds vs->d4 K H mu (ds.take n) (vs.take n):=by
 intro ds vs n h
 induction h using d4.ind generalizing n with
 |hn=>rw[av,av];exact .nil
 |hc r t ih=>cases n with
  |zero=>exact .nil
  |succ n=>exact .cons r (ih n)
theorem d4.drop:∀{ds:List D} {vs:List V} (n:Nat),d4 K H mu ds vs->d4 K H mu (ds.drop n) (vs.drop n):=by
 intro ds vs n h
 induction h using d4.ind generalizing n with
 |hn=>rw[aw,aw];exact .nil
 |hc r t ih=>cases n with
  |zero=>exact .cons r t
  |succ n=>exact ih n
theorem d4.set{d:D}{v:V}(r:eK K H mu d v):∀{ds:List D} {vs:List V} (i:Nat),d4 K H mu ds vs->d4 K H mu (ds.set i d) (vs.set i v):=by
 intro ds vs i h
 induction h using d4.ind generalizing i with
 |hn=>exact .nil
 |hc q t ih=>cases i with
  |zero=>exact .cons r t
  |succ i=>exact .cons q (ih i)
theorem d4.eraseIdx:∀{ds:List D} {vs:List V} (i:Nat),d4 K H mu ds vs->d4 K H mu (ds.eraseIdx i) (vs.eraseIdx i):=by
 intro ds vs i h
 induction h using d4.ind generalizing i with
 |hn=>exact .nil
 |hc q t ih=>cases i with
  |zero=>exact t
  |succ i=>exact .cons q (ih i)
end
def KR{κ:Type}(K:Fg1)(H:Hp)(mu:List dF):List (κ×D)->List (κ×V)->Prop:=Paired λp q=>p.1=q.1/\eK K H mu p.2 q.2
mutual
noncomputable def tkD:TK->D
 | .non=>.non
 | .int i=>.int i
 | .tup xs=>.tup (ic xs)
noncomputable def ic:List TK->List D
 |[]=>[]
 |x::xs=>tkD x::ic xs
end
def gh(a:dF)(xs:List (TK×dF×dD))(h:dQ):Prop:=(a == sysModules)=J/\(xs.map (·.1)).Nodup /\ ∃o es ep,h.get? a=Z o/\o.ExactDict/\o.data = .dict es ep/\es.toList=xs.map λx=>(⟨x.1.hash,.ref x.2.1,x.2.2⟩:DictEntry)
def xm(a:dF)(xs:List (TK×dF×dD))(o:Obj):Prop:=(a == sysModules)=J/\(xs.map (·.1)).Nodup/\o.ExactDict /\ ∃es ep,o.data = .dict es ep/\es.toList=xs.map λx=>(⟨x.1.hash,.ref x.2.1,x.2.2⟩:DictEntry)
def KT(K:Fg1)(H:Hp)(mu:List dF):List (TK×D)->List (TK×dF×dD)->Prop:=Paired λp q=>p.1=q.1/\p.1.dep<=8/\eK K H mu (tkD p.1) (.ref q.2.1) /\ ∃v,d6 v q.2.2/\eK K H mu p.2 v
def kl(K:Fg1)(H:Hp)(mu:List dF)(a:dF):Ob->Prop
 | .lst ds=>∃vs,H a=Z (.lst vs)/\d4 K H mu ds vs
 | .dct kvs=>∃ws,H a=Z (.dK ws)/\KR K H mu kvs ws
 | .dcT kvs=>∃xs,H a=Z (.ext (gh a xs))/\KT K H mu kvs xs/\xs.length<=dM
 | .iset xs=>H a=Z (.set (λk=>xs.contains k) xs.length)/\xs.Nodup
 | .dcF kvs=>∃xs,(∃o u,H a=Z (.frz o u)/\xm a xs o)/\KT K H mu kvs xs/\xs.length<=dM
 | .tst ks=>∃xs,H a=Z (.ext (Jl a xs))/\KT K H mu (ks.map λk=>(k,D.non)) xs
structure Sim (K:Fg1)(H:Hp)(mu:List dF)(S:Sto):Prop where
 len:mu.length=S.length
 nd:mu.Nodup
 ob:∀(n:Nat) (o:Ob) (a:dF),S[n]?=some o->mu[n]?=some a->kl K H mu a o
structure fD (K:Fg1)(H:Hp)(mu:List dF)(r:Ev)(σ:L2.St):Prop where
 len:r.length=σ.length
 val:∀(i:Nat) (d:D),r[i]?=some (some d) -> ∃v,σ[i]?=some (some v)/\eK K H mu d v
theorem fD.ext{K:Fg1}{mu mu':List dF}{H H':Hp}{r:Ev}{σ:L2.St}(e:Ext mu mu' H H')(h:fD K H mu r σ):fD K H' mu' r σ:=⟨h.len,λi d q=>by
 obtain⟨v,b,a⟩:=h.val i d q;exact⟨v,b,a.ext e⟩⟩
theorem KR.ext{κ:Type}{K:Fg1}{mu mu':List dF}{H H':Hp}{ks:List (κ×D)}{ws:List (κ×V)}(e:Ext mu mu' H H')(h:KR K H mu ks ws):KR K H' mu' ks ws:=
 Paired.mapP h λ_ _ z=>⟨z.1,z.2.ext e⟩
theorem KT.ext{K:Fg1}{mu mu':List dF}{H H':Hp}{ks:List (TK×D)}{ws:List (TK×dF×dD)}(e:Ext mu mu' H H')(h:KT K H mu ks ws):KT K H' mu' ks ws:=
 Paired.mapP h λ_ _ ⟨z,d,k,v,a,r⟩=>⟨z,d,k.ext e,v,a,r.ext e⟩
theorem Sim.nil{K:Fg1}{H:Hp}:Sim K H [] []:=⟨O,bo,λn o a h=>by simp at h⟩
theorem Sim.here{K:Fg1}{H:Hp}{mu:List dF}{S:Sto}(s:Sim K H mu S){a:dF}(h:a∈mu):∃o,H a=Z o:=by
 obtain⟨n,b⟩:=bq h;have c:n<S.length:=by rw[<- s.len];exact(gE1.mp b).1
 have q:=s.ob n _ a (gG1 c) b;cases e:S[n]with
 |lst ds=>rw[e]at q;obtain⟨vs,z,_⟩:=q;exact⟨_,z⟩
 |dct ks=>rw[e]at q;obtain⟨vs,z,_⟩:=q;exact⟨_,z⟩
 |dcT ks=>rw[e]at q;obtain⟨vs,z,_⟩:=q;exact⟨_,z⟩
 |iset xs=>rw[e]at q;exact⟨_,q.1⟩
 |dcF ks=>rw[e]at q;obtain⟨vs,⟨_,_,z,_⟩,_⟩:=q;exact⟨_,z⟩
 |tst ks=>rw[e]at q;obtain⟨vs,z,_⟩:=q;exact⟨_,z⟩
def ph(K:Fg1)(mu:List dF)(H:Hp)(d:D)(S':Sto)(Q:VK):Prop:=∀v H' mu',Ext mu mu' H H'->eK K H' mu' d v->Sim K H' mu' S'->Q v H'
inductive tM (K:Fg1)(m:FE)(σ:L2.St)(H:Hp)(Q:VK):Prop
 |mk (r:Ev) (mu:List dF) (S:Sto) (d:D) (S':Sto) (he:fD K H mu r σ) (hs:Sim K H mu S) (hm:m r S=some (d,S')) (hc:ph K mu H d S' Q)
inductive xA (K:Fg1)(m:FT)(σ:L2.St)(H:Hp)(Q:Bool->Hp->Prop):Prop
 |mk (r:Ev) (mu:List dF) (S:Sto) (b:Bool) (S':Sto) (he:fD K H mu r σ) (hs:Sim K H mu S) (hm:m r S=some (b,S')) (hc:∀H' mu',Ext mu mu' H H'->Sim K H' mu' S'->Q b H')
inductive KH (K:Fg1)(m:FA)(σ:L2.St)(H:Hp)(Q:List V->Hp->Prop):Prop
 |mk (r:Ev) (mu:List dF) (S:Sto) (ds:List D) (S':Sto) (he:fD K H mu r σ) (hs:Sim K H mu S) (hm:m r S=some (ds,S')) (hc:∀vs H' mu',Ext mu mu' H H'->d4 K H' mu' ds vs->Sim K H' mu' S'->Q vs H')
def JU(K:Fg1)(mu:List dF)(H:Hp)(r':Ev)(S':Sto)(E:i4)(f:Fl):Prop:=match f with
 | .nx=>∀ σ' H' mu',Ext mu mu' H H'->fD K H' mu' r' σ'->Sim K H' mu' S'->E.nx σ' H'
 | .bk=>∀ σ' H' mu',Ext mu mu' H H'->fD K H' mu' r' σ'->Sim K H' mu' S'->E.bk σ' H'
 | .ct=>∀ σ' H' mu',Ext mu mu' H H'->fD K H' mu' r' σ'->Sim K H' mu' S'->E.ct σ' H'
 | .rt d=>ph K mu H d S' E.rt
inductive vV (K:Fg1)(m:FS)(E:i4)(σ:L2.St)(H:Hp):Prop
 |mk (r:Ev) (mu:List dF) (S:Sto) (f:Fl) (r':Ev) (S':Sto) (he:fD K H mu r σ) (hs:Sim K H mu S) (hm:m r S=some (f,r',S')) (hc:JU K mu H r' S' E f)
inductive rN (K:Fg1)(f:FN)(vs:List V)(H:Hp)(Q:VK):Prop
 |mk (mu:List dF) (S:Sto) (ds:List D) (d:D) (S':Sto) (hr:d4 K H mu ds vs) (hs:Sim K H mu S) (hm:f ds S=some (d,S')) (hc:ph K mu H d S' Q)
abbrev ME(X:Cx)(e:Expr)(m:FE):Prop:=PE X e (tM X.K m)
abbrev MT(X:Cx)(e:Expr)(m:FT):Prop:=PT X e (xA X.K m)
abbrev MW(X:Cx)(e:Expr)(m:FT):Prop:=PW X e (xA X.K m)
abbrev MA(X:Cx)(es:List Expr)(m:FA):Prop:=PA X es (KH X.K m)
abbrev MS(X:Cx)(st:dS)(m:FS):Prop:=PS X st (vV X.K m)
abbrev yN(X:Cx)(st:List dS)(m:FS):Prop:=uu X st (vV X.K m)
section
variable{X:Cx}{e:Expr}{es:List Expr}{st:dS}{sts:List dS}
theorem eV{t t':TE}(h:PE X e t)(i:∀ σ H Q,t' σ H Q->t σ H Q):PE X e t':=λag s σ H Q I q=>h ag s σ H Q I (i σ H Q q)
theorem uQ{t t':TT}(h:PT X e t)(i:∀ σ H Q,t' σ H Q->t σ H Q):PT X e t':=λag s σ H Q I q=>h ag s σ H Q I (i σ H Q q)
theorem zC{t t':TT}(h:PW X e t)(i:∀ σ H Q,t' σ H Q->t σ H Q):PW X e t':=λa ag s σ H Q I q=>h a ag s σ H Q I (i σ H Q q)
theorem zW{t t':TA}(h:PA X es t)(i:∀ σ H Q,t' σ H Q->t σ H Q):PA X es t':=λpos ag s σ H Q I q=>h pos ag s σ H Q I (i σ H Q q)
theorem ie{t t':TS}(h:PS X st t)(i:∀E σ H,t' E σ H->t E σ H):PS X st t':=λag s σ H E I q=>h ag s σ H E I (i E σ H q)
theorem rj{t t':TS}(h:uu X sts t)(i:∀E σ H,t' E σ H->t E σ H):uu X sts t':=λag s σ H E I q=>h ag s σ H E I (i E σ H q)
end
noncomputable def mV (i:Nat):FE:=λr S=>match r[i]? with
 |some (some d)=>some (d,S)
 |_=>none
noncomputable def mC (d:D):FE:=λ_ S=>some (d,S)
section
variable{X:Cx}{pos:Pos}
theorem Gj (i:Nat){x:Str}(hN:X.N[i]?=Z x)(hv:He X.env.scope x)(hd:(x == ("__debug__":Str))=J:=by decide)(hcd:(x == ("__classdict__":Str))=J:=by decide):ME X (.Name x pos) (mV i):=
 eV (zQ hN hv hd hcd) <| by
  rintro σ H Q ⟨r,mu,S,d,h,g,f,a,hc⟩;unfold mV at a;split at a
  ·rename_i j e;cases a;obtain⟨v,c,b⟩:=g.val i _ e;exact⟨v,c,hc v H mu (.refl _ _) b f⟩
  ·cases a
theorem Au{e:Expr}{v:V}(d:D)(h:PE X e (tC v))(hr:∀H mu,eK X.K H mu d v):ME X e (mC d):=
 eV h <| by
  rintro σ H Q ⟨r,mu,S,f,c,g,a,b,hc⟩;cases b;exact hc v H mu (.refl _ _) (hr H mu) a
theorem Gs{i:Int}{j}:ME X (.Constant (.int i) j pos) (mC (.int i)):=Au _ FC λ_ _=>.int i
theorem Iz{b:Bool}{j}:ME X (.Constant (.bool b) j pos) (mC (.bl b)):=Au _ Ih λ_ _=>.bl b
theorem Gq{j}:ME X (.Constant .none j pos) (mC .non):=Au _ Fz λ_ _=>.non
theorem Gm{x:Str}{j}:ME X (.Constant (.str x) j pos) (mC (.str x)):=Au _ Fv λ_ _=>.str x
end
noncomputable def dW:FA:=λ_ S=>Z ([],S)
noncomputable def dV (m:FE)(n:FA):FA:=λr S=>(m r S).bind λp=>(n r p.2).bind λq=>some (p.1::q.1,q.2)
section
variable{X:Cx}{pos:Pos}{e:Expr}{es:List Expr}{m:FE}{n:FA}
theorem Gw:MA X [] dW:=zW nW <| by
 rintro σ H Q ⟨r,mu,S,ds,d,c,b,a,hc⟩;cases a;exact hc [] H mu (.refl _ _) .nil b
theorem C8(h:ME X e m)(ht:MA X es n)(hs:dL (e::es) X.env=(J,eval e X.env)::dL es X.env:=by rfl):MA X (e::es) (dV m n):=
 zW (jD h ht hs) <| by
  rintro σ H Q ⟨r,mu,S,ds,s,i,hs,a,hc⟩;unfold dV at a;obtain⟨⟨d,f⟩,l,a⟩:=oB1.mp a;obtain⟨⟨b,t⟩,o,a⟩:=oB1.mp a;cases a;refine⟨r,mu,S,d,f,i,hs,l,λv H1 mu1 j k q=>?_⟩;refine⟨r,mu1,f,b,_,i.ext j,q,o,λvs H2 c g r2 p=>?_⟩;exact hc _ H2 c (j.trans g) (.cons (k.ext g) r2) p
end
noncomputable def m2 (f:FN)(a b:FE):FE:=λr S=>(a r S).bind λp=>(b r p.2).bind λq=>f [p.1,q.1] q.2
noncomputable def m1 (f:FN)(a:FE):FE:=λr S=>(a r S).bind λp=>f [p.1] p.2
noncomputable def mN (f:FN)(a:FA):FE:=λr S=>(a r S).bind λp=>f p.1 p.2
abbrev r2(K:Fg1)(f:FN):R2:=λx y H Q=>rN K f [x,y] H Q
section
variable{X:Cx}{K:Fg1}{f:FN}{a b:FE}{σ:L2.St}{H:Hp}{Q:VK}
theorem wz(h:tM K (m2 f a b) σ H Q):HH (r2 K f) (tM K a) (tM K b) σ H Q:=by
 obtain⟨r,mu,S,d,s,o,A,c,hc⟩:=h;obtain⟨⟨j,k⟩,y,c⟩:=oB1.mp c;obtain⟨⟨m,i⟩,w,c⟩:=oB1.mp c;refine⟨r,mu,S,j,k,o,A,y,λv H1 mu1 n q C=>?_⟩;refine⟨r,mu1,k,m,i,o.ext n,C,w,λu H2 e l r2 x=>?_⟩;exact⟨e,i,[j,m],d,s,.cons (q.ext l) (.cons r2 .nil),x,c,λv p g B z t=>hc v p g ((n.trans l).trans B) z t⟩
theorem Ax{a:FA}(h:tM K (mN f a) σ H Q):KH K a σ H λvs H1=>rN K f vs H1 Q:=by
 obtain⟨r,mu,S,d,j,q,m,b,hc⟩:=h;obtain⟨⟨e,g⟩,k,b⟩:=oB1.mp b;refine⟨r,mu,S,e,g,q,m,k,λv H1 mu1 s i t=>?_⟩;exact⟨mu1,g,e,d,j,i,t,b,λv n c o p l=>hc v n c (s.trans o) p l⟩
theorem Iw{op:Operator}{x y:Expr}{pos:Pos}(ho:fX X (binaryOp op) (r2 X.K f))(hx:ME X x a)(hy:ME X y b):ME X (.BinOp x op y pos) (m2 f a b):=eV (Ic ho hx hy) λ_ _ _=>wz
theorem Gu{op:CmpOp}{x y:Expr}{pos:Pos}(ho:fX X (compareOp op) (r2 X.K f))(hx:ME X x a)(hy:ME X y b)(hm:behindInMarks op y=J):ME X (.Compare x [op] [y] pos) (m2 f a b):=eV (CF ho hx hy hm) λ_ _ _=>wz
theorem Ix{x y:Expr}{pos:Pos}(ho:Ex X (r2 X.K f))(hx:ME X x a)(hy:ME X y b)(hs:nl y):ME X (.Subscript x y pos) (m2 f a b):=eV (Ie ho hx hy hs) λ_ _ _=>wz
theorem At {x:Str}{p pos:Pos}{e:Expr}{es:List Expr}{id:String}{a:FA}(hc:e9 X (.builtin id) (rN X.K f))(hg:Gl X x)(hm:X.mg x=none)(hv:bootBuiltins x=some (.builtin id))(ha:MA X (e::es) a)(hn:x≠"__name__":=by decide)(hdb:(x == ("__debug__":Str))=false:=by decide)
  (he:dL (e::es) X.env=(J,eval e X.env)::dL es X.env:=by rfl) (hpl:(backTo pos (dL es X.env)).any (·.1)=J:=by rfl):ME X (.Call (.Name x p) (e::es) [] pos) (mN f a):=
 eV (nU hc hg hm hv ha hn hdb he hpl) λ_ _ _=>Ax
theorem x0 {x:Str}{p pos:Pos}{e:Expr}{es:List Expr}{T:String}{a:FA}(hc:e9 X (.type T) (rN X.K f))(hg:Gl X x)(hm:X.mg x=none)(hv:bootBuiltins x=some (.type T))(ha:MA X (e::es) a)(hn:x≠"__name__":=by decide)(hdb:(x == ("__debug__":Str))=false:=by decide)
  (he:dL (e::es) X.env=(J,eval e X.env)::dL es X.env:=by rfl) (hpl:(backTo pos (dL es X.env)).any (·.1)=J:=by rfl):ME X (.Call (.Name x p) (e::es) [] pos) (mN f a):=
 eV (lQ hc hg hm hv ha hn hdb he hpl) λ_ _ _=>Ax
end
noncomputable def mB (m:FE):FT:=λr S=>(m r S).bind λp=>match p.1 with
 | .bl b=>some (b,p.2)
 |_=>none
theorem IC{K:Fg1}{m:FE}{σ:L2.St}{H:Hp}{Q:Bool->Hp->Prop}(h:xA K (mB m) σ H Q):tB (tM K m) σ H Q:=by
 obtain⟨r,mu,S,b,l,g,f,a,hc⟩:=h;obtain⟨⟨e,n⟩,d,a⟩:=oB1.mp a;cases e with
 |bl k=>
  cases a;refine⟨r,mu,S,_,_,g,f,d,λv H1 mu1 i c j=>?_⟩;cases c;exact⟨_,O,hc H1 mu1 i j⟩
 |_=>cases a
noncomputable def x9(a b:FT):FT:=λr S=>(a r S).bind λp=>if p.1=M then b r p.2 else Z (J,p.2)
noncomputable def Ee(a b:FT):FT:=λr S=>(a r S).bind λp=>if p.1=M then Z (M,p.2)else b r p.2
noncomputable def oW(a:FT):FT:=λr S=>(a r S).bind λp=>Z (!p.1,p.2)
noncomputable def gg(a b:FE):FE:=λr S=>(a r S).bind λp=>match p.1 with
 | .bl c=>if c=M then b r p.2 else Z (.bl J,p.2)
 |_=>Y
noncomputable def Lw(a b:FE):FE:=λr S=>(a r S).bind λp=>match p.1 with
 | .bl c=>if c=M then Z (.bl M,p.2)else b r p.2
 |_=>Y
noncomputable def wx(a:FE):FE:=λr S=>(a r S).bind λp=>match p.1 with
 | .bl c=>Z (.bl (!c),p.2)
 |_=>Y
noncomputable def Ay(c:FT)(a b:FE):FE:=λr S=>(c r S).bind λp=>if p.1=M then a r p.2 else b r p.2
section
variable{X:Cx}{x y c:Expr}{rest:List Expr}{pos:Pos}{a b:FT}{f g:FE}
theorem F5{op:CmpOp}{f:FN}{a b:FE}(ho:fX X (compareOp op) (r2 X.K f))(hx:ME X x a)(hy:ME X y b)(hm:behindInMarks op y=J):MT X (.Compare x [op] [y] pos) (mB (m2 f a b)):=
 uQ (Cq ho hx hy hm) fun σ H Q h=>by
  obtain⟨r,mu,S,d,e,i,g,hm,hc⟩:=IC h;exact wz ⟨r,mu,S,d,e,i,g,hm,λv H' mu' j c k=>hc v H' mu' j c k⟩
theorem CQ(ha:MT X x a):MW X (.BoolOp .And [x] pos) a:=Cn ha
theorem F2(ha:MT X x a):MW X (.BoolOp .Or [x] pos) a:=Fc ha
theorem F3(ha:MT X x a)(hb:MW X (.BoolOp .And (y::rest) pos) b):MW X (.BoolOp .And (x::y::rest) pos) (x9 a b):=
 zC (Fd ha hb) <| by
  rintro σ H Q ⟨r,mu,S,k,i,g,l,c,hc⟩;obtain⟨⟨b1,f⟩,j,c⟩:=oB1.mp c;refine⟨r,mu,S,b1,f,g,l,j,λH1 mu1 d h=>?_⟩;cases b1 with
  |true=>exact⟨r,mu1,f,k,i,g.ext d,h,c,λH2 e m n=>hc H2 e (d.trans m) n⟩
  |false=>cases c;exact hc H1 mu1 d h
theorem Iu(ha:MT X x a)(hb:MW X (.BoolOp .Or (y::rest) pos) b):MW X (.BoolOp .Or (x::y::rest) pos) (Ee a b):=
 zC (H7 ha hb) <| by
  rintro σ H Q ⟨r,mu,S,k,i,g,l,c,hc⟩;obtain⟨⟨b1,f⟩,j,c⟩:=oB1.mp c;refine⟨r,mu,S,b1,f,g,l,j,λH1 mu1 d h=>?_⟩;cases b1 with
  |false=>exact⟨r,mu1,f,k,i,g.ext d,h,c,λH2 e m n=>hc H2 e (d.trans m) n⟩
  |true=>cases c;exact hc H1 mu1 d h
theorem Kk(h:MW X x a):MT X x a:=PW.pt h
theorem F4(ha:MT X x a):MT X (.UnaryOp .Not x pos) (oW a):=
 uQ (Ff ha) <| by
  rintro σ H Q ⟨r,mu,S,k,i,f,e,b,hc⟩;obtain⟨⟨b1,d⟩,c,b⟩:=oB1.mp b;cases b;exact⟨r,mu,S,b1,d,f,e,c,λH1 mu1 g h=>hc H1 mu1 g h⟩
theorem Go{op}(h:ME X x f):ME X (.BoolOp op [x] pos) f:=Fx h
theorem Gv(ha:ME X x f)(hb:ME X (.BoolOp .And (y::rest) pos) g):ME X (.BoolOp .And (x::y::rest) pos) (gg f g):=
 eV (FH ha hb) <| by
  rintro σ H Q ⟨r,mu,S,k,l,h,o,a,hc⟩;obtain⟨⟨d,e⟩,m,a⟩:=oB1.mp a;refine⟨r,mu,S,d,e,h,o,m,λv H1 mu1 b j i=>?_⟩;cases d with
  |bl b1=>
   cases j;refine⟨b1,O,?_⟩;cases b1 with
   |true=>exact⟨r,mu1,e,k,l,h.ext b,i,a,λn H2 c p r2 q=>hc n H2 c (b.trans p) r2 q⟩
   |false=>cases a;exact hc _ H1 mu1 b (.bl J) i
  |_=>cases a
theorem Gp(ha:ME X x f):ME X (.UnaryOp .Not x pos) (wx f):=
 eV (Fy ha) <| by
  rintro σ H Q ⟨r,mu,S,k,l,h,g,a,hc⟩;obtain⟨⟨b,e⟩,d,a⟩:=oB1.mp a;refine⟨r,mu,S,b,e,h,g,d,λv H1 mu1 i c j=>?_⟩;cases b with
  |bl b1=>
   cases c;cases a;exact⟨b1,O,hc _ H1 mu1 i (.bl _) j⟩
  |_=>cases a
theorem Iy(hc:MT X c a)(hx:ME X x f)(hy:ME X y g):ME X (.IfExp c x y pos) (Ay a f g):=
 eV (zS hc hx hy) <| by
  rintro σ H Q ⟨r,mu,S,k,n,m,q,d,hc⟩;obtain⟨⟨b1,i⟩,p,d⟩:=oB1.mp d;refine⟨r,mu,S,b1,i,m,q,p,λH1 mu1 e o=>?_⟩;cases b1 with
  |true=>exact⟨r,mu1,i,k,n,m.ext e,o,d,λh H2 b j r2 l=>hc h H2 b (e.trans j) r2 l⟩
  |false=>exact⟨r,mu1,i,k,n,m.ext e,o,d,λh H2 b j r2 l=>hc h H2 b (e.trans j) r2 l⟩
end
noncomputable def Gy(f g:FN)(a b c:FE):FE:=λr S=>(a r S).bind λp=>(b r p.2).bind λq=>(f [p.1,q.1] q.2).bind λt=>match t.1 with
 | .bl k=>if k=M then(c r t.2).bind λz=>g [q.1,z.1] z.2 else Z (.bl J,t.2)
 |_=>Y
section
variable{X:Cx}{x y z:Expr}{pos:Pos}{f g:FN}{a b c:FE}{op op':CmpOp}
theorem Gx{K:Fg1}{σ:L2.St}{H:Hp}{Q:VK}(h:tM K (Gy f g a b c) σ H Q):zm (r2 K f) (r2 K g) (tM K a) (tM K b) (tM K c) σ H Q:=by
 obtain⟨r,mu,S,d,G,s,U,e,hc⟩:=h;obtain⟨⟨u,v⟩,au,e⟩:=oB1.mp e;obtain⟨⟨p,t⟩,I,e⟩:=oB1.mp e;obtain⟨⟨x,y⟩,am,e⟩:=oB1.mp e;refine⟨r,mu,S,u,v,s,U,au,λaq H1 mu1 l F X=>?_⟩;refine⟨r,mu1,v,p,t,s.ext l,X,I,λv2 H2 n j r2 ao=>?_⟩;refine⟨n,t,[u,p],x,y,.cons (F.ext j) (.cons r2 .nil),ao,am,λv3 E i m R z=>?_⟩;cases x with
 |bl k=>
  cases R;refine⟨k,O,?_⟩;cases k with
  |false=>cases e;exact hc _ E i ((l.trans j).trans m) (.bl J) z
  |true=>
   obtain⟨⟨A,w⟩,V,e⟩:=oB1.mp e;refine⟨r,i,y,A,w,s.ext ((l.trans j).trans m),z,V,λv4 wq o B N D=>?_⟩;exact⟨o,w,[p,A],d,G,.cons ((r2.ext m).ext B) (.cons N .nil),D,e,λT L q C P W=>hc T L q ((((l.trans j).trans m).trans B).trans C) P W⟩
 |_=>cases e
theorem As(ho:fX X (compareOp op) (r2 X.K f))(ho':fX X (compareOp op') (r2 X.K g))(hx:ME X x a)(hy:ME X y b)(hz:ME X z c)(hm:lastMarks [op,op'] [y,z]=false:=by with_unfolding_all rfl):
  ME X (.Compare x [op,op'] [y,z] pos) (Gy f g a b c):=eV (zU ho ho' hx hy hz hm) λ_ _ _=>Gx
end
mutual
noncomputable def D.und(n:Nat):D->Bool
 | .tup xs=>D.unds n xs
 | .rol xs=>D.unds n xs
 | .ref k=>decide (k<n)
 | .non=>M
 | .bl _=>M
 | .int _=>M
 | .str _=>M
 | .fn _=>M
noncomputable def D.unds(n:Nat):List D->Bool
 |[]=>M
 |d::ds=>D.und n d&&D.unds n ds
end
noncomputable def D.sames(a b:List D):Bool:=@decide (a=b) (Classical.propDecidable _)
theorem D.sames_eq{a b:List D}(h:D.sames a b=M):a=b:=@of_decide_eq_true _ (Classical.propDecidable _) h
theorem D.sames_refl(a:List D):D.sames a a=M:=@decide_eq_true _ (Classical.propDecidable _) O
section
variable{K:Fg1}{H:Hp}{mu mu':List dF}
theorem eK.cut{n:Nat}(h:∀ k,k<n->mu[k]? = mu'[k]?):∀ {d:D} {v:V},eK K H mu d v->d.und n=true->eK K H mu' d v:=fun c=>c.rec (motive_1:=fun d v _=>d.und n=true->eK K H mu' d v) (motive_2:=fun ds vs _=>D.unds n ds=true->d4 K H mu' ds vs)
  (λ_=>.non) (λb _=>.bl b) (λi _=>.int i) (λx _=>.str x) (λq _ ih e=>.tup q (ih (by rw[D.und]at e;exact e))) (λq _ ih e=>.rol q (ih (by rw[D.und]at e;exact e)))
  (λq e=>.ref (by rw[D.und]at e;rw[<- h _ (of_decide_eq_true e)];exact q)) (λq _=>.fn q) (λ_=>.nil) (λ_ _ a b e=>by rw[D.unds,bA1]at e;exact .cons (a e.1) (b e.2))
theorem d4.cut{n:Nat}(h:∀k,k<n->mu[k]?=mu'[k]?):∀{ds:List D} {vs:List V},d4 K H mu ds vs->D.unds n ds=M->d4 K H mu' ds vs:=λa=>a.ind (P:=λds vs _=>D.unds n ds=M->d4 K H mu' ds vs) (λ_=>.nil) λr _ b e=>by rw[D.unds,bA1]at e;exact .cons (eK.cut h r e.1) (b e.2)
end
noncomputable def Ob.und(n:Nat):Ob->Bool
 | .lst xs=>D.unds n xs
 | .dct kvs=>D.unds n (kvs.map (·.2))
 | .dcT kvs=>D.unds n (kvs.map (·.2))
 | .iset _=>M
 | .dcF kvs=>D.unds n (kvs.map (·.2))
 | .tst _=>M
theorem KR.cut{κ:Type}{K:Fg1}{H:Hp}{mu mu':List dF}{n:Nat}(h:∀k,k<n->mu[k]?=mu'[k]?):∀{ks:List (κ×D)} {ws:List (κ×V)},KR K H mu ks ws->D.unds n (ks.map (·.2))=M->KR K H mu' ks ws:=by
 intro ks ws a e
 induction a with
 |nil=>exact .nil
 |cons r t ih=>
  rw[mP1,D.unds,bA1]at e;exact .cons ⟨r.1,r.2.cut h e.1⟩ (ih e.2)
mutual
theorem zh(n:Nat):∀k:TK,(tkD k).und n=M
 | .non=>rfl
 | .int _=>rfl
 | .tup xs=>by rw[tkD,D.und];exact vS n xs
theorem vS(n:Nat):∀ks:List TK,D.unds n (ic ks)=M
 |[]=>rfl
 |x::xs=>by rw[ic,D.unds,zh n x,vS n xs];rfl
end
theorem KT.cut{K:Fg1}{H:Hp}{mu mu':List dF}{n:Nat}(h:∀k,k<n->mu[k]?=mu'[k]?):∀{ks:List (TK×D)} {ws:List (TK×dF×dD)},KT K H mu ks ws->D.unds n (ks.map (·.2))=M->KT K H mu' ks ws:=by
 intro ks ws b e
 induction b with
 |nil=>exact .nil
 |cons r t ih=>
  rw[mP1,D.unds,bA1]at e;obtain⟨z,d,k,v,a,r⟩:=r;exact .cons ⟨z,d,k.cut h (zh n _),v,a,r.cut h e.1⟩ (ih e.2)
theorem wt(n:Nat):∀ks:List TK,D.unds n ((ks.map λk=>(k,D.non)).map (·.2))=M
 |[]=>rfl
 |_::ks=>by rw[mP1,mP1,D.unds,wt n ks];rfl
theorem kl.cut{K:Fg1}{H:Hp}{mu mu':List dF}{n:Nat}{a:dF}(h:∀k,k<n->mu[k]?=mu'[k]?):∀{o:Ob},kl K H mu a o->o.und n=M->kl K H mu' a o
 | .lst _,⟨vs,e,r⟩,b=>⟨vs,e,r.cut h b⟩
 | .dct _,⟨ws,e,r⟩,b=>⟨ws,e,KR.cut h r b⟩
 | .dcT _,⟨ws,e,r,l⟩,b=>⟨ws,e,KT.cut h r b,l⟩
 | .iset _,q,_=>q
 | .dcF _,⟨ws,e,r,l⟩,b=>⟨ws,e,KT.cut h r b,l⟩
 | .tst ks,⟨ws,e,r⟩,_=>⟨ws,e,KT.cut h r (wt n ks)⟩
noncomputable def gc(n:Nat)(p:D×Sto):D×Sto:=if p.1.und n&&(p.2.take n).all (Ob.und n)then(p.1,p.2.take n)else p
mutual
noncomputable def D.sh(n:Nat):D->D
 | .tup xs=>.tup (D.shs n xs)
 | .rol xs=>.rol (D.shs n xs)
 | .ref k=>.ref (n+k)
 | .fn x=>.fn x
 | .non=>.non
 | .bl b=>.bl b
 | .int i=>.int i
 | .str x=>.str x
noncomputable def D.shs(n:Nat):List D->List D
 |[]=>[]
 |d::ds=>D.sh n d::D.shs n ds
end
noncomputable def Ob.sh(n:Nat):Ob->Ob
 | .lst xs=>.lst (D.shs n xs)
 | .dct kvs=>.dct (kvs.map λp=>(p.1,p.2.sh n))
 | .dcT kvs=>.dcT (kvs.map λp=>(p.1,p.2.sh n))
 | .iset xs=>.iset xs
 | .dcF kvs=>.dcF (kvs.map λp=>(p.1,p.2.sh n))
 | .tst ks=>.tst ks
theorem eK.sh{K:Fg1}{H:Hp}{mu mu':List dF}:∀ {d:D} {v:V},eK K H mu' d v->eK K H (mu++mu') (d.sh mu.length) v:=fun c=>c.rec (motive_1:=fun d v _=>eK K H (mu++mu') (d.sh mu.length) v) (motive_2:=fun ds vs _=>d4 K H (mu++mu') (D.shs mu.length ds) vs)
  .non .bl .int .str (λh _ ih=>.tup h ih) (λh _ ih=>.rol h ih) (λh=>.ref (by rw[gR1 (br _ _),bt];exact h)) (λh=>.fn h) .nil (λ_ _ a b=>.cons a b)
theorem d4.sh{K:Fg1}{H:Hp}{mu mu':List dF}:∀{ds:List D} {vs:List V},d4 K H mu' ds vs->d4 K H (mu++mu') (D.shs mu.length ds) vs:=λh=>h.ind (P:=λds vs _=>d4 K H (mu++mu') (D.shs mu.length ds) vs) .nil λr _ ih=>.cons (eK.sh r) ih
theorem KR.sh{κ:Type}{K:Fg1}{H:Hp}{mu mu':List dF}:∀{ks:List (κ×D)} {ws:List (κ×V)},KR K H mu' ks ws->KR K H (mu++mu') (ks.map λp=>(p.1,p.2.sh mu.length)) ws:=by
 intro ks ws h
 induction h with
 |nil=>exact .nil
 |cons r t ih=>exact .cons ⟨r.1,r.2.sh⟩ ih
mutual
theorem D6(n:Nat):∀k:TK,(tkD k).sh n=tkD k
 | .non=>rfl
 | .int _=>rfl
 | .tup xs=>by rw[tkD,D.sh,ze n xs]
theorem ze(n:Nat):∀ks:List TK,D.shs n (ic ks)=ic ks
 |[]=>rfl
 |x::xs=>by rw[ic,D.shs,D6 n x,ze n xs]
end
theorem KT.sh{K:Fg1}{H:Hp}{mu mu':List dF}:∀{ks:List (TK×D)} {ws:List (TK×dF×dD)},KT K H mu' ks ws->KT K H (mu++mu') (ks.map λp=>(p.1,p.2.sh mu.length)) ws:=by
 intro ks ws h
 induction h with
 |nil=>exact .nil
 |cons r t ih=>
  obtain⟨z,d,k,v,a,r⟩:=r;exact .cons ⟨z,d,by have:=k.sh (mu:=mu);rw[D6]at this;exact this,v,a,r.sh⟩ ih
theorem kl.sh{K:Fg1}{H:Hp}{mu mu':List dF}{a:dF}:∀{o:Ob},kl K H mu' a o->kl K H (mu++mu') a (o.sh mu.length)
 | .lst _,⟨vs,e,r⟩=>⟨vs,e,r.sh⟩
 | .dct _,⟨ws,e,r⟩=>⟨ws,e,KR.sh r⟩
 | .dcT _,⟨ws,e,r,l⟩=>⟨ws,e,KT.sh r,l⟩
 | .iset _,q=>q
 | .dcF _,⟨ws,e,r,l⟩=>⟨ws,e,KT.sh r,l⟩
 | .tst ks,⟨ws,e,r⟩=>⟨ws,e,by have:=KT.sh (mu:=mu) r;rw[bu]at this;exact this⟩
theorem eK.mor{K:Fg1}{H:Hp}{mu:List dF}(mu':List dF):∀{d:D} {v:V},eK K H mu d v->eK K H (mu++mu') d v:=λh=>h.exv ⟨bv _ _,λ_ _ h=>h,λ_ _ _ h=>h⟩
theorem d4.mor{K:Fg1}{H:Hp}{mu:List dF}(mu':List dF):∀{ds:List D} {vs:List V},d4 K H mu ds vs->d4 K H (mu++mu') ds vs:=λh=>h.exv ⟨bv _ _,λ_ _ h=>h,λ_ _ _ h=>h⟩
theorem KR.mor{κ:Type}{K:Fg1}{H:Hp}{mu:List dF}(mu':List dF){ks:List (κ×D)}{ws:List (κ×V)}(h:KR K H mu ks ws):KR K H (mu++mu') ks ws:=Paired.mapP h λ_ _ z=>⟨z.1,z.2.mor mu'⟩
theorem kl.mor{K:Fg1}{H:Hp}{mu:List dF}{a:dF}(mu':List dF):∀{o:Ob},kl K H mu a o->kl K H (mu++mu') a o
 | .lst _,⟨vs,e,r⟩=>⟨vs,e,r.mor mu'⟩
 | .dct _,⟨ws,e,r⟩=>⟨ws,e,KR.mor mu' r⟩
 | .dcT _,⟨ws,e,r,l⟩=>⟨ws,e,Paired.mapP r λ_ _ ⟨z,d,k,v,b,r⟩=>⟨z,d,k.mor mu',v,b,r.mor mu'⟩,l⟩
 | .iset _,q=>q
 | .dcF _,⟨ws,e,r,l⟩=>⟨ws,e,Paired.mapP r λ_ _ ⟨z,d,k,v,b,r⟩=>⟨z,d,k.mor mu',v,b,r.mor mu'⟩,l⟩
 | .tst _,⟨ws,e,r⟩=>⟨ws,e,Paired.mapP r λ_ _ ⟨z,d,k,v,b,r⟩=>⟨z,d,k.mor mu',v,b,r.mor mu'⟩⟩
noncomputable def mH(f:FN):FN:=λds S=>if D.unds 0 ds=M then(f ds []).map λp=>if p.1.und 0=M then(p.1,S)else(p.1.sh S.length,S++p.2.map (Ob.sh S.length))else(f ds S).map (gc S.length)
theorem kl.keep{K:Fg1}{H H':Hp}{mu:List dF}{a:dF}(e:Ext mu mu H H')(h:∀o,H a=Z o->H' a=Z o):∀{o:Ob},kl K H mu a o->kl K H' mu a o
 | .lst _,⟨vs,q,r⟩=>⟨vs,h _ q,r.ext e⟩
 | .dct _,⟨ws,q,r⟩=>⟨ws,h _ q,KR.ext e r⟩
 | .dcT _,⟨ws,q,r,l⟩=>⟨ws,h _ q,KT.ext e r,l⟩
 | .iset _,q=>⟨h _ q.1,q.2⟩
 | .dcF _,⟨ws,⟨o,u,c,b⟩,r,l⟩=>⟨ws,⟨o,u,h _ c,b⟩,KT.ext e r,l⟩
 | .tst _,⟨ws,q,r⟩=>⟨ws,h _ q,KT.ext e r⟩
theorem ua{K:Fg1}{f:FN}{vs:List V}{H:Hp}{Q:VK}(h:rN K (mH f) vs H Q):rN K f vs H Q:=by
 obtain⟨mu,S,ds,d,ao,C,c,g,hc⟩:=h;unfold mH at g;split at g
 ·rename_i j;obtain⟨⟨u,p⟩,y,g⟩:=oM1.mp g;refine⟨[],[],ds,u,p,C.cut (n:=0) (λk i=>absurd i (bw _)) j,.nil,y,λv H' mu' x r s=>?_⟩;have w:Ext mu mu H H':=⟨bn,λa o e _=>x.old a o e (by simp),x.tup,x.frz,λ_ z=>.inl z⟩;dsimp only at g;split at g
  ·rename_i I;cases g;refine hc v H' mu w (r.cut (n:=0) (λk i=>absurd i (bw _)) I) ⟨c.len,c.nd,λn o a h1 h2=>?_⟩;exact(c.ob n o a h1 h2).keep w λo e=>x.old a o e (by simp)
  ·cases g;have D:∀ a∈mu',H a=none:=fun a B=>(x.new a B).resolve_left (by simp);have G:Ext mu (mu++mu') H H':=⟨bv _ _,fun a o e _=>x.old a o e (by simp),x.tup,x.frz,fun a z=>by
    rcases aG.mp z with z|z
    ·exact .inl z
    ·exact .inr (D a z)⟩
   refine hc v H' (mu++mu') G (by rw[<- c.len];exact r.sh) ⟨by rw[lA1,lA1,lM1,c.len,s.len],?_,λn o a h1 h2=>?_⟩
   ·refine bA.mpr ⟨c.nd,s.nd,λa B b j z=>?_⟩;subst z;obtain⟨o,e⟩:=c.here B;rw[D a j]at e;cases e
   ·by_cases l:n<S.length
    ·rw[gL1 l]at h1;rw[gL1 (by rw[c.len];exact l)]at h2;exact((c.ob n o a h1 h2).keep w λo e=>x.old a o e (by simp)).mor mu'
    ·have m:=a0 l;rw[gR1 m]at h1;rw[gR1 (by rw[c.len];exact m)]at h2;rw[gP1]at h1;obtain⟨L,F,am⟩:=oM1.mp h1;subst am;have q:=s.ob (n-S.length) L a F (by rw[c.len]at h2;exact h2);rw[<- c.len];exact q.sh
 ·obtain⟨⟨u,p⟩,y,g⟩:=oM1.mp g;refine⟨mu,S,ds,u,p,C,c,y,λv H' mu' x r s=>?_⟩;unfold gc at g;split at g
  ·rename_i j;cases g;rw [bA1] at j;have i:∀ k,k<S.length->mu'[k]? = mu[k]?:=fun k i=>by
    obtain⟨t,rfl⟩:=x.pre;rw[gL1 (by rw[c.len];exact i)]
   refine hc v H' mu x.back (r.cut i j.1) ⟨?_,c.nd,λn o a h1 h2=>?_⟩
   ·have:=s.len;have E:=x.pre.length_le;rw[aR,<- s.len];rw[c.len]at E ⊢;exact(bB E).symm
   ·have l:n<S.length:=by rw[<- c.len];exact(gE1.mp h2).1
    have A:p[n]?=Z o:=by rw[aT l]at h1;exact h1
    refine(s.ob n o a A ((i n l).trans h2)).cut i ?_;exact bC.mp j.2 o (gM1 h1)
  ·cases g;exact hc v H' mu' x r s
noncomputable def BN(K:Fg1)(n:Nat)(f:FN):Sp:=λvs H Q _=>vs.length=n/\rN K f vs H Q
section
variable{X:Cx}{k n:Nat}{f:dF}{fd:dR}{ps:List Str}{x:Str}{p pos:Pos}{e:Expr}{es:List Expr}{m:FN}{a:FA}
noncomputable def dX (n:Nat)(f:FN):FN:=λds S=>if ds.length=n then mH f ds S else none
theorem C6 (F:jR X.prog X.w X.K X.mg X.base ul k f fd ps (BN X.K n m))(hr:fP k X.A)(hg:Gl X x)(hm:X.mg x=some (.ref f))(hk:wK1 X.K (.ref f)=true)(hb:lF X.K fd ps [])
  (ha:MA X (e::es) a) (hdb:(x == ("__debug__":Str))=J:=by decide) (he:dL (e::es) X.env=(J,eval e X.env)::dL es X.env:=by rfl) (hpl:(backTo pos (dL es X.env)).any (·.1)=J:=by rfl):
  ME X (.Call (.Name x p) (e::es) [] pos) (mN (dX n m) a):=
 eV (CG (E:=E0) F hr hg hm hk hb .nil Ii ha hdb he hpl) fun σ H Q h=>by
  obtain⟨r,mu,S,ds,i,he,o,hm,hc⟩:=Ax h;refine⟨r,mu,S,ds,i,he,o,hm,λvs H' mu' t g w=>?_⟩;have q:=hc vs H' mu' t g w;show BN X.K n m (vs++[]) H' Q E0;rw[aN];obtain⟨d,j,c,s,l,h1,h2,b,u⟩:=q;unfold dX at b;split at b
  ·rename_i v;exact⟨by rw[<- h1.length];exact v,ua ⟨d,j,c,s,l,h1,h2,b,u⟩⟩
  ·cases b
end
noncomputable def pT:FS:=λr S=>Z (.nx,r,S)
noncomputable def eA (a b:FS):FS:=λr S=>(a r S).bind λp=>match p.1 with
 | .nx=>b p.2.1 p.2.2
 |f=>some (f,p.2.1,p.2.2)
noncomputable def e0 (m:FE):FS:=λr S=>(m r S).bind λp=>some (.rt p.1,r,p.2)
noncomputable def KL:FS:=λr S=>Z (.rt .non,r,S)
noncomputable def fV (m:FE):FS:=λr S=>(m r S).bind λp=>some (.nx,r,p.2)
noncomputable def g0 (c:FT)(a b:FS):FS:=λr S=>(c r S).bind λp=>if p.1=true then a r p.2 else b r p.2
section
variable{X:Cx}{pos:Pos}{e c:Expr}{st:dS}{rest as bs:List dS}{a b:FS}{m:FE}{t:FT}
theorem CT:yN X [] pT:=rj Cs <| by
 rintro E σ H ⟨r,mu,S,f,e,d,c,a,b,hc⟩;cases b;exact hc σ H mu (.refl _ _) c a
theorem Ai(h1:MS X st a)(h2:yN X rest b):yN X (st::rest) (eA a b):=rj (zF h1 h2) <| by
 rintro E σ H ⟨r,mu,S,f,u,o,t,q,h,hc⟩;obtain⟨⟨m,l,n⟩,p,h⟩:=oB1.mp h;refine⟨r,mu,S,m,l,n,t,q,p,?_⟩;cases m with
 |nx=>
  intro s H1 mu1 i j k;refine⟨l,mu1,n,f,u,o,j,k,h,?_⟩;cases f with
  |nx=>exact λe H2 c g=>hc e H2 c (i.trans g)
  |bk=>exact λe H2 c g=>hc e H2 c (i.trans g)
  |ct=>exact λe H2 c g=>hc e H2 c (i.trans g)
  |rt d=>exact λv H2 c g=>hc v H2 c (i.trans g)
 |bk=>cases h;exact hc
 |ct=>cases h;exact hc
 |rt d=>cases h;exact hc
theorem CS(h1:MS X st a):yN X [st] a:=Cr h1
theorem CU(h:ME X e m)(hs:swapsWith e Y pos.line X.env=pure J:=by rfl):MS X (.Expr e pos) (fV m):=ie (Ct h hs) <| by
 rintro E σ H ⟨r,mu,S,f,l,j,b,hs,a,hc⟩;obtain⟨⟨d,k⟩,c,a⟩:=oB1.mp a;cases a;exact⟨r,mu,S,d,_,b,hs,c,λv H' mu' x i g=>hc σ H' mu' x (b.ext x) g⟩
theorem F7(h:ME X e m):MS X (.Return (Z e) pos) (e0 m):=ie (Fi h) <| by
 rintro E σ H ⟨r,mu,S,f,k,i,g,c,a,hc⟩;obtain⟨⟨d,j⟩,b,a⟩:=oB1.mp a;cases a;exact⟨r,mu,S,d,_,g,c,b,hc⟩
theorem Iv(hc:MT X c t)(ha:yN X as a)(hb:yN X bs b):MS X (.If c as bs pos) (g0 t a b):=ie (Ia hc ha hb) <| by
 rintro E σ H ⟨r,mu,S,f,p,m,n,s,i,hc⟩;obtain⟨⟨k,l⟩,q,i⟩:=oB1.mp i;refine⟨r,mu,S,k,l,n,s,q,λH1 mu1 j u=>?_⟩;have o:∀c:FS,c r l=Z (f,p,m)->vV X.K c E σ H1:=λc i=>by
  refine⟨r,mu1,l,f,p,m,n.ext j,u,i,?_⟩;cases f with
  |nx=>exact λg H2 e h=>hc g H2 e (j.trans h)
  |bk=>exact λg H2 e h=>hc g H2 e (j.trans h)
  |ct=>exact λg H2 e h=>hc g H2 e (j.trans h)
  |rt d=>exact λv H2 e h=>hc v H2 e (j.trans h)
 cases k with
 |true=>exact o a i
 |false=>exact o b i
end
abbrev FG:=D->Ev->Sto->Option (Ev×Sto)
abbrev BK:=List D->Ev->Sto->Option (Ev×Sto)
inductive Ca (K:Fg1)(g:FG)(v:V)(σ:L2.St)(H:Hp)(Q:L2.St->Hp->Prop):Prop
 |mk (r:Ev) (mu:List dF) (S:Sto) (d:D) (r':Ev) (S':Sto) (he:fD K H mu r σ) (hs:Sim K H mu S) (hr:eK K H mu d v) (hm:g d r S=some (r',S')) (hc:∀ σ' H' mu',Ext mu mu' H H'->fD K H' mu' r' σ'->Sim K H' mu' S'->Q σ' H')
inductive JV (K:Fg1)(g:BK)(vs:List V)(σ:L2.St)(H:Hp)(Q:L2.St->Hp->Prop):Prop
 |mk (r:Ev) (mu:List dF) (S:Sto) (ds:List D) (r':Ev) (S':Sto) (he:fD K H mu r σ) (hs:Sim K H mu S) (hr:d4 K H mu ds vs) (hm:g ds r S=some (r',S')) (hc:∀ σ' H' mu',Ext mu mu' H H'->fD K H' mu' r' σ'->Sim K H' mu' S'->Q σ' H')
abbrev MG(X:Cx)(e:Expr)(g:FG):Prop:=PG X e (Ca X.K g)
abbrev Jo(X:Cx)(es:List Expr)(g:BK):Prop:=Hi X es (JV X.K g)
noncomputable def gN (i:Nat):FG:=λd r S=>some (r.set i (some d),S)
noncomputable def lG:BK:=λds r S=>match ds with
 |[]=>Z (r,S)
 |_=>Y
noncomputable def gj (g:FG)(gs:BK):BK:=λds r S=>match ds with
 |d::ds=>(g d r S).bind λp=>gs ds p.1 p.2
 |[]=>none
noncomputable def gT (n:Nat)(gs:BK):FG:=λd r S=>match d with
 | .tup ds=>if ds.length=n then gs ds r S else none
 |_=>none
theorem fD.set{K:Fg1}{H:Hp}{mu:List dF}{r:Ev}{σ:L2.St}{i:Nat}{d:D}{v:V}(h:fD K H mu r σ)(q:eK K H mu d v):fD K H mu (r.set i (Z d)) (σ.set i (Z v)):=by
 refine⟨by rw[aW,aW];exact h.len,λj k e=>?_⟩;by_cases a:i=j
 ·subst a;have b:i<r.length:=by
   have:=(gE1.mp e).1
   rwa [aW]at this
  rw[aI b]at e;cases e;exact⟨v,aI (by rw[<- h.len];exact b),q⟩
 ·rw[gS1 a]at e;obtain⟨g,f,c⟩:=h.val j k e;exact⟨g,by rw[gS1 a];exact f,c⟩
section
variable{X:Cx}{pos:Pos}
theorem uT{e:Expr}{t t':TG}(h:PG X e t)(i:∀v σ H Q,t' v σ H Q->t v σ H Q):PG X e t':=λag s σ H v u Q I r q=>h ag s σ H v u Q I r (i v σ H Q q)
theorem wd{e:List Expr}{t t':Et}(h:Hi X e t)(i:∀v σ H Q,t' v σ H Q->t v σ H Q):Hi X e t':=λag s σ H v u Q I r q=>h ag s σ H v u Q I r (i v σ H Q q)
theorem C4(i:Nat){x:Str}(hN:X.N.Nodup)(hi:X.N[i]?=Z x)(hx:yO X.env.scope x)(hf:X.fn x=M\/X.env.scope.names.lookup x=Z .local:=by first|exact .inl rfl|exact .inr rfl|assumption):MG X (.Name x pos) (gN i):=
 uT (we hN hi hx hf) <| by
  rintro v σ H Q ⟨r,mu,S,d,g,f,e,b,a,c,hc⟩;cases c;exact hc _ H mu (.refl _ _) (e.set a) b
theorem C3:Jo X [] lG:=wd CB <| by
 rintro vs σ H Q ⟨r,mu,S,ds,f,e,d,c,b,a,hc⟩;unfold lG at a;split at a
 ·cases a;cases b;exact⟨O,hc σ H mu (.refl _ _) d c⟩
 ·cases a
theorem Ap{e:Expr}{es:List Expr}{g:FG}{h:BK}(h1:MG X e g)(h2:Jo X es h)(hs:(assignEach (e::es) X.env).map (·.2)=assign e X.env::(assignEach es X.env).map (·.2):=by rfl):Jo X (e::es) (gj g h):=
 wd (zP h1 h2 hs) <| by
  rintro vs σ H Q ⟨r,mu,S,ds,u,k,p,hs,m,a,hc⟩;unfold gj at a;split at a
  ·obtain⟨⟨f,i⟩,l,a⟩:=oB1.mp a;cases m with
   |cons q t=>
    exact⟨_,_,O,r,mu,S,_,f,i,p,hs,q,l,λo H1 mu1 j b s=>⟨f,mu1,i,_,u,k,b,s,t.ext j,a,λc H2 d n=>hc c H2 d (j.trans n)⟩⟩
  ·cases a
theorem Gg{es:List Expr}{k:Nat}{b:BK}{n:Nat}(hc:X.calm=M)(h:Jo X es b)(hn:(assignEach es X.env).length=n:=by rfl)(hst:(assignEach es X.env).findIdx? (·.1)=Y:=by rfl):MG X (.Tuple es k pos) (gT n b):=
 uT (Fs hc h hn hst) <| by
  rintro v σ H Q ⟨r,mu,S,d,j,c,g,f,e,a,hc⟩;cases d with
  |tup ds=>
   rw[gT]at a;split at a
   ·rename_i i;cases e with
    |tup q t=>exact⟨_,_,O,q,by rw[<- t.length];exact i,r,mu,S,ds,j,c,g,f,t,a,hc⟩
   ·cases a
  |_=>cases a
inductive rU (K:Fg1)(f:FN)(o i v:V)(H:Hp)(Q:Hp->Prop):Prop
 |mk (mu:List dF) (S:Sto) (ds:List D) (d:D) (S':Sto) (hr:d4 K H mu ds [o,i,v]) (hs:Sim K H mu S) (hm:f ds S=some (d,S')) (hc:∀H' mu',Ext mu mu' H H'->Sim K H' mu' S'->Q H')
noncomputable def gS(f:FN)(a b:FE):FG:=λd r S=>(a r S).bind λp=>(b r p.2).bind λq=>(f [p.1,q.1,d] q.2).bind λt=>Z (r,t.2)
theorem Gh{o i:Expr}{a b:FE}{f:FN}(ho:ME X o a)(hi:ME X i b)(hs:vL X (rU X.K f))(ha:∀v,assign (.Subscript o i pos) X.env v=(do
   let ov<-holding [v] (eval o X.env)
   let iv<-holding [v,ov] (eval i X.env)
   standAt pos
   holding [v,ov,iv] (setItem ov iv v)
   release [v,ov,iv] []):=by intro _;rfl):MG X (.Subscript o i pos) (gS f a b):=
 uT (Ft ho hi hs ha) <| by
  rintro v σ H Q ⟨r,mu,S,d,I,E,j,hs,s,c,hc⟩;obtain⟨⟨m,n⟩,B,c⟩:=oB1.mp c;obtain⟨⟨p,l⟩,y,c⟩:=oB1.mp c;obtain⟨⟨w,F⟩,z,c⟩:=oB1.mp c;cases c;refine⟨r,mu,S,m,n,j,hs,B,λD H1 mu1 g u C=>?_⟩;refine⟨r,mu1,n,p,l,j.ext g,C,y,λG H2 h e r2 A=>?_⟩;exact⟨h,l,[m,p,d],w,_,.cons (u.ext e) (.cons r2 (.cons ((s.ext g).ext e) .nil)),A,z,λt k q x=>hc σ t k ((g.trans e).trans q) (((j.ext g).ext e).ext q) x⟩
noncomputable def eE (m:FE)(g:FG):FS:=λr S=>(m r S).bind λp=>(g p.1 r p.2).bind λq=>some (.nx,q.1,q.2)
theorem rF{K:Fg1}{m:FE}{g:FG}{E:i4}{σ:L2.St}{H:Hp}(h:vV K (eE m g) E σ H):zn (tM K m) (Ca K g) E σ H:=by
 obtain⟨r,mu,S,f,v,s,i,o,a,hc⟩:=h;obtain⟨⟨d,e⟩,l,a⟩:=oB1.mp a;obtain⟨⟨r2,t⟩,n,a⟩:=oB1.mp a;cases a;refine⟨r,mu,S,d,e,i,o,l,λu H1 mu1 j k q=>?_⟩;exact⟨r,mu1,e,d,_,_,i.ext j,q,k,n,λb H2 c p=>hc b H2 c (j.trans p)⟩
theorem F9{tg e:Expr}{m:FE}{g:FG}(he:ME X e m)(hg:MG X tg g)(hs:swapsWithSole [tg] e pos.line X.env=pure J:=by rfl)(hw:swappedStores [tg] e X.env=pure Y:=by rfl)(h1:(assignEach [tg] X.env).map (·.2)=[assign tg X.env]:=by rfl):MS X (.Assign [tg] e pos) (eE m g):=ie (Fm he hg hs hw h1) λ_ _ _=>rF
theorem F6(i:Nat){x:Str}{e:Expr}{m:FE}{pos':Pos}(hN:X.N.Nodup)(hi:X.N[i]? = some x)(hx:yO X.env.scope x)(he:ME X e m)(hs:swapsWith e (some (.Name x pos')) pos.line X.env=pure false:=by rfl)(hf:X.fn x=true\/X.env.scope.names.lookup x=some .local:=by first | exact .inl rfl | exact .inr rfl | assumption):
  MS X (.Assign [.Name x pos'] e pos) (eE m (gN i)):=ie (Fh hN hi hx he hs hf) λE σ H h=>by
 obtain⟨r,mu,S,d,c,h1,h2,f,l⟩:=rF h;refine⟨r,mu,S,d,c,h1,h2,f,λv H' mu' o b k=>?_⟩;obtain⟨r2,a,s,w,u,t,g,j,q,n,p⟩:=l v H' mu' o b k;cases n;exact p _ H' a (.refl _ _) (g.set q) j
noncomputable def Lx(i:Nat)(f:FN)(m:FE):FS:=λr S=>match r[i]? with
 |some (Z d)=>(m r S).bind λp=>(f [d,p.1] p.2).bind λq=>Z (.nx,r.set i (Z q.1),q.2)
 |_=>Y
end
noncomputable def yS (c:FT)(b:FS):Nat->FS
 |0=>λ_ _=>none
 | n+1=>fun r S=>(c r S).bind fun p=>if p.1=true then (b r p.2).bind fun q=>match q.1 with
   | .nx=>yS c b n q.2.1 q.2.2
   | .ct=>yS c b n q.2.1 q.2.2
   | .bk=>some (.nx,q.2.1,q.2.2)
   | .rt d=>some (.rt d,q.2.1,q.2.2)
  else some (.nx,r,p.2)
theorem EA{K:Fg1}{c:FT}{b:FS}{n:Nat}{E:i4}{σ:L2.St}{H:Hp}(h:vV K (yS c b n) E σ H):zj (xA K c) (vV K b) E σ H:=by
 refine⟨λm a H'=>vV K (yS c b m) E a H',⟨n,h⟩,λm t H1 q=>?_⟩;obtain⟨r,mu,S,f,D,z,u,I,i,hc⟩:=q;cases m with
 |zero=>cases i
 |succ m=>
  obtain⟨⟨k,w⟩,G,i⟩:=oB1.mp i;refine⟨r,mu,S,k,w,u,I,G,λH2 e o A=>?_⟩;cases k with
  |false=>
   cases i;exact hc t H2 e o (u.ext o) A
  |true=>
   obtain⟨⟨C,p,s⟩,F,i⟩:=oB1.mp i;have B:∀{a H' mu'},Ext e mu' H2 H'->fD K H' mu' p a->Sim K H' mu' s->yS c b m p s=Z (f,D,z)->vV K (yS c b m) E a H':=λ{a H' mu'} x g l i=>by
    refine⟨p,mu',s,f,D,z,g,l,i,?_⟩;cases f with
    |nx=>exact λj H2 e y=>hc j H2 e ((o.trans x).trans y)
    |bk=>exact λj H2 e y=>hc j H2 e ((o.trans x).trans y)
    |ct=>exact λj H2 e y=>hc j H2 e ((o.trans x).trans y)
    |rt d=>exact λv H2 e y=>hc v H2 e ((o.trans x).trans y)
   refine⟨λa H'=>vV K (yS c b m) E a H',λa H' q=>⟨m,bD _,q⟩,r,e,w,C,p,s,u.ext o,A,F,?_⟩;cases C with
   |nx=>exact λa H' mu' x g l=>B x g l i
   |ct=>exact λa H' mu' x g l=>B x g l i
   |bk=>cases i;exact λa H' mu' x g l=>hc a H' mu' (o.trans x) g l
   |rt d=>cases i;exact λv H' mu' x p l=>hc v H' mu' (o.trans x) p l
theorem Aj{X:Cx}{pos:Pos}(n:Nat){c:Expr}{a:List dS}{t:FT}{b:FS}(hp:PassesOwn (model X.prog X.w) X.A X.env X.xe)(hc:MT X c t)(hb:yN X a b):MS X (.While c a [] pos) (yS t b n):=
 ie (zG hp hc hb) λ_ _ _=>EA
structure BR where
 items:List D
 chk:List (Nat×List D)
noncomputable def pM (S:Sto):List (Nat×List D)->Bool
 |[]=>true
 | (n,xs)::c=>(match S[n]? with
   |some (.lst ys)=>D.sames ys xs
   |_=>false)&&pM S c
def ItR(K:Fg1)(j:It)(am:BR)(mu:List dF)(H:Hp):Prop:=∀i H1 mu1 S1,r9 mu mu1 H H1->Sim K H1 mu1 S1->pM S1 am.chk=M ->
 (∀d,am.items[i]?=Z d->j.go i H1 /\ ∀x H2,j.yld i H1 x H2->Ext mu1 mu1 H1 H2/\Sim K H2 mu1 S1/\eK K H2 mu1 d x)/\(am.items.length<=i->j.stop i H1)
abbrev FI:=Ev->Sto->Option (BR×Sto)
inductive HK (K:Fg1)(m:FI)(σ:L2.St)(H:Hp)(R:It->Hp->Prop):Prop
 |mk (r:Ev) (mu:List dF) (S:Sto) (am:BR) (S':Sto) (he:fD K H mu r σ) (hs:Sim K H mu S) (hm:m r S=some (am,S')) (hc:∀j H' mu',Ext mu mu' H H'->ItR K j am mu' H'->Sim K H' mu' S'->R j H')
abbrev MI(X:Cx)(tg iter:Expr)(m:FI):Prop:=PI X tg iter (HK X.K m)
theorem rn{X:Cx}{tg e:Expr}{t t':TI}(h:PI X tg e t)(i:∀ σ H R,t' σ H R->t σ H R):PI X tg e t':=λag s σ H R I q=>h ag s σ H R I (i σ H R q)
theorem Ib{X:Cx}{tg e:Expr}{t t':TI}(h:PI X tg e t)(h':PI X tg e t'):PI X tg e (fun σ H R=>t σ H R\/t' σ H R):=λag s σ H R I q=>q.elim (h ag s σ H R I) (h' ag s σ H R I)
noncomputable def k6 (c:List (Nat×List D))(g:FG)(b:FS):List D->FS
 |[]=>λr S=>if pM S c=true then some (.nx,r,S)else none
 | d::ds=>fun r S=>if pM S c=true then (g d r S).bind fun p=>(b p.1 p.2).bind fun q=>match q.1 with
   | .nx=>k6 c g b ds q.2.1 q.2.2
   | .ct=>k6 c g b ds q.2.1 q.2.2
   | .bk=>some (.nx,q.2.1,q.2.2)
   | .rt v=>some (.rt v,q.2.1,q.2.2)
  else none
noncomputable def jg (m:FI)(g:FG)(b:FS):FS:=λr S=>(m r S).bind λp=>k6 p.1.chk g b p.1.items r p.2
theorem mF{α:Type}{l:List α}{i:Nat}{d:α}{ds:List α}(h:l.drop i=d::ds):l[i]?=Z d/\l.drop (i+1)=ds:=by
 have h1:l[i]?=Z d:=by
  have:=congrArg (·[0]?) h;simpa using this
 refine⟨h1,?_⟩;rw[<- bE,h];rfl
inductive KC (K:Fg1)(mu1:List dF)(H1:Hp)(c:List (Nat×List D))(g:FG)(b:FS)(f:Fl)(r':Ev)(S':Sto)(L:List D)(σ':L2.St)(H':Hp):Prop
 |mk (r2:Ev) (mu2:List dF) (S2:Sto):Ext mu1 mu2 H1 H'->fD K H' mu2 r2 σ'->Sim K H' mu2 S2->k6 c g b L r2 S2=some (f,r',S')->KC K mu1 H1 c g b f r' S' L σ' H'
theorem Dc{K:Fg1}{m:FI}{g:FG}{b:FS}{E:i4}{σ:L2.St}{H:Hp}(h:vV K (jg m g b) E σ H):HL (HK K m) (Ca K g) (vV K b) E σ H:=by
 obtain⟨r,mu,S,f,V,au,U,hs,I,hc⟩:=h;obtain⟨⟨am,ao⟩,e1,I⟩:=oB1.mp I;refine⟨r,mu,S,am,ao,U,hs,e1,λj H1 mu1 z T s1=>?_⟩;refine⟨λi k u H'=>k=(am.items.drop i).length/\KC K mu1 H1 am.chk g b f V au (am.items.drop i) u H',⟨_,O,r,mu1,ao,.refl _ _,U.ext z,s1,I⟩,?_⟩;rintro i k L H2 ⟨rfl,r2,l,W,o,s,D,a⟩;cases hl:am.items.drop i with
 |nil=>
  left;rw[hl]at a;rw[k6]at a;dsimp only at a;split at a
  ·rename_i ok;cases a;refine⟨(T i H2 l _ o.w D ok).2 (List.drop_eq_nil_iff.mp hl),?_⟩;exact hc L H2 l (z.trans o) s D
  ·cases a
 |cons d ds=>
  right;rw[hl]at a;obtain⟨hi,Q⟩:=mF hl;rw[k6]at a;dsimp only at a;split at a
  ·rename_i ok;obtain⟨⟨R,P⟩,e3,a⟩:=oB1.mp a;obtain⟨⟨N,F,C⟩,e4,a⟩:=oB1.mp a;obtain⟨go,yl⟩:=(T i H2 l _ o.w D ok).1 d hi;refine⟨go,KC K mu1 H1 am.chk g b f V au ds,?_,λx X y=>?_⟩
   ·intro u H' aq;exact⟨ds.length,bD _,(congrArg List.length Q).symm,Q.symm ▸ aq⟩
   ·obtain⟨w,s3,q3⟩:=yl x X y;refine⟨r2,l,W,d,R,P,s.ext w,s3,q3,e3,fun σ4 H4 G A B wq=>?_⟩;refine⟨R,G,P,N,F,C,B,wq,e4,?_⟩;cases N with
    |nx=>exact λp t c n e q=>⟨F,c,C,(o.trans w).trans (A.trans n),e,q,a⟩
    |ct=>exact λp t c n e q=>⟨F,c,C,(o.trans w).trans (A.trans n),e,q,a⟩
    |bk=>cases a;exact λp t c n e q=>hc p t c ((z.trans o).trans (w.trans (A.trans n))) e q
    |rt v=>cases a;exact λv5 t c n r5 q=>hc v5 t c ((z.trans o).trans (w.trans (A.trans n))) r5 q
  ·cases a
theorem F8{X:Cx}{pos:Pos}{tg iter:Expr}{a:List dS}{m:FI}{g:FG}{b:FS}(hp:PassesOwn (model X.prog X.w) X.A X.env X.xe)(hc:X.calm=M)(hi:MI X tg iter m)(hg:MG X tg g)(hb:yN X a b)(hs:∀x,foldedSetIterable iter X.env x=pure x:=by intro _;rfl):MS X (.For tg iter a [] pos) (jg m g b):=ie (Fk hp hc hi hg hb hs) λ_ _ _=>Dc
noncomputable def gM(n:Nat)(ds:List D):Ev:=ds.map Z++aP (n-ds.length) Y
noncomputable def gY (n:Nat)(b:FS):FN:=λds S=>(b (gM n ds) S).bind λp=>match p.1 with
 | .rt d=>some (d,p.2.2)
 | .nx=>some (.non,p.2.2)
 |_=>none
theorem xG{K:Fg1}{H:Hp}{mu:List dF}{ds:List D}{vs:List V}(N:List Str)(h:d4 K H mu ds vs):fD K H mu (gM N.length ds) (L2.i5 N vs):=by
 refine⟨?_,λi d e=>?_⟩
 ·unfold gM L2.i5;rw[lA1,lA1,lM1,lM1,lR1,lR1,h.length]
 ·unfold gM at e;unfold L2.i5;by_cases hi:i<ds.length
  ·rw[gL1 (by rw[lM1];exact hi),gP1]at e;obtain⟨f,c,b⟩:=oM1.mp e;cases b;obtain⟨v,a,r⟩:=h.get c;refine⟨v,?_,r⟩;rw[gL1 (by rw[lM1,<- h.length];exact hi),gP1,a];rfl
  ·rw[gR1 (by rw[lM1];lia)]at e;have:=gM1 e;rw[List.mem_replicate]at this;cases this.2
theorem IU{P:dG}{w:dI}{K:Fg1}{mg:Str->Option dD}{base:dQ}{x c:Str}{st:dS}{f:dF}{fd:dR}{N ps:List Str}{k:Nat}{b:FS}(F:yU K x c st f fd)(S:gy N ps (ea st))(i:∀(e:dD) (A:dH) (a:List Env) (s:dE) (H:Hp) (E:XK),fP k (A.deeper (envOfC c (ea st) s.heap.objs.size f e)) ->
   yN (mU ul P w K mg base N c (ea st) f e A a s H E).nox (fy st) b):jR P w K mg base ul (k+1) f fd ps (BN K ps.length (gY N.length b)):=by
 refine yU.ok F S (λvs H Q E h=>h.1) λe A a s H vs Q E p j=>⟨_,i e A a s H E p,?_⟩;obtain⟨_,mu,St,ds,d,t,h1,h2,g,m⟩:=j;unfold gY at g;obtain⟨⟨l,r,q⟩,o,g⟩:=oB1.mp g;refine⟨_,mu,St,l,r,q,xG N h1,h2,o,?_⟩;cases l with
 |nx=>cases g;exact λn H' mu' x u s=>m .non H' mu' x .non s
 |rt d=>cases g;exact m
 |bk=>cases g
 |ct=>cases g
noncomputable def i0(cells:List (Str×dF)):List (Str×NameKind)->List (Str×dF)->Option (List (Str×dF))
 |[],acc=>Z acc
 |(n,k)::r,acc=>if k == .free then(cells.lookup n).bind λc=>i0 cells r ((n,c)::acc)else i0 cells r acc
theorem vy{env:Env}(f:Str×NameKind->List (Str×dF)->Sem (ForInStep (List (Str×dF))))(hf:∀n k d,f (n,k) d=if k == .free then(do let c<-cellOf env n;pure (.yield ((n,c)::d)))else pure (.yield d)):
  ∀(a:List (Str×NameKind)) (acc b:List (Str×dF)),i0 env.cells a acc=Z b->forIn a acc f=(pure b:Sem (List (Str×dF)))
 |[],acc,b,h=>by cases h;rfl
 |(n,k)::r,acc,b,h=>by
  rw[bF,hf];unfold i0 at h;split at h
  ·rename_i g;rw[ak g];obtain⟨c,e,h⟩:=oB1.mp h;have:cellOf env n=pure c:=by unfold cellOf;rw[e]
   rw[this,pure_bind,pure_bind];exact vy f hf r _ b h
  ·rename_i g;rw[aj g,pure_bind];exact vy f hf r _ b h
theorem Bi{scope:dU}{env:Env}{cl:List (Str×dF)}(h:i0 env.cells scope.names []=Z cl):closureFor scope env=pure cl:=by
 simp only[closureFor];rw[vy (env:=env) _ (λn k a=>by cases hk:k == NameKind.free<;>simp[hk]) scope.names [] cl h];rfl
theorem vx{a:List (Str×dF)}:∀{b:List (Str×NameKind)} {acc d:List (Str×dF)},i0 a b acc=Z d->(∀x c,acc.lookup x=Z c->a.lookup x=Z c) -> ∀x c,d.lookup x=Z c->a.lookup x=Z c
 |[],acc,d,h,ha=>by cases h;exact ha
 |(n,k)::r,acc,d,h,ha=>by
  unfold i0 at h;split at h
  ·obtain⟨c,e,h⟩:=oB1.mp h;refine vx h λx f q=>?_;rw[bG]at q;split at q
   ·rename_i g;cases q;rw[beq_iff_eq.mp g];exact e
   ·exact ha x f q
  ·exact vx h ha
theorem nk{b:List (Str×dF)}{x:Str}:∀{a:List (Str×NameKind)} {acc d:List (Str×dF)},i0 b a acc=Z d->(a.lookup x=Z .free\/(acc.lookup x).isSome=M)->(d.lookup x).isSome=M
 |[],acc,d,h,ha=>by
  cases h;rcases ha with q|q
  ·cases q
  ·exact q
 |(n,k)::r,acc,d,h,ha=>by
  unfold i0 at h;split at h
  ·obtain⟨c,e,h⟩:=oB1.mp h;refine nk h ?_;rcases ha with q|q
   ·rw[bG]at q;split at q
    ·rename_i f;right;rw[bG,f];rfl
    ·exact .inl q
   ·right;rw[bG];split
    ·rfl
    ·exact q
  ·rename_i g;refine nk h ?_;rcases ha with q|q
   ·rw[bG]at q;split at q
    ·cases q;exact absurd O g
    ·exact .inl q
   ·exact .inr q
theorem gu{x:Str}{c:dF}:∀{a:List (Str×NameKind)} {n:Nat} {acc:List (Str×dF)},(cellsFrom n a acc).lookup x=Z c->(n<=c/\(x,c)∈cellsFrom n a [])\/acc.lookup x=Z c
 |[],_,_,h=>.inr h
 |(y,k)::r,n,acc,h=>by
  unfold cellsFrom at h ⊢;split at h
  ·rename_i b;rw [if_pos b];have app:∀ (a:List (Str×NameKind)) (m:Nat) (acc:List (Str×dF)),cellsFrom m a acc=cellsFrom m a []++acc:=by
    intro a
    induction a with
    |nil=>intro m acc;rfl
    |cons p r ih=>
     obtain⟨z,q⟩:=p;intro m acc;unfold cellsFrom;split
     ·rw[ih _ ((z,m)::acc),ih _ [(z,m)],bH];rfl
     ·exact ih m acc
   rcases gu h with⟨h1,h2⟩|h1
   ·refine .inl ⟨by lia,?_⟩;rw[app];exact aH _ h2
   ·rw[bG]at h1;split at h1
    ·rename_i d;cases h1;refine .inl ⟨nR1 _,?_⟩;rw[app,beq_iff_eq.mp d];exact mA1 _ mS1
    ·exact .inr h1
  ·rename_i b;rw[aj b];exact gu h
theorem o9{x:Str}{c:dF}{n:Nat}{acc:List (Str×dF)}{a:List (Str×NameKind)}(hx:a.lookup x=Z .cell)(h:(cellsFrom n a acc).lookup x=Z c):n<=c:=by
 have app:∀(a:List (Str×NameKind)) (m:Nat) (acc:List (Str×dF)),cellsFrom m a acc=cellsFrom m a []++acc:=by
  intro a
  induction a with
  |nil=>intro m acc;rfl
  |cons p r ih=>
   obtain⟨z,q⟩:=p;intro m acc;unfold cellsFrom;split
   ·rw[ih _ ((z,m)::acc),ih _ [(z,m)],bH];rfl
   ·exact ih m acc
 rw[app,List.lookup_append]at h;have q:=PySem.W.cellsFrom_some a n [] (.inl hx);obtain⟨b,e⟩:=aQ.mp q;rw[e]at h;cases h;rcases gu e with⟨h1,_⟩|h1
 ·exact h1
 ·cases h1
theorem jW {ao:Model}{A:dH}{E:dD->dE->Prop}{s:dE}{scope:dU}{globals:dF}{c:List (Str×dF)}{qual:Str}{func:Option dF}{code:dD}{env:Env}{b:dF}{Q:Env->dE->Prop}
  (d:Q {scope,locals:=s.heap.objs.size,globals,cells:=cellsFrom (s.heap.objs.size+1) scope.names c,qual,func,code:=env.code,frame:=env.frame,builtins:=env.builtins}
   {s with heap:=pushCells (s.heap.push {cls:=.type "dict",data:=.dict #[]}) scope.names}):
  dN ao A (newFunctionEnv scope globals c [] qual func code (Z env) b) Q E s:=by
 simp only[newFunctionEnv,Option.isSome_some,if_true];refine wB1 (wpAny_alloc ?_);refine wB1 (wpAny_layCells _ (λname a cells=>by cases hkc:a == NameKind.cell<;>simp[hkc]) _ _ _ _ ?_);rw[show({s with heap:=s.heap.push {cls:=.type "dict",data:=.dict #[]}}:dE).heap.objs.size=s.heap.objs.size+1 from hZ1 ..];refine wB1 ?_;rw[List.forIn_nil];exact wP1 (wP1 d)
noncomputable def cxC(X:Cx)(scope:dU)(cl:List (Str×dF))(T:List Str)(keep:List Nat)(s:dE)(H:Hp)(fp:List dF):Cx where
 prog:=X.prog
 w:=X.w
 K:=X.K
 mg:=X.mg
 base:=X.base
 A:=X.A
 N:=T++keep.map λi=>X.N.getD i (Str.ofString "")
 s₀:=s
 H₀:=H
 env:=compEnvC scope (cellsFrom (s.heap.objs.size+1) scope.names cl) s.heap.objs.size X.env
 outer:=X.stack
 stack:=X.stack
 ex:=fp
 fn:=λx=>scope.names.lookup x == Z .cell
 calm:=X.calm
 pn:=[]
 xe:=λ_ _=>False
noncomputable def rJ(k:Nat)(keep:List Nat)(σ:L2.St):L2.St:=aP k Y++keep.map λi=>(σ[i]?).join
theorem jh{env:Env}{x:Str}:∀ {a:List (Str×NameKind)},
  (a.map λ(n,k)=>if(k == NameKind.free&&env.scope.kind == .function&&env.kindOf n == Z .cell)then(n,NameKind.cell)else(n,k)).lookup x =
   (a.lookup x).map λk=>if(k == NameKind.free&&env.scope.kind == .function&&env.kindOf x == Z .cell)then NameKind.cell else k
 |[]=>rfl
 |(n,k)::r=>by
  show List.lookup x ((if(k == NameKind.free&&env.scope.kind == .function&&env.kindOf n == Z .cell)=M then(n,NameKind.cell)else(n,k))::_)=_;cases hx:x == n with
  |true=>
   have e:=beq_iff_eq.mp hx;subst e;by_cases hc:(k == NameKind.free&&env.scope.kind == .function&&env.kindOf x == Z .cell)=M
   ·rw[ak hc,bG,hx,bG,hx];simp only[oP1,ak hc]
   ·rw[aj hc,bG,hx,bG,hx];simp only[oP1,aj hc]
  |false=>
   have ih:=@jh env x r;by_cases hc:(k == NameKind.free&&env.scope.kind == .function&&env.kindOf n == Z .cell)=M
   ·rw[ak hc,bG,hx,bG,hx];exact ih
   ·rw[aj hc,bG,hx,bG,hx];exact ih
structure Hn (X:Cx)(scope:dU)(T:List Str)(keep:List Nat):Prop where
 kind:scope.kind = .function
 names:∀x∈scope.names,x.2 = .local->scope.names.lookup x.1=some .local
 free:∀i∈keep,∃x,X.N[i]?=some x/\scope.names.lookup x=some .free/\(X.env.kindOf x=some .cell\/X.env.kindOf x=some .free)/\(x,NameKind.cell)∉scope.names
theorem tG{X:Cx}{ag:List (dF×Obj)}{σ:L2.St}{H:Hp}{s:dE}{scope:dU}{t:List (Str×dF)}{T:List Str}{keep:List Nat}{D:List dF}(I:Inv X ag σ H s)(C:Hn X scope T keep)(B:i0 X.env.cells scope.names []=some t)(hf:∀b∈D,jQ X ag H b)(L:∀b∈D,∃o,s.heap.get? b=some o):
  Inv (cxC X scope t T keep s H D) [] (rJ T.length keep σ) H {s with heap:=pushCells (s.heap.push {cls:=.type "dict",data:=.dict #[]}) scope.names}:=by
 have kept:∀b o,s.heap.get? b=Z o->(pushCells (s.heap.push {cls:=.type "dict",data:=.dict #[]}) scope.names).get? b=Z o:=λb o e=>pushCells_keeps _ _ b o (hP1 _ e);have A:=cellsFrom_ok scope.names (s.heap.push {cls:=.type "dict",data:=.dict #[]}) (s.heap.objs.size+1) [] ⟨λ_ _ hm=>(nomatch hm),List.Pairwise.nil⟩ (by rw[hZ1];exact nR1 _);rw[hZ1]at A;have F:=vx B (λx c q=>by cases q)
 -- a cell of the block: its own or an elder one
 have d:∀x c,(cellsFrom (s.heap.objs.size+1) scope.names t).lookup x=Z c->(s.heap.objs.size+1<=c/\(x,c)∈cellsFrom (s.heap.objs.size+1) scope.names [])\/X.env.cells.lookup x=Z c:=λx c h=>by
  rcases gu h with h1|h1
  ·exact .inl h1
  ·exact .inr (F x c h1)
 have g:∀x c,X.env.cells.lookup x=Z c->c<s.heap.objs.size:=λx c e=>by
  obtain⟨v,z⟩:=I.cell x c e;exact z.lt
 have w:∀b∈D,b<s.heap.objs.size:=λb l=>by
  obtain⟨o,e⟩:=L b l;exact hL1 e
 have fst:∀b∈D,b∉frs X.stack:=λb l z=>by
  rcases aF.mp (I.stkSub b z)with q|q
  ·exact(hf b l).2.1 q
  ·exact(hf b l).2.2.1 q
 have kindOf:∀x,(cxC X scope t T keep s H D).env.kindOf x=(scope.names.lookup x).map λk=>if(k == NameKind.free&&X.env.scope.kind == .function&&X.env.kindOf x == Z .cell)then NameKind.cell else k:=λx=>jh
 refine⟨⟨I.ok.mod,C.kind,I.ok.glob,I.ok.blt,nR1 _,λx y c h1 h2=>?_,λx E=>?_,λx c h1 h2=>?_,I.ok.hd,I.ok.frames,.inl O,λb l=>⟨nN1 (w b l),λx c h z=>?_⟩,λb o e=>I.bs b o e,aC I.ok.bsz I.sz,λb o e l=>?_,fst,I.stack,I.stkFree⟩,
  rfl,I.bare,Un.kept kept,⟨λ_=>Y,(Heap.Ns.new s.heap (.type "dict")).keeps (pushCells_keeps _ _),λi x v h1 h2 h3=>?_⟩,λx c h=>?_,I.hok.fresh (nR1 _),λx c h=>?_,λp S=>absurd (show p∈([]:List (dF×Obj))from S) (by simp),I.hok.kept kept,?_⟩
 ·rcases d x c h1 with⟨a1,a2⟩|a1<;>rcases d y c h2 with⟨b1,b2⟩|b1
  ·exact name_of_addr A.apart a2 b2
  ·exact absurd (bI (bJ a1) (g y c b1)) (az _)
  ·exact absurd (bI (bJ b1) (g x c a1)) (az _)
  ·exact I.ok.inj x y c a1 b1
 ·have am:scope.names.lookup x=some .cell\/scope.names.lookup x=some .free:=by
   rw[kindOf x]at E;cases e:scope.names.lookup x with
   |none=>rw[e]at E;rcases E with z|z<;>cases z
   |some k=>
    rw[e]at E;simp only[oP1]at E;cases k<;>simp_all
  have:((cellsFrom (s.heap.objs.size+1) scope.names t).lookup x).isSome=M:=by
   rcases am with z|z
   ·exact PySem.W.cellsFrom_some _ _ _ (.inl z)
   ·exact PySem.W.cellsFrom_some _ _ _ (.inr (nk B (.inl z)))
  exact aQ.mp this
 ·have f:scope.names.lookup x=Z .cell:=by simpa[cxC]using h1
  have:=o9 f h2;exact aC (aX _) this
 ·subst z;rcases d x c h with⟨a1,_⟩|a1
  ·exact absurd (bI (bJ a1) (w c l)) (az _)
  ·exact(hf c l).2.2.2.2.1 x c a1 O
 ·rcases(hf b l).2.2.2.1 with z|z
  ·exact I.ok.noex b o e z
  ·exact absurd (nL1 (hL1 e) (aC I.ok.bsz z)) (az _)
 ·-- a name of the block that has a value:one of the outer text's
  have hi:T.length<=i:=by
   refine a0 λhi=>?_;unfold rJ at h2;rw[gL1 (by rw[lR1];exact hi),aS]at h2;split at h2<;>cases h2
  unfold rJ at h2;rw[gR1 (by rw[lR1];exact hi),lR1,gP1]at h2;obtain⟨j,N,h2⟩:=oM1.mp h2;have f:X.N.getD j (Str.ofString "")=x:=by
   have f:(T++keep.map λi=>X.N.getD i (Str.ofString ""))[i]?=Z x:=h1;rw[gR1 hi,gP1,N]at f;exact Option.some.inj f
  obtain⟨y,Q,au,ky,V⟩:=C.free j (gM1 N);have K:y=x:=by rw[<- f,bK,Q];rfl
  subst K;have G:σ[j]?=Z (Z v):=by
   cases e:σ[j]? with
   |none=>rw[e]at h2;cases h2
   |some o=>rw[e]at h2;cases h2;rfl
  obtain⟨m,hn,U⟩:=I.loc;obtain⟨u,wq,W⟩:=U j y v Q G (by
   rcases ky with z|z
   ·exact .inr (.inl z)
   ·exact .inr (.inr z))
  refine⟨u,wq,?_⟩;rcases W with⟨z,_⟩|⟨_,c,ec,zc⟩
  ·rcases ky with q|q<;>(rw[z]at q;cases q)
  ·right;refine⟨?_,c,?_,zc.keeps kept⟩
   ·rw[kindOf,au];simp only[oP1];split
    ·exact .inl O
    ·exact .inr O
   ·obtain⟨c',R⟩:=aQ.mp (PySem.W.cellsFrom_some scope.names (s.heap.objs.size+1) t (.inr (nk B (.inl au))):((cellsFrom (s.heap.objs.size+1) scope.names t).lookup y).isSome=M);have P:(cellsFrom (s.heap.objs.size+1) scope.names t).lookup y=Z c':=R;rcases d y c' P with⟨a1,a2⟩|a1
    ·-- an own cell of that name:its kind would be cell
     exfalso;have:∀(names:List (Str×NameKind)) (n:Nat),(y,c')∈cellsFrom n names []->(y,NameKind.cell)∈names:=by
      have app:∀(names:List (Str×NameKind)) (m:Nat) (acc:List (Str×dF)),cellsFrom m names acc=cellsFrom m names []++acc:=by
       intro names
       induction names with
       |nil=>intro m acc;rfl
       |cons p r ih=>
        obtain⟨z,q⟩:=p;intro m acc;unfold cellsFrom;split
        ·rw[ih _ ((z,m)::acc),ih _ [(z,m)],bH];rfl
        ·exact ih m acc
      intro names
      induction names with
      |nil=>intro n h;cases h
      |cons p r ih=>
       obtain⟨z,q⟩:=p;intro n h;unfold cellsFrom at h;split at h
       ·rename_i aq;rw[app]at h;rcases aG.mp h with h|h
        ·exact mC1 _ (ih _ h)
        ·have:(y,c')=(z,n):=by simpa using h
         cases this;have ao:q=NameKind.cell:=by simpa using aq
         subst ao;exact mS1
       ·exact mC1 _ (ih _ h)
     exact V (this _ _ a2)
    ·rw[ec]at a1;cases a1;exact P
 ·rcases d x c h with⟨a1,a2⟩|a1
  ·exact⟨_,(A.empty x c a2).1⟩
  ·obtain⟨v,z⟩:=I.cell x c a1;exact⟨v,z.keeps kept⟩
 ·rcases d x c h with⟨a1,a2⟩|a1
  ·exact I.hok.fresh (bJ a1)
  ·exact I.freeC x c a1
 ·show(rJ T.length keep σ).length=(T++keep.map λi=>X.N.getD i (Str.ofString "")).length;unfold rJ;rw[lA1,lA1,lR1,lM1,lM1]
noncomputable def kx(p:Pos)(tg:Expr)(ifs:List Expr)(it:dD)(env:Env)(emit:Sem Unit)(c:Code):Sem PySem.Fin:=do
 standAt p
 match<-pyNext it with
 |none=>pure (.done .next)
 |some v=>
  letOwnedTupleGo tg it v
  assign tg env v
  let mut ok:=M
  for c in ifs do
   if ok then ok<-isTrue c env (eval c env)
  if ok then emit
  again c
noncomputable def mE(elt:Expr)(acc:dD)(env:Env):Sem Unit:=do let _<-call (.builtin "list.append") [acc,<- eval elt env]
noncomputable def qh(e:Expr)(iter:Expr)(acc:dD)(env:Env):Sem Unit:=do
 let x<-eval iter env
 standAt iter.pos
 let x<-foldedSetIterable iter env x
 let _<-runOwn (.compStart e 1 (<- holding [x] (pyIter x)) acc env) env
theorem uH(elt tg iter:Expr)(ifs:List Expr)(scope:dU)(pos:Pos)(it acc:dD)(env:Env):
  compTurn (.ListComp elt [⟨tg,iter,ifs,0⟩] scope pos) 0 it acc env=kx iter.pos tg ifs it env (mE elt acc env) (.compLoop (.ListComp elt [⟨tg,iter,ifs,0⟩] scope pos) 0 it acc env):=by rfl
noncomputable def D5(p:Pos)(tg:Expr)(ifs:List Expr)(it:dD)(env:Env)(e iter:Expr)(acc:dD)(c:Code):Sem PySem.Fin:=do
 standAt p
 match<-pyNext it with
 |none=>pure (.done .next)
 |some v=>
  letOwnedTupleGo tg it v
  assign tg env v
  let mut ok:=M
  for c in ifs do
   if ok then ok<-isTrue c env (eval c env)
  if ok then
   let x<-eval iter env
   standAt iter.pos
   let x<-foldedSetIterable iter env x
   let _<-runOwn (.compStart e 1 (<- holding [x] (pyIter x)) acc env) env
  again c
theorem B6(p:Pos)(tg:Expr)(ifs:List Expr)(it:dD)(env:Env)(e iter:Expr)(acc:dD)(c:Code):D5 p tg ifs it env e iter acc c=kx p tg ifs it env (qh e iter acc env) c:=by
 unfold D5 kx qh;simp only[bind_assoc,pure_bind]
theorem EI(elt tg iter tg2 iter2:Expr)(ifs ifs2:List Expr)(scope:dU)(pos:Pos)(it acc:dD)(env:Env):
  compTurn (.ListComp elt [⟨tg,iter,ifs,0⟩,⟨tg2,iter2,ifs2,0⟩] scope pos) 0 it acc env =
   kx iter.pos tg ifs it env (qh (.ListComp elt [⟨tg,iter,ifs,0⟩,⟨tg2,iter2,ifs2,0⟩] scope pos) iter2 acc env) (.compLoop (.ListComp elt [⟨tg,iter,ifs,0⟩,⟨tg2,iter2,ifs2,0⟩] scope pos) 0 it acc env):=by
 rw[<- B6];rfl
theorem EH(elt tg iter tg2 iter2:Expr)(ifs ifs2:List Expr)(scope:dU)(pos:Pos)(it acc:dD)(env:Env):
  compTurn (.ListComp elt [⟨tg,iter,ifs,0⟩,⟨tg2,iter2,ifs2,0⟩] scope pos) 1 it acc env =
   kx iter2.pos tg2 ifs2 it env (mE elt acc env) (.compLoop (.ListComp elt [⟨tg,iter,ifs,0⟩,⟨tg2,iter2,ifs2,0⟩] scope pos) 1 it acc env):=by rfl
def oP(X:Cx)(ifs:List Expr)(t:TT):Prop:=
 ∀(ag:List (dF×Obj)) (s:dE) (σ:L2.St) (H:Hp) (Q:Bool->Hp->Prop),Inv X ag σ H s->t σ H Q ->
  dN (model X.prog X.w) X.A (forIn ifs M λc r=>if r=M then do let ok<-isTrue c X.env (eval c X.env);pure (ForInStep.yield ok)else pure (ForInStep.yield r)) (TP X ag σ Q) X.xe s
theorem zM{X:Cx}:oP X [] (fun σ H Q=>Q M H):=λag s σ H Q I h=>wpAny_tests_nil ⟨H,I,h⟩
theorem zL{X:Cx}{c:Expr}{t:TT}(h:PT X c t):oP X [c] t:=λag s σ H Q I q=>wpAny_tests_one (h ag s σ H Q I q)
def PU(X:Cx)(m:Sem Unit)(t:TS):Prop:=
 ∀(ag:List (dF×Obj)) (s:dE) (σ:L2.St) (H:Hp) (E:i4),Inv X ag σ H s->t E σ H->dN (model X.prog X.w) X.A m (λ_ s'=>∃ σ' H',Inv X ag σ' H' s'/\E.nx σ' H') X.xe s
theorem l7{X:Cx}(hx:X.xe=fun _ _=>False)(hc:X.calm=true){elt:Expr}{c:List Comprehension}{scope:dU}{pos p:Pos}{d:Nat}{tg:Expr}{ifs:List Expr}{acc:dD}{emit:Sem Unit}{am:It}{v:List dF}{it:dF}{P:Nat->dQ->Prop}{g:TG}{ti:TT}{tb:TS}(eq:compTurn (.ListComp elt c scope pos) d (.ref it) acc X.env=kx p tg ifs (.ref it) X.env emit (.compLoop (.ListComp elt c scope pos) d (.ref it) acc X.env))(T:vH X.prog X.w X.K tg am v it P)(hg:PG X tg g)(hi:oP X ifs ti)(he:PU X emit tb){ag:List (dF×Obj)}{s:dE}{σ:L2.St}{H:Hp}{D:i4}(I:Inv X ag σ H s)(st:P 0 s.heap)(wq:∀b∈v,jQ X ag H b)(h:∃W:Nat->Nat->L2.St->Hp->Prop,(∃m,W 0 m σ H) /\ ∀i m σ H,W i m σ H ->
   (am.stop i H/\D.nx σ H)\/(am.go i H /\ ∃N:L2.St->Hp->Prop,(∀a H',N a H' -> ∃au,au<m/\W (i+1) au a H') /\ ∀x H',am.yld i H x H'->g x σ H' λz H2=>ti z H2 λb t=>if b=M then tb {D with nx:=N} z t else N z t)):
  dP (model X.prog X.w) X.A (.compLoop (.ListComp elt c scope pos) d (.ref it) acc X.env) (λr s'=>match r with | .ok _=>∃a H',Inv X ag a H' s'/\D.nx a H' | .error _=>False) s:=by
 obtain⟨W,⟨m0,w0⟩,F⟩:=h;have k:∀{H':Hp},(∀b∈v,H' b=Y) -> ∀b∈v,jQ X ag H' b:=λhn b l=>⟨hn b l,(wq b l).2⟩;refine codeAny_loop O (λn s'=>∃i a H',Inv X ag a H' s'/\P i s'.heap/\(∀b∈v,H' b=Y)/\W i n a H') ?_ m0 ⟨0,σ,H,I,st,λb l=>(wq b l).1,w0⟩;rintro n U ⟨i,f,t,aq,G,L,w3⟩;show dN _ _ ((compTurn (.ListComp elt c scope pos) d (.ref it) acc X.env).onRaise (λx=>do noteFrame x X.env;theTreesLotGoes x)) _ _ U;refine wpAny_noted ?_;rw[eq];have A:∀{α:Type} {m:Sem α} {Q:α->dE->Prop} {s:dE} {E:dD->dE->Prop},dN (model X.prog X.w) X.A m Q X.xe s->dN (model X.prog X.w) X.A m Q E s:=λh=>by
  rw[hx]at h;exact wpAny_mono h (λ_ _ q=>q) λ_ _ q=>q.elim
 unfold kx;refine wB1 (wpAny_standAt (wB1 ?_));rcases F i n f t w3 with⟨K,qn⟩|⟨go,N,hN,step⟩
 ·refine A (fj (T.done X O O O hc i ag U f t X.xe aq (k L) G K) λr s4 ⟨R,I4⟩=>?_);subst R;exact wP1 ⟨f,t,I4,qn⟩
 ·refine A (fj (T.item X rfl rfl rfl hc i ag U f t X.xe aq (k L) G go) fun r s4 ⟨u,R,h4⟩=>?_);subst R;refine wB1 (A (fj h4 fun _ s5 ⟨x,H5,I5,r5,y5,y,V⟩=>?_));have S:=I5.pinned (k V) (T.obj _ _ y);refine wB1 (A (fj (hg _ s5 f H5 x u _ S r5 (step x H5 y5)) fun _ s6 ⟨ao,H6,I6,q6⟩=>?_));refine wB1 (A (fj (hi _ s6 ao H6 _ I6 q6) fun ok C ⟨w,B,q7⟩=>?_));have again':∀ {j:L2.St} {w:Hp} {C:dE},Inv X (ag++nS v s5.heap) j w C->N j w -> ∃ m,m<n /\ ∃ i a H',Inv X ag a H' C/\P i C.heap/\(∀ b∈v,H' b=none)/\W i m a H':=fun {j w C} B n7=>by
   obtain⟨au,hm,w7⟩:=hN j w n7;refine⟨au,hm,i+1,j,w,B.unpinned,T.keep _ _ _ y λb l o e=>(B.pin (b,o) (mA1 _ (mA1 _ (iS l e)))).1,λb l=>?_,w7⟩;obtain⟨o,e,d⟩:=T.obj _ _ y b l;exact(B.pin (b,o) (mA1 _ (mA1 _ (iS l e)))).2.1
  cases ok with
  |false=>exact wP1 ⟨O,again' B q7⟩
  |true=>exact wB1 (A (fj (he _ C ao w _ B q7) λ_ s8 ⟨σ8,H8,I8,q8⟩=>wP1 ⟨O,again' I8 q8⟩))
noncomputable def px(p:dF)(te:TE):TS:=λD σ H=>te σ H λx H1=>∃xs,H1 p=Z (.lst xs)/\xs.length<dM/\D.nx σ (upd H1 p (.lst (xs++[x])))
theorem m6{X:Cx}{elt:Expr}{te:TE}(h:PE X elt te)(p:dF):PU X (mE elt (.ref p) X.env) (px p te):=by
 intro ag s σ H E I q;unfold mE;refine wB1 (fj (h ag s σ H _ I q) λu i ⟨x,H1,c,a,xs,b,g,d⟩=>?_);refine wB1 (fj (pQ ag i σ H1 (.ref p) [x] (.ref p) [u] (λ_ H'=>E.nx σ H') c O (.cons a .nil) ⟨p,xs,x,O,O,b,g,d⟩) λ_ j ⟨_,H2,e,_,f⟩=>?_);exact wP1 ⟨σ,H2,e,f⟩
noncomputable def zl(am:It)(g:TG)(ti:TT)(tb:TS):TS:=λD σ H=>∃W:Nat->Nat->L2.St->Hp->Prop,(∃m,W 0 m σ H) /\ ∀i m σ H,W i m σ H ->
 (am.stop i H/\D.nx σ H)\/(am.go i H /\ ∃N:L2.St->Hp->Prop,(∀ σ' H',N σ' H' -> ∃m',m'<m/\W (i+1) m' σ' H') /\ ∀x H',am.yld i H x H'->g x σ H' fun σ2 H2=>ti σ2 H2 λb H3=>if b=M then tb {D with nx:=N} σ2 H3 else N σ2 H3)
noncomputable def zk(wi:TI)(g:TG)(ti:TT)(tb:TS):TS:=λD σ H=>wi σ H λam H1=>zl am g ti tb D σ H1
theorem t7{prog:dG}{w:dI}{A:dH}{R:Result->dE->Prop}{s:dE}{elt tg iter tg2 iter2:Expr}{ifs ifs2:List Expr}{scope:dU}{pos:Pos}{it acc:dD}{env:Env}(h0:dP (model prog w) A (.compLoop (.ListComp elt [⟨tg,iter,ifs,0⟩,⟨tg2,iter2,ifs2,0⟩] scope pos) 1 it acc env) R s)(h:dN (model prog w) A (pyIter it) (fun a s'=>dP (model prog w) A (.compLoop (.ListComp elt [⟨tg,iter,ifs,0⟩,⟨tg2,iter2,ifs2,0⟩] scope pos) 1 a acc env) R s')
   (notedBy (model prog w) A env λx s'=>R (.error x) s') s):
  dP (model prog w) A (.compStart (.ListComp elt [⟨tg,iter,ifs,0⟩,⟨tg2,iter2,ifs2,0⟩] scope pos) 1 it acc env) R s:=by
 refine codeAny_of_tree ?_;show dN _ _ ((compStart (.ListComp elt [⟨tg,iter,ifs,0⟩,⟨tg2,iter2,ifs2,0⟩] scope pos) 1 it acc env).onRaise (λx=>do noteFrame x env;standAt theWindowsPlace)) _ _ s;refine wpAny_notedAt ?_;unfold compStart;show dN _ _ (ask >>= _) _ _ s;refine wB1 (wpAny_askSetting (wpAny_ite ?_));split
 ·first
   |exact wB1 (wP1 (wP1 (And.intro rfl h0)))
   |exact wP1 (And.intro rfl h0)
 ·first
   |exact wB1 (wpAny_rule (wB1 (wpAny_standAt (wB1 (wpAny_mono h (λa s' h'=>wP1 (And.intro O h')) λ_ _ x=>x)))))
   |(refine wB1 (wpAny_rule ?_);show dN _ _ (standAt iter2.pos >>= _) _ _ s;exact wB1 (wpAny_standAt (wB1 (wpAny_mono h (λa s' h'=>wP1 (And.intro O h')) λ_ _ x=>x))))
theorem Cp{X:Cx}(hx:X.xe=fun _ _=>False)(hc:X.calm=true){elt tg iter tg2 iter2:Expr}{ifs ifs2:List Expr}{scope:dU}{pos:Pos}{acc:dD}{i:TI}{g:TG}{ti:TT}{tb:TS}(hi:PI X tg2 iter2 i)(hg:PG X tg2 g)(hf:oP X ifs2 ti)(he:PU X (mE elt acc X.env) tb)(hs:∀x,foldedSetIterable iter2 X.env x=pure x:=by intro _;rfl):
  PU X (qh (.ListComp elt [⟨tg,iter,ifs,0⟩,⟨tg2,iter2,ifs2,0⟩] scope pos) iter2 acc X.env) (zk i g ti tb):=by
 intro ag s σ H E I q;unfold qh;refine wB1 (fj (hi ag s σ H _ I q) λv w h1=>?_);refine wB1 (wpAny_standAt (wB1 (wpAny_of_eq (hs v) (wB1 (wpAny_holding (fj h1 λo m h2=>?_))))));obtain⟨it,t,u,am,H2,rfl,k,T,b,n,l⟩:=h2;have a:=l7 hx hc (EH elt tg iter tg2 iter2 ifs ifs2 scope pos (.ref it) acc X.env) T hg hf he k b n l;refine wB1 (wpAny_runOwn (h:=Y) ?_);refine codeAny_mono (t7 a (T.self X.A 0 m _ _ b a)) λr s' d=>?_;cases r with
 |error e=>exact d.elim
 |ok f=>
  obtain⟨c,H',p,j⟩:=d;exact wP1 ⟨c,H',p,j⟩
theorem Un.sameBut{fs ex:List dF}{H H':Hp}{h h1 h2:dQ}{c:dF}(u:Un fs ex H H' h h1)(hs:Heap.SameBut c h1 h2)(hc:h.get? c=Y):Un fs ex H H' h h2:=by
 have ne:∀{b o},h.get? b=Z o->b≠c:=λe z=>by rw[z,hc]at e;cases e
 refine⟨λb o e n d a=>(hs.2 b (ne e)).trans (u.keep b o e n d a),λb o e n d a=>?_,u.free,λb o e a=>?_,u.tups,u.frzs,u.tbls⟩
 ·obtain⟨f,q⟩:=u.slot b o e n d a;exact⟨f,(hs.2 b (ne e)).trans q⟩
 ·obtain⟨o',q⟩:=u.there b o e a;exact⟨o',(hs.2 b (ne e)).trans q⟩
noncomputable def vW(k:Nat)(keep:List Nat)(wi:TI)(g:TG)(ti:TT)(tb:dF->TS):TE:=fun σ H Q=>wi σ H λam H1=>∀p,H1 p=Y ->
 zl am g ti (tb p) {nx:=λ_ H'=>Q (.ref p) H',rt:=λ_ _=>False} (rJ k keep σ) (upd H1 p (.lst []))
theorem wg{X:Cx}(hc:X.calm=true){elt tg iter:Expr}{ifs:List Expr}{rest:List Comprehension}{scope:dU}{pos:Pos}{T:List Str}{keep:List Nat}{k:List (Str×dF)}{L:TI}{g:TG}{ti:TT}{tb:dF->TS}{emit:dD->Env->Sem Unit}(eq:∀it l i,compTurn (.ListComp elt (⟨tg,iter,ifs,0⟩::rest) scope pos) 0 it l i=kx iter.pos tg ifs it i (emit l i) (.compLoop (.ListComp elt (⟨tg,iter,ifs,0⟩::rest) scope pos) 0 it l i))(C:Hn X scope T keep)(y:i0 X.env.cells scope.names []=some k)(hi:PI X tg iter L)(hb:∀s H d p,PG (cxC X scope k T keep s H d) tg g/\oP (cxC X scope k T keep s H d) ifs ti/\PU (cxC X scope k T keep s H d) (emit (.ref p) (cxC X scope k T keep s H d).env) (tb p))(hs:∀x,foldedSetIterable iter X.env x=pure x:=by intro _;rfl):
  PE X (.ListComp elt (⟨tg,iter,ifs,0⟩::rest) scope pos) (vW T.length keep L g ti tb):=by
 intro ag s σ H Q I h;rw[eval_ListComp];refine wpAny_comprehension_free (use:=Y) O hs (Bi y) C.kind C.names ?_;refine fj (hi ag s σ H _ I h) λv s1 h1=>fj h1 λitv a h2=>?_;obtain⟨it,d,wq,am,H2,rfl,ao,TT,w,G,U⟩:=h2;refine wO1 ?_;have F:Inv X ag σ (upd H2 a.heap.objs.size (.lst [])) {a with heap:=a.heap.push {cls:=.type "list",data:=.seq ([]:List dD).toArray}}:=ao.lnew (t':=a.toks) .nil (bi _);have old:∀b∈d,∃o,a.heap.get? b=Z o:=λb hb=>by
  obtain⟨o,e,_⟩:=TT.obj 0 a.heap w b hb;exact⟨o,e⟩
 have D:∀b∈d,b≠a.heap.objs.size:=λb hb z=>by
  obtain⟨o,e⟩:=old b hb;have:=hL1 e;rw[z]at this;exact az _ this
 have B:∀b∈d,jQ X ag (upd H2 a.heap.objs.size (.lst [])) b:=λb hb=>⟨by rw[dZ (D b hb)];exact(G b hb).1,(G b hb).2⟩;have R:∀b∈d,∃o,({a with heap:=a.heap.push {cls:=.type "list",data:=.seq ([]:List dD).toArray}}:dE).heap.get? b=Z o:=λb hb=>by
  obtain⟨o,e⟩:=old b hb;exact⟨o,hP1 _ e⟩
 have A:=tG F C y B R;obtain⟨N,aq,he⟩:=hb {a with heap:=a.heap.push {cls:=.type "list",data:=.seq ([]:List dD).toArray}} (upd H2 a.heap.objs.size (.lst [])) d a.heap.objs.size;refine jW ?_;have S:∀b∈d,jQ (cxC X scope k T keep {a with heap:=a.heap.push {cls:=.type "list",data:=.seq ([]:List dD).toArray}} (upd H2 a.heap.objs.size (.lst [])) d) [] (upd H2 a.heap.objs.size (.lst [])) b:=λb hb=>
  ⟨(B b hb).1,(A.ok.exf b hb).1,A.ok.exfs b hb,.inl hb,(A.ok.exf b hb).2,λp P=>absurd (show p∈([]:List (dF×Obj))from P) (by simp)⟩
 have u:wq 0 (pushCells ((a.heap.push {cls:=.type "list",data:=.seq ([]:List dD).toArray}).push {cls:=.type "dict",data:=.dict #[]}) scope.names):=
  TT.keep 0 a.heap _ w λb hb o e=>pushCells_keeps scope.names _ b o (hP1 _ (hP1 _ e))
 have j:=l7 (X:=cxC X scope k T keep {a with heap:=a.heap.push {cls:=.type "list",data:=.seq ([]:List dD).toArray}} (upd H2 a.heap.objs.size (.lst [])) d) O hc (eq (.ref it) (.ref a.heap.objs.size) _) TT N aq he A u S
  (U a.heap.objs.size (ao.hok.fresh (nR1 _)))
 refine codeAny_mono (codeAny_compStart_list j (TT.self X.A 0 _ _ _ u j)) λr s' E=>?_;cases r with
 |error e=>exact E.elim
 |ok f=>
  obtain⟨V,H',n,q'⟩:=E;obtain⟨m,W,_⟩:=id n.loc;refine⟨m,W,λh' t=>⟨.ref a.heap.objs.size,H',?_,O,q'⟩⟩;refine F.call' (s':={s' with heap:=h'}) (ch:=d) n.os (Un.sameBut n.base t (Heap.get?_none_of_le (nR1 _))) (λb au e=>?_) n.bare λb hb=>(B b hb).2.2.2 |> λz=>⟨z.1,(B b hb).2.1,z.2.1,z.2.2⟩
  refine(n.hok b au e).stay (λc w' hc q=>(t.2 c ?_).trans q) (λ_ q=>q) λ_ _ q=>q;rintro rfl;have K:=n.free;rcases hc with rfl|hc
  ·exact nomatch K.symm.trans e
  ·exact nomatch K.symm.trans hc
section
variable{K:Fg1}{H:Hp}{mu:List dF}{S:Sto}{p:dF}{u:HO}{o:Ob}{n:Nat}
theorem Rd.ne{a:dF}{x:HO}(h:H p=Y)(q:Rd H a x):a≠p:=by
 rintro rfl;rcases q with q|⟨_,q⟩<;>(rw[h]at q;cases q)
theorem Ext.fresh(hp:H p=Y):Ext mu mu H (upd H p u) where
 pre:=bn
 old:=λa o h _=>by rw[dZ (eD h hp)];exact h
 tup:=λa xs h=>by
  have ne:=Rd.ne hp h;rcases h with h|⟨b,h⟩
  ·exact .inl (by rw[dZ ne];exact h)
  ·exact .inr ⟨b,by rw[dZ ne];exact h⟩
 frz:=λa o x h=>by rw[dZ (eD h hp)];exact h
 new:=λ_ h=>.inl h
theorem Ext.new_(hp:H p=Y):Ext mu (mu++[p]) H (upd H p u) where
 pre:=bv _ _
 old:=(Ext.fresh (mu:=mu) hp).old
 tup:=(Ext.fresh (mu:=mu) hp).tup
 frz:=(Ext.fresh (mu:=mu) hp).frz
 new:=λa h=>by
  rcases aG.mp h with h|h
  ·exact .inl h
  ·have:a=p:=by simpa using h
   subst this;exact .inr hp
theorem Sim.fresh(s:Sim K H mu S)(hp:H p=Y):Sim K (upd H p u) mu S:=
 ⟨s.len,s.nd,λk o a h1 h2=>(s.ob k o a h1 h2).keep (Ext.fresh hp) λb e=>by rw[dZ (eD e hp)];exact e⟩
theorem Sim.notin(s:Sim K H mu S)(hp:H p=Y):p∉mu:=λh=>by
 obtain⟨o,e⟩:=s.here h;rw[hp]at e;cases e
theorem kl.more{a:dF}{mu':List dF}{H':Hp}(e:Ext mu mu' H H')(h:∀o,H a=Z o->H' a=Z o):∀{o:Ob},kl K H mu a o->kl K H' mu' a o
 | .lst _,⟨vs,q,r⟩=>⟨vs,h _ q,r.ext e⟩
 | .dct _,⟨ws,q,r⟩=>⟨ws,h _ q,KR.ext e r⟩
 | .dcT _,⟨ws,q,r,l⟩=>⟨ws,h _ q,KT.ext e r,l⟩
 | .iset _,q=>⟨h _ q.1,q.2⟩
 | .dcF _,⟨ws,⟨o,u,c,b⟩,r,l⟩=>⟨ws,⟨o,u,h _ c,b⟩,KT.ext e r,l⟩
 | .tst _,⟨ws,q,r⟩=>⟨ws,h _ q,KT.ext e r⟩
theorem Sim.new(s:Sim K H mu S)(hp:H p=Y)(ho:kl K (upd H p u) (mu++[p]) p o):Sim K (upd H p u) (mu++[p]) (S++[o]):=by
 refine⟨by rw[lA1,lA1,s.len];rfl,?_,λk o' a h1 h2=>?_⟩
 ·rw[bA];refine⟨s.nd,by simp,λa f b g e=>?_⟩;have:b=p:=by simpa using g
  subst this;subst e;exact s.notin hp f
 ·by_cases d:k<S.length
  ·rw[gL1 d]at h1;rw[gL1 (by rw[s.len];exact d)]at h2;exact(s.ob k o' a h1 h2).more (Ext.new_ hp) λh e=>by rw[dZ (eD e hp)];exact e
  ·have c:k=S.length:=by
    have:=(gE1.mp h1).1;rw[lA1]at this;simp at this;lia
   subst c;rw[gR1 (nR1 _)]at h1;rw[<- s.len,gR1 (nR1 _)]at h2;simp at h1 h2;subst h1;subst h2;exact ho
theorem Ext.put{x:HO}(hp:H p=Z x)(hm:Mut (Z x))(b:p∈mu):Ext mu mu H (upd H p u) where
 pre:=bn
 old:=λa o h n=>by rw[dZ (λe=>n (by rw[e];exact b))];exact h
 tup:=λa xs h=>by
  have ne:a≠p:=by
   rintro rfl;rcases h with h|⟨_,h⟩<;>(rw[hp]at h;cases h;exact hm)
  rcases h with h|⟨c,h⟩
  ·exact .inl (by rw[dZ ne];exact h)
  ·exact .inr ⟨c,by rw[dZ ne];exact h⟩
 frz:=λa o y h=>by
  rw[dZ (λe=>?_)]
  ·exact h
  ·subst e;rw[hp]at h;cases h;exact hm
 new:=λ_ h=>.inl h
theorem Sim.put(s:Sim K H mu S){x:HO}(hn:mu[n]?=Z p)(hp:H p=Z x)(hm:Mut (Z x))(ho:kl K (upd H p u) mu p o):Sim K (upd H p u) mu (S.set n o):=by
 refine⟨by rw[aW];exact s.len,s.nd,λk o' a h1 h2=>?_⟩;by_cases b:n=k
 ·subst b;have f:n<S.length:=by
   have:=(gE1.mp h1).1
   rwa [aW]at this
  rw[aI f]at h1;cases h1;rw[hn]at h2;cases h2;exact ho
 ·rw [gS1 b] at h1;have ne:a≠p:=fun e=>by
   subst e;obtain⟨i,c⟩:=gE1.mp hn;obtain⟨h,d⟩:=gE1.mp h2;exact b ((List.getElem_inj s.nd).mp (c.trans d.symm))
  exact(s.ob k o' a h1 h2).keep (Ext.put hp hm (gM1 hn)) λg e=>by rw[dZ ne];exact e
theorem Sim.lst(s:Sim K H mu S){ds:List D}{a:dF}(h:S[n]?=Z (.lst ds))(hn:mu[n]?=Z a):∃vs,H a=Z (.lst vs)/\d4 K H mu ds vs:=s.ob n _ a h hn
theorem Sim.dcT(s:Sim K H mu S){ks:List (TK×D)}{a:dF}(h:S[n]?=Z (.dcT ks))(hn:mu[n]?=Z a):∃ws,H a=Z (.ext (gh a ws))/\KT K H mu ks ws/\ws.length<=dM:=s.ob n _ a h hn
theorem Sim.dct(s:Sim K H mu S){ks:List (Key×D)}{a:dF}(h:S[n]?=Z (.dct ks))(hn:mu[n]?=Z a):∃ws,H a=Z (.dK ws)/\KR K H mu ks ws:=s.ob n _ a h hn
theorem Sim.newL(s:Sim K H mu S){ds:List D}{vs:List V}(r:d4 K H mu ds vs)(hp:H p=Y):Sim K (upd H p (.lst vs)) (mu++[p]) (S++[.lst ds]):=s.new hp ⟨vs,d9,r.ext (Ext.new_ hp)⟩
theorem Sim.putL(s:Sim K H mu S){ds:List D}{vs ws:List V}(r:d4 K H mu ds vs)(hn:mu[n]?=Z p)(hp:H p=Z (.lst ws)):Sim K (upd H p (.lst vs)) mu (S.set n (.lst ds)):=
 s.put hn hp trivial ⟨vs,d9,r.ext (Ext.put hp trivial (gM1 hn))⟩
end
theorem fS{mu:List dF}{S:Sto}(h:mu.length=S.length)(p:dF):(mu++[p])[S.length]?=Z p:=by
 rw[<- h,gR1 (nR1 _)];simp
noncomputable def eS (a:FA):FE:=λr S=>(a r S).bind λp=>if p.1.length<=dM then some (.tup p.1,p.2)else none
noncomputable def j9 (a:FA):FE:=λr S=>(a r S).bind λp=>if p.1.length<=dM then some (.ref p.2.length,p.2++[.lst p.1])else none
section
variable{X:Cx}{es:List Expr}{pos:Pos}{a:FA}
theorem Gk{x1}(h:MA X es a):ME X (.Tuple es x1 pos) (eS a):=eV (Fu h) <| by
 rintro σ H Q ⟨r,mu,S,d,l,i,g,b,hc⟩;obtain⟨⟨ds,m⟩,f,b⟩:=oB1.mp b;dsimp only at b;split at b
 ·rename_i j;cases b;refine⟨r,mu,S,ds,_,i,g,f,λvs H1 mu1 x1 e k=>⟨by rw[<- e.length];exact j,λp c=>?_⟩⟩;exact hc _ _ mu1 (x1.trans (Ext.fresh c)) (.tup (j6.of d9) (e.ext (Ext.fresh c))) (k.fresh c)
 ·cases b
theorem Gr(h:MA X es a):ME X (.List es pos) (j9 a):=eV (FB h) <| by
 rintro σ H Q ⟨r,mu,S,d,m,k,i,b,hc⟩;obtain⟨⟨ds,n⟩,g,b⟩:=oB1.mp b;dsimp only at b;split at b
 ·rename_i l;cases b;refine⟨r,mu,S,ds,_,k,i,g,λvs H1 mu1 j c f=>⟨by rw[<- c.length];exact l,λp e=>?_⟩⟩;exact hc _ _ (mu1++[p]) (j.trans (Ext.new_ e)) (.ref (fS f.len p)) (f.newL c e)
 ·cases b
end
noncomputable def rL(k:Nat)(keep:List Nat)(r:Ev):Ev:=aP k Y++keep.map λi=>(r[i]?).join
noncomputable def fB:FT:=λ_ S=>Z (M,S)
theorem Eh{K:Fg1}{H:Hp}{mu:List dF}{r:Ev}{σ:L2.St}(k:Nat)(keep:List Nat)(h:fD K H mu r σ):fD K H mu (rL k keep r) (rJ k keep σ):=by
 refine⟨by unfold rL rJ;rw[lA1,lA1,lM1,lM1,lR1,lR1],λi d e=>?_⟩;unfold rL at e;unfold rJ;by_cases hi:i<k
 ·rw[gL1 (by rw[lR1];exact hi),aS]at e;split at e<;>cases e
 ·rw [gR1 (by rw [lR1];lia),lR1,gP1] at e;rw [gR1 (by rw [lR1];lia),lR1,gP1];obtain ⟨j,b,e⟩:=oM1.mp e;rw [b];have f:r[j]? = some (some d):=by
   cases q:r[j]? with
   |none=>rw[q]at e;cases e
   |some o=>rw[q]at e;cases e;rfl
  obtain⟨v,c,a⟩:=h.val j d f;exact⟨v,by rw[oP1,c];rfl,a⟩
section
variable{X:Cx}
theorem zN{ifs:List Expr}{t t':L2.TT}(h:oP X ifs t)(i:∀ σ H Q,t' σ H Q->t σ H Q):oP X ifs t':=λag s σ H Q I q=>h ag s σ H Q I (i σ H Q q)
theorem C2:oP X [] (xA X.K fB):=zN zM fun σ H Q ⟨r,mu,S,b,e,d,c,a,hc⟩=>by cases a;exact hc H mu (.refl _ _) c
theorem C1{c:Expr}{t:FT}(h:MT X c t):oP X [c] (xA X.K t):=zL h
end
open PySem.AutoSeq1 (wpAny_loadPart')
def SIt(b:Bool)(h:dQ)(it a:dF)(i:Nat):Prop:=match b with
 |true=>h.IsListIter it a i
 |false=>h.IsTupleIter it a i
def SCo(b:Bool)(h:dQ)(a:dF)(xs:Array dD):Prop:=match b with
 |true=>h.IsList a xs
 |false=>h.IsTuple a xs
theorem SIt.to{b:Bool}{h h':dQ}{it a:dF}{i:Nat}(x:SIt b h it a i)(k:∀o,h.get? it=Z o->h'.get? it=Z o):SIt b h' it a i:=by
 cases b<;>(obtain⟨o,e,r⟩:=x;exact⟨o,k o e,r⟩)
theorem SIt.rec_{b:Bool}{h:dQ}{it a:dF}{i:Nat}(x:SIt b h it a i):∃o,h.get? it=Z o /\ ∀v,o.data ≠ .cell v:=by
 cases b<;>(obtain⟨o,e,c,d⟩:=x;exact⟨o,e,λv z=>by rw[d]at z;cases z⟩)
theorem SCo.to{b:Bool}{h h':dQ}{a:dF}{xs:Array dD}(x:SCo b h a xs)(k:∀o,h.get? a=Z o->h'.get? a=Z o):SCo b h' a xs:=by
 cases b<;>(obtain⟨o,e,r⟩:=x;exact⟨o,k o e,r⟩)
noncomputable def iz(b:Bool)(a:dF):Obj:=match b with
 |true=>{cls:=.type "list_iterator",data:=.fields #[.ref a,.int 0 0]}
 |false=>{cls:=.type "tuple_iterator",data:=.fields #[.ref a,.int 0 0]}
section
variable{prog:dG}{w:dI}{A:dH}{E:dD->dE->Prop}{s:dE}
theorem vX{b:Bool}{h:dQ}{it a:dF}(e:h.get? it=Z (iz b a)):SIt b h it a 0:=by
 cases b<;>exact⟨_,e,O,O⟩
theorem nF{b:Bool}{a:dF}{xs:Array dD}{Q:dD->dE->Prop}(x:SCo b s.heap a xs)(h:Q (.ref s.heap.objs.size) {s with heap:=s.heap.push (iz b a)}):dN (model prog w) A (pyIter (.ref a)) Q E s:=by
 cases b
 ·exact wpAny_pyIter_tuple x h
 ·exact wpAny_pyIter_list x h
theorem Ad{it l:dF}{i:Nat}{xs:Array dD}{x:dD}{Q:dD->dE->Prop}(ti:s.heap.IsTupleIter it l i)(tl:s.heap.IsTuple l xs)(hx:xs[i]? = Z x)(e:∀h',h'.IsTupleIter it l (i+1)->Heap.SameBut it s.heap h'->Q x {s with heap:=h'}):dN (model prog w) A (Builtin.SmallTypes.nextOf (.ref it)) Q E s:=by
 obtain⟨o,b,hc,a⟩:=id ti;obtain⟨g,c,_,f,d⟩:=tl;unfold Builtin.SmallTypes.nextOf;refine wB1 (wpAny_callSpecial?_slot (name:=Str.ofString "__next__") ti.typeIs F.slot_tuple_iterator_next (wE1 F.slot_tuple_iterator_next ti.typeIs F.entry_tuple_iterator_next ?_ (F.args_tuple_iterator_next_1 _)));show dN _ _ (field (.ref it) 0 >>= _) _ _ s;refine wB1 (wpAny_field b a (x:=.ref l) O ?_);show dN _ _ (if(Value.ref l == Value.none)=M then _ else _) _ _ s;rw[aj (show¬ ((Value.ref l == Value.none)=M)from aK)];show dN _ _ (field (.ref it) 1 >>= _) _ _ s;refine wB1 (wpAny_field b a (x:=.int i 0) O ?_);show dN _ _ (seqItems? (.ref l) >>= _) _ _ s;refine wB1 (wpAny_seqItems c d ?_);simp only[Int.toNat_natCast,hx];refine wB1 (wpAny_setField b a (by simp) (wP1 ⟨x,O,wP1 (e _ ⟨_,hW1 _ b (Obj.isFreed_of_fields (Obj.data_mapFields a _)),(Obj.cls_mapFields ..).trans hc,by rw[Obj.data_mapFields a];simp[rawInt]⟩ (Heap.SameBut.update ..))⟩))
theorem rD {it l:dF}{i:Nat}{xs:Array dD}{Q:dD->dE->Prop}(g:A.handled=none)(ti:s.heap.IsTupleIter it l i)(tl:s.heap.IsTuple l xs)(hx:xs[i]? = none)
  (h:∀h' e,Heap.ExtBut it s.heap h'->(∃o,h'.get? e=Z o/\o.cls = .type "StopIteration")->E (.ref e) {s with heap:=h'}):dN (model prog w) A (Builtin.SmallTypes.nextOf (.ref it)) Q E s:=by
 obtain⟨o,b,hc,f⟩:=id ti;obtain⟨k,c,_,j,d⟩:=tl;unfold Builtin.SmallTypes.nextOf;refine wB1 (wpAny_callSpecial?_slot (name:=Str.ofString "__next__") ti.typeIs F.slot_tuple_iterator_next (wE1 F.slot_tuple_iterator_next ti.typeIs F.entry_tuple_iterator_next ?_ (F.args_tuple_iterator_next_1 _)));show dN _ _ (field (.ref it) 0 >>= _) _ _ s;refine wB1 (wpAny_field b f (x:=.ref l) O ?_);show dN _ _ (if(Value.ref l == Value.none)=M then _ else _) _ _ s;rw[aj (show¬ ((Value.ref l == Value.none)=M)from aK)];show dN _ _ (field (.ref it) 1 >>= _) _ _ s;refine wB1 (wpAny_field b f (x:=.int i 0) O ?_);show dN _ _ (seqItems? (.ref l) >>= _) _ _ s;refine wB1 (wpAny_seqItems c d ?_);simp only[Int.toNat_natCast,hx];refine wB1 (wpAny_rule (wB1 (wpAny_setField b f (by simp) ?_)));show dN _ _ (newExc (.type "StopIteration") [] >>= _) _ _ _;refine wB1 ?_;simp only[newExc,newTuple];refine wB1 (wO1 ?_ (by size_fits));refine wB1 (m:=firstArgMember _ _) (wpAny_of_eq (a:=Value.none) (by first|rfl|(simp only[firstArgMember];rfl)) ?_);refine wO1 ?_ (by size_fits);simp only[raiseNew];refine wB1 (wpAny_handled ?_)
 first|rw[show A.in1.handled=Y from g] | rw[g]
 refine wB1 (wP1 (wpAny_throw ?_));exact h _ _ (((Heap.SameBut.update ..).extBut.push _).push _) ⟨_,hS1 _ O,O⟩
theorem nZ{b:Bool}{it l:dF}{i:Nat}{xs:Array dD}{x:dD}{Q:dD->dE->Prop}(ti:SIt b s.heap it l i)(tl:SCo b s.heap l xs)(hx:xs[i]? = Z x)(a:∀h',SIt b h' it l (i+1)->Heap.SameBut it s.heap h'->Q x {s with heap:=h'}):dN (model prog w) A (Builtin.SmallTypes.nextOf (.ref it)) Q E s:=by
 cases b
 ·exact Ad ti tl hx a
 ·exact wpAny_nextOf_list_item ti tl hx a
theorem kZ {b:Bool}{it l:dF}{i:Nat}{xs:Array dD}{Q:dD->dE->Prop}(c:A.handled=none)(ti:SIt b s.heap it l i)(tl:SCo b s.heap l xs)(hx:xs[i]? = none)
  (a:∀h' e,Heap.ExtBut it s.heap h'->(∃o,h'.get? e=Z o/\o.cls = .type "StopIteration")->E (.ref e) {s with heap:=h'}):dN (model prog w) A (Builtin.SmallTypes.nextOf (.ref it)) Q E s:=by
 cases b
 ·exact rD c ti tl hx a
 ·exact wpAny_nextOf_list_end c ti tl hx a
end
open PySem.AutoSeq1 (wpAny_loadPart')
structure KA (z ti to i1 i2:dF):Prop where
 a1:ti≠z
 a2:to≠z
 a3:i1≠z
 a4:i2≠z
 a5:ti≠to
 a6:ti≠i1
 a7:ti≠i2
 a8:to≠i1
 a9:to≠i2
 a10:i1≠i2
section
variable{prog:dG}{w:dI}{A:dH}{E:dD->dE->Prop}{s:dE}{b1 b2:Bool}
theorem SCo.ne{b:Bool}{h:dQ}{a c:dF}{xs:Array dD}{o:Obj}(x:SCo b h a xs)(e:h.get? c=Z o)(n:∀ys k,o.data ≠ .seq ys k):a≠c:=by
 rintro rfl;cases b<;>(obtain⟨o',f,g,k,d⟩:=x;rw[e]at f;cases f;exact n _ _ d)
theorem SCo.ne_it{b f:Bool}{h:dQ}{a it l:dF}{xs:Array dD}{i:Nat}(x:SCo b h a xs)(y:SIt f h it l i):a≠it:=by
 cases f<;>(obtain⟨o,e,c,d⟩:=y;exact x.ne e λys k z=>by rw[d]at z;cases z)
theorem yW{z ti to i1 j v n:dF}{au P:Nat}{xs ys:Array dD}{x y a b:dD}{Q:Option dD->dE->Prop}(D:KA z ti to i1 j)(hz:IsZip s.heap z ti to .none)(wq:IsPair s.heap ti (.ref i1) (.ref j))(T:IsPair s.heap to a b)(n1:v≠to)(n2:n≠to)(h1:SIt b1 s.heap i1 v au)(h2:SIt b2 s.heap j n P)(c1:SCo b1 s.heap v xs)(U:SCo b2 s.heap n ys)(hx:xs[au]?=some x)(hy:ys[P]?=some y)(hQ:∀h',IsZip h' z ti to (rawInt s.heap.objs.size)->IsPair h' to x y->SIt b1 h' i1 v (au+1)->SIt b2 h' j n (P+1)->IsPair h' s.heap.objs.size x y->h'.objs.size=s.heap.objs.size+1 ->
   (∀c o,c≠z->c≠to->c≠i1->c≠j->s.heap.get? c=Z o->h'.get? c=Z o)->Q (Z (.ref s.heap.objs.size)) {s with heap:=h'}):dN (model prog w) A (pyNext (.ref z)) Q E s:=by
 have hT:s.TypeIs (.ref z) "zip":=⟨_,hz,O⟩;have R:v≠z:=c1.ne hz λ_ _ q=>by cases q
 have W:n≠z:=U.ne hz λ_ _ q=>by cases q
 have I:n≠i1:=U.ne_it h1;unfold pyNext;refine wB1 (wpAny_attempt (wpAny_callSpecial?_slot (name:=Str.ofString "__next__") hT F.slot_zip_next (wE1 F.slot_zip_next hT F.entry_zip_next ?_ (F.args_zip_next_1 _))));show dN _ _ (field (.ref z) 2 >>= _) _ _ _;refine wB1 (wpAny_field hz O (x:=.bool J) O ?_);show dN _ _ (field (.ref z) 3 >>= _) _ _ _;refine wB1 (wpAny_field hz O (x:=.ref ti) O ?_);refine wB1 (wpAny_seqItems wq O ?_);show dN _ _ (Builtin.SmallTypes.ownedTupleIsFree (.ref z) >>= _) _ _ _;refine wB1 ?_;unfold Builtin.SmallTypes.ownedTupleIsFree;refine wB1 (wpAny_field hz O (x:=.none) O (wP1 ?_));simp only[if_true];refine wB1 (wpAny_rule ?_);refine wB1 (wpAny_field hz O (x:=.ref to) O ?_);refine wB1 (wS1 hz (by simp) λg1 m r=>?_);replace m:IsZip g1 z ti to .ellipsis:=m;refine wB1 ?_;simp only[bL,List.zipIdx_nil,bF,List.forIn_nil];refine wB1 (wB1 (wpAny_onRaise ?_));show dN _ _ (Builtin.SmallTypes.nextOf (.ref i1) >>= _) _ _ _
 refine wB1 (nZ (h1.to λo q=>r.extBut _ _ D.a3 q) (c1.to λo q=>r.extBut _ _ R q) hx λg2 S u=>wP1 ?_);have i:IsPair g2 to a b:=u.extBut _ _ D.a8 (r.extBut _ _ D.a2 T);refine wB1 (wpAny_seqItems i O ?_);refine wB1 (wpAny_updateSeq_pair i λg3 f t=>?_);replace f:IsPair g3 to x b:=f;refine wB1 (wpAny_letGo (wP1 ?_));refine wB1 (wB1 (wpAny_onRaise ?_));show dN _ _ (Builtin.SmallTypes.nextOf (.ref j) >>= _) _ _ _
 refine wB1 (nZ (h2.to λo q=>t.extBut _ _ D.a9.symm (u.extBut _ _ D.a10.symm (r.extBut _ _ D.a4 q))) (U.to λo q=>t.extBut _ _ n2 (u.extBut _ _ I (r.extBut _ _ W q))) hy λg4 h24 C=>wP1 ?_);have h:IsPair g4 to x b:=C.extBut _ _ D.a9 f;refine wB1 (wpAny_seqItems h O ?_);refine wB1 (wpAny_updateSeq_pair h λd e am=>?_);replace e:IsPair d to x y:=e;refine wB1 (wpAny_letGo (wP1 (wP1 ?_)));refine wB1 (wpAny_seqItems e O ?_);refine wB1 (wpAny_newTuple ?_);have B:d.objs.size=s.heap.objs.size:=by rw[am.1,C.1,t.1,u.1,r.1]
 have H:IsZip d z ti to .ellipsis:=am.extBut _ _ D.a2.symm (C.extBut _ _ D.a4.symm (t.extBut _ _ D.a2.symm (u.extBut _ _ D.a3.symm m)));have hk5:∀c o,c≠z->c≠to->c≠i1->c≠j->s.heap.get? c=Z o->d.get? c=Z o:=λc o p N aq q4 q=>am.extBut _ _ N (C.extBut _ _ q4 (t.extBut _ _ N (u.extBut _ _ aq (r.extBut _ _ p q))));have h15:SIt b1 d i1 v (au+1):=S.to λo q=>am.extBut _ _ D.a8.symm (C.extBut _ _ D.a10 (t.extBut _ _ D.a8.symm q));have h25:SIt b2 d j n (P+1):=h24.to λo q=>am.extBut _ _ D.a9.symm q;have k:z<d.objs.size:=hL1 H;show dN _ _ (Builtin.SmallTypes.ownedTupleHandOut (.ref z) (.ref d.objs.size) >>= _) _ _ _;refine wB1 ?_;unfold Builtin.SmallTypes.ownedTupleHandOut;have V:IsZip (d.push {cls:=.type "tuple",data:=.seq #[x,y]}) z ti to .ellipsis:=hP1 _ H;refine wB1 (wS1 V (by simp) λg7 l X=>?_);replace l:IsZip g7 z ti to (rawInt d.objs.size):=l;refine wS1 l (by simp) λG g s8=>?_;replace g:IsZip G z ti to (rawInt d.objs.size):=g;have ao:∀c o,c≠z->d.get? c=Z o->G.get? c=Z o:=λc o p q=>s8.extBut _ _ p (X.extBut _ _ p (hP1 _ q));have L:IsPair G d.objs.size x y:=s8.extBut _ _ (nG1 k) (X.extBut _ _ (nG1 k) (hS1 _ O));have K:G.objs.size=d.objs.size+1:=by rw[s8.1,X.1,hZ1]
 rw[B]at g L K;refine wP1 ⟨_,O,wP1 ?_⟩;show Q (Z (.ref d.objs.size)) _;rw[B]
 exact hQ G g (ao _ _ D.a2 e) (h15.to λo q=>ao _ o D.a3 q) (h25.to λo q=>ao _ o D.a4 q) L K λc o p N aq q4 q=>ao c o p (hk5 c o p N aq q4 q)
theorem BU{z ti to i1 u C p:dF}{K N:Nat}{xs ys:Array dD}{a b:dD}{Q:Option dD->dE->Prop}(U:A.handled=Y)(D:KA z ti to i1 u)(hz:IsZip s.heap z ti to .none)(L:IsPair s.heap ti (.ref i1) (.ref u))(H:IsPair s.heap to a b)(n1:C≠to)(n2:p≠to)(h1:SIt b1 s.heap i1 C K)(h2:SIt b2 s.heap u p N)(ao:SCo b1 s.heap C xs)(I:SCo b2 s.heap p ys)(t:xs[K]?=Y\/ys[N]?=Y)(X:∀h',(∀c o,c≠z->c≠to->c≠i1->c≠u->s.heap.get? c=Z o->h'.get? c=Z o)->Q Y {s with heap:=h'}):dN (model prog w) A (pyNext (.ref z)) Q E s:=by
 have aq:s.TypeIs (.ref z) "zip":=⟨_,hz,O⟩;have n:C≠z:=ao.ne hz λ_ _ q=>by cases q
 have am:p≠z:=I.ne hz λ_ _ q=>by cases q
 have y:p≠i1:=I.ne_it h1;unfold pyNext;refine wB1 (wpAny_attempt (wpAny_callSpecial?_slot (name:=Str.ofString "__next__") aq F.slot_zip_next (wE1 F.slot_zip_next aq F.entry_zip_next ?_ (F.args_zip_next_1 _))));show dN _ _ (field (.ref z) 2 >>= _) _ _ _;refine wB1 (wpAny_field hz O (x:=.bool J) O ?_);show dN _ _ (field (.ref z) 3 >>= _) _ _ _;refine wB1 (wpAny_field hz O (x:=.ref ti) O ?_);refine wB1 (wpAny_seqItems L O ?_);show dN _ _ (Builtin.SmallTypes.ownedTupleIsFree (.ref z) >>= _) _ _ _;refine wB1 ?_;unfold Builtin.SmallTypes.ownedTupleIsFree;refine wB1 (wpAny_field hz O (x:=.none) O (wP1 ?_));simp only[if_true];refine wB1 (wpAny_rule ?_);refine wB1 (wpAny_field hz O (x:=.ref to) O ?_);refine wB1 (wS1 hz (by simp) λg1 g i=>?_);replace g:IsZip g1 z ti to .ellipsis:=g;refine wB1 ?_;simp only[bL,List.zipIdx_nil,bF,List.forIn_nil];refine wB1 (wB1 (wpAny_onRaise ?_));show dN _ _ (Builtin.SmallTypes.nextOf (.ref i1) >>= _) _ _ _
 cases hx:xs[K]? with
 |none=>
  refine wB1 (kZ U (h1.to λo q=>i.extBut _ _ D.a3 q) (ao.to λo q=>i.extBut _ _ n q) hx λau e j P=>?_);obtain⟨G,d,f⟩:=P;have r:IsZip au z ti to .ellipsis:=j _ _ D.a3.symm g;have m:e≠z:=λq=>by subst q;rw[r]at d;cases d;simp at f
  refine wS1 r (by simp) λS _ l=>?_;refine wB1 (wpAny_isInstance (T:="StopIteration") (b:=M) ⟨G,l.extBut _ _ m d,f⟩ isSubtype_stop ?_);exact wP1 (X S λc o v _ R _ q=>l.extBut _ _ v (j _ _ R (i.extBut _ _ v q)))
 |some x=>
  have hy:ys[N]?=Y:=by rcases t with h|h;rw[hx]at h;cases h;exact h
  refine wB1 (nZ (h1.to λo q=>i.extBut _ _ D.a3 q) (ao.to λo q=>i.extBut _ _ n q) hx λau h12 j=>wP1 ?_);have k:IsPair au to a b:=j.extBut _ _ D.a8 (i.extBut _ _ D.a2 H);refine wB1 (wpAny_seqItems k O ?_);refine wB1 (wpAny_updateSeq_pair k λS W l=>?_);refine wB1 (wpAny_letGo (wP1 ?_));refine wB1 (wB1 (wpAny_onRaise ?_));show dN _ _ (Builtin.SmallTypes.nextOf (.ref u) >>= _) _ _ _
  refine wB1 (kZ U (h2.to λo q=>l.extBut _ _ D.a9.symm (j.extBut _ _ D.a10.symm (i.extBut _ _ D.a4 q))) (I.to λo q=>l.extBut _ _ n2 (j.extBut _ _ y (i.extBut _ _ am q))) hy λg4 e V P=>?_);obtain⟨G,d,f⟩:=P;have B:IsZip g4 z ti to .ellipsis:=V _ _ D.a4.symm (l.extBut _ _ D.a2.symm (j.extBut _ _ D.a3.symm g));have m:e≠z:=λq=>by subst q;rw[B]at d;cases d;simp at f
  refine wS1 B (by simp) λg5 _ wq=>?_;refine wB1 (wpAny_isInstance (T:="StopIteration") (b:=M) ⟨G,wq.extBut _ _ m d,f⟩ isSubtype_stop ?_);exact wP1 (X g5 λc o v q2 R q4 q=>wq.extBut _ _ v (V _ _ q4 (l.extBut _ _ q2 (j.extBut _ _ R (i.extBut _ _ v q)))))
noncomputable def zH(b1 b2:Bool)(h:dQ)(l1 l2:dF):dQ:=((((h.push (iz b1 l1)).push (iz b2 l2)).push {cls:=.type "tuple",data:=.seq #[.ref h.objs.size,.ref (h.objs.size+1)]}).push {cls:=.type "tuple",data:=.seq #[.none,.none]}).push
 {cls:=.type "zip",data:=.fields #[.none,.bool J,.bool J,.ref (h.objs.size+2),.ref (h.objs.size+3)]}
theorem BS(a c:dF)(xs ys:Array dD):Meets (Builtin.«zip.__new__» ⟨[.type "zip",.ref a,.ref c],[]⟩) (λ_ R s=>SCo b1 s.heap a xs/\SCo b2 s.heap c ys/\R (.ok (.ret (.ref (s.heap.objs.size+4)))) {s with heap:=zH b1 b2 s.heap a c}):=
 .of_wp λprog w A R s h=>by
  obtain⟨b,g,d,tk,f⟩:=s;obtain⟨j,i,h⟩:=h;have e:=sub_zip
  have l:SCo b1 (Shared.heap ⟨b,g,d,tk,f⟩) a xs:=j;have k:SCo b2 (Shared.heap ⟨b.push (iz b1 a),g,d,tk,f⟩) c ys:=i.to λo q=>hP1 _ q
  wp_walk using nF l,nF k
  refine⟨_,O,?_⟩;have m:(b.push (iz b1 a)).objs.size=b.objs.size+1:=hZ1 ..
  simp only[hZ1,zH]at h ⊢;exact h
theorem yX{d b:dF}{xs ys:Array dD}{Q:dD->dE->Prop}(p:SCo b1 s.heap d xs)(m:SCo b2 s.heap b ys)(h:∀h',IsZip h' (s.heap.objs.size+4) (s.heap.objs.size+2) (s.heap.objs.size+3) .none->IsPair h' (s.heap.objs.size+2) (.ref s.heap.objs.size) (.ref (s.heap.objs.size+1))->IsPair h' (s.heap.objs.size+3) .none .none ->
   SIt b1 h' s.heap.objs.size d 0->SIt b2 h' (s.heap.objs.size+1) b 0->h'.objs.size=s.heap.objs.size+5->(∀c o,s.heap.get? c=Z o->h'.get? c=Z o)->Q (.ref (s.heap.objs.size+4)) {s with heap:=h'}):
  dN (model prog w) A (call (.type "zip") [.ref d,.ref b]) Q E s:=by
 refine callType_new F.called_zip (by decide) (F.typeCall_zip_2 _ _) (F.newCall_zip_2 _ _) (λg=>F.args_object_init_3 g _ _) F.entry_zip_new (BS (b1:=b1) (b2:=b2) d b xs ys) ⟨p,m,?_⟩;have a:∀{h:dQ} {o:Obj} {c:dF} {u:Obj},h.get? c=Z u->(h.push o).get? c=Z u:=λq=>hP1 _ q;have at_:∀{h:dQ} {o:Obj} {n:Nat},h.objs.size=n->o.isFreed=J->(h.push o).get? n=Z o:=λe f=>by rw[<- e];exact hS1 _ f
 have l:(iz b1 d).isFreed=J:=by cases b1<;>rfl
 have t:(iz b2 b).isFreed=J:=by cases b2<;>rfl
 have v:(zH b1 b2 s.heap d b).get? s.heap.objs.size=Z (iz b1 d):=a (a (a (a (at_ O l))));have k:(zH b1 b2 s.heap d b).get? (s.heap.objs.size+1)=Z (iz b2 b):=a (a (a (at_ (by simp only[hZ1]) t)));have j:IsPair (zH b1 b2 s.heap d b) (s.heap.objs.size+2) (.ref s.heap.objs.size) (.ref (s.heap.objs.size+1)):=a (a (at_ (by simp only[hZ1]) O));have r:IsPair (zH b1 b2 s.heap d b) (s.heap.objs.size+3) .none .none:=a (at_ (by simp only[hZ1]) O);have i:IsZip (zH b1 b2 s.heap d b) (s.heap.objs.size+4) (s.heap.objs.size+2) (s.heap.objs.size+3) .none:=at_ (by simp only[hZ1]) O;exact⟨⟨_,i,O⟩,h _ i j r (vX v) (vX k) (by simp only[zH,hZ1]) λc o q=>a (a (a (a (a q))))⟩
end
def vI(K:Fg1)(b:Bool)(H:Hp)(a:dF)(xs:List V):Prop:=match b with
 |true=>mX K H a xs
 |false=>j6 K H a xs
section
variable{X:Cx}{ag:List (dF×Obj)}{σ:L2.St}{H:Hp}{s:dE}
theorem fr{b:Bool}{a:dF}{xs:List V}(I:Inv X ag σ H s)(h:vI X.K b H a xs):∃c:List dD,ei xs c/\SCo b s.heap a c.toArray/\xs.length<=dM:=by
 cases b
 ·obtain⟨c,r,p,z⟩:=I.tuple h;exact⟨c,r,p,z⟩
 ·obtain⟨c,r,p,z⟩:=I.list h;exact⟨c,r,p.isList,z⟩
theorem qT{b:Bool}{a:dF}{xs ys:List V}(I:Inv X ag σ H s)(h:vI X.K b H a xs)(h':vI X.K b H a ys):xs=ys:=by
 cases b
 ·exact I.tuple_inj h h'
 ·exact I.list_inj h h'
theorem qS{b:Bool}{a c:dF}{xs:List V}(I:Inv X ag σ H s)(h:vI X.K b H a xs)(f:jQ X ag H c):a≠c:=by
 rintro rfl;have d:∀{o},X.K.lookup a=Z o->False:=λ{o} e=>by
  have g:=I.ok.mod.kin _ _ e;rcases f.2.2.2.1 with z|z
  ·exact I.ok.noex _ _ g z
  ·exact absurd (nL1 (hL1 g) (aC I.ok.bsz z)) (az _)
 cases b
 ·rcases h with(h|⟨_,h⟩)|⟨_,_,_,h,_⟩
  ·rw[f.1]at h;cases h
  ·rw[f.1]at h;cases h
  ·exact d h
 ·rcases h with(h|⟨_,h⟩)|⟨_,_,_,h,_⟩
  ·rw[f.1]at h;cases h
  ·rw[f.1]at h;cases h
  ·exact d h
theorem AK(I:Inv X ag σ H s){fp:List dF}(hf:∀ b∈fp,jQ X ag H b){h':dQ}{p:dF}{xs:List V}{its:List dD}{t':Nat}(hp:s.heap.objs.size<=p)(d:∀ b o,b∉fp->s.heap.get? b=Z o->h'.get? b=Z o)(l:IsTup h' p its.toArray)(j:ei xs its)(hz:xs.length<=dM):Inv X ag σ (upd H p (.tup xs)) {s with heap:=h',toks:=t'}:=by
 have f:H p=Y:=I.hok.fresh hp;have g:∀{b o},s.heap.get? b=Z o->b≠p:=λe=>nN1 (nL1 (hL1 e) hp);have h:∀{b u},H b=Z u->b∉fp:=λe z=>by rw[(hf _ z).1]at e;cases e
 refine I.step (g':=s.gens) (d':=s.drawn) (ch:=fp) (λb a=>⟨(hf b a).2.2.2.1,(hf b a).2.1,(hf b a).2.2.2.2.1,(hf b a).2.2.2.2.2⟩) (λb o _ _ hc e _=>d b o hc e) (λb o _ _ hc e _=>⟨o.slots,d b o hc e⟩) (λb o _ e n=>?_)
  (λb o hc e=>⟨o,d b o hc e⟩) (λb ys e=>?_) (λb o u e=>?_) (λb ps e=>⟨#[],?_⟩) (λm k=>?_) (λb u e=>?_) I.bare
 ·rw[dZ (g e)];exact n
 ·rw[dZ (eD e f)];exact e
 ·rw[dZ (eD e f)];exact e
 ·rw[dZ (eD e f),e];simp
 ·obtain⟨o,es,ep,i,r⟩:=k;exact⟨o,es,ep,d _ o (λz=>(hf _ z).2.1 O) i,r⟩
 ·by_cases a:b=p
  ·subst a;rw[d9]at e;cases e;exact⟨hz,its,j,l⟩
  ·rw[dZ a]at e;refine(I.hok b u e).stay (λc v hc q=>d c v ?_ q) (λc q=>by rw[dZ (eD q f)];exact q) λc ys q=>by rw[dZ (eD q f)];exact q
   rcases hc with z|z
   ·rw[z];exact h e
   ·exact h z
theorem vf(I:Inv X ag σ H s){fp:List dF}(hf:∀b∈fp,jQ X ag H b){h':dQ}{t':Nat}(a:∀b o,b∉fp->s.heap.get? b=Z o->h'.get? b=Z o):Inv X ag σ H {s with heap:=h',toks:=t'}:=by
 have f:∀{b u},H b=Z u->b∉fp:=λe z=>by rw[(hf _ z).1]at e;cases e
 refine I.step (g':=s.gens) (d':=s.drawn) (ch:=fp) (λb d=>⟨(hf b d).2.2.2.1,(hf b d).2.1,(hf b d).2.2.2.2.1,(hf b d).2.2.2.2.2⟩) (λb o _ _ hc e _=>a b o hc e) (λb o _ _ hc e _=>⟨o.slots,a b o hc e⟩) (λb o _ e n=>n)
  (λb o hc e=>⟨o,a b o hc e⟩) (λb ys e=>e) (λb o u e=>e) (λb ps e=>⟨#[],by rw[e];simp⟩) (λm h=>?_) (λb u e=>?_) I.bare
 ·obtain⟨o,es,ep,g,r⟩:=h;exact⟨o,es,ep,a _ o (λz=>(hf _ z).2.1 O) g,r⟩
 ·refine(I.hok b u e).stay (λc v hc q=>a c v ?_ q) (λc q=>q) λc ys q=>q;rcases hc with z|z
  ·rw[z];exact f e
  ·exact f z
end
theorem y6:(2:Nat)<=dM:=by decide
noncomputable def K3(K:Fg1)(b1 b2:Bool)(a1 a2:dF):It:=
 ⟨λi H=>∃xs ys x y,vI K b1 H a1 xs/\vI K b2 H a2 ys/\xs[i]?=Z x/\ys[i]?=Z y,λi H x H'=>∃p v u,H p=Y/\x = .ref p/\H'=upd H p (.tup [v,u])/\(∀xs,vI K b1 H a1 xs->xs[i]?=Z v) /\ ∀ys,vI K b2 H a2 ys->ys[i]?=Z u,
  λi H=>∃xs ys,vI K b1 H a1 xs/\vI K b2 H a2 ys/\(xs.length<=i\/ys.length<=i)⟩
theorem y7{P:dG}{w:dI}{K:Fg1}{elts:List Expr}{k:Nat}{pos:Pos}(b1 b2:Bool)(a1 a2 z ti to m t:dF)(D:KA z ti to m t):vH P w K (.Tuple elts k pos) (K3 K b1 b2 a1 a2) [z,ti,to,m,t] z
  (λi h=>IsZip h z ti to .none/\IsPair h ti (.ref m) (.ref t)/\(∃u v,IsPair h to u v)/\SIt b1 h m a1 i/\SIt b2 h t a2 i) where
 mem:=by simp
 obj:=by
  rintro i h ⟨l,b,⟨u,v,f⟩,j,d⟩ c hc;simp only[aF,bM,or_false]at hc;rcases hc with rfl|rfl|rfl|rfl|rfl
  ·exact⟨_,l,λv q=>by cases q⟩
  ·exact⟨_,b,λv q=>by cases q⟩
  ·exact⟨_,f,λv q=>by cases q⟩
  ·exact j.rec_
  ·exact d.rec_
 keep:=λi h h' ⟨l,b,⟨u,v,f⟩,j,d⟩ C=>⟨C z (by simp) _ l,C ti (by simp) _ b,⟨u,v,C to (by simp) _ f⟩,j.to λo q=>C m (by simp) o q,d.to λo q=>C t (by simp) o q⟩
 item:=by
  intro X W L R hc i ag s σ H E I g st am;subst W L R;obtain⟨l,b,⟨u0,v0,f⟩,j,d⟩:=st;obtain⟨xs,ys,x,y,A,B,ex,wq⟩:=am;obtain⟨V,T,au,hz⟩:=fr I A;obtain⟨F,p,r,ao⟩:=fr I B;obtain⟨u,hu,ru⟩:=T.get ex;obtain⟨S,U,Q⟩:=p.get wq;refine yW D l b f (qS I A (g to (by simp))) (qS I B (g to (by simp))) j d au r (x:=u) (y:=S) (by simpa using hu) (by simpa using U) λh1 p1 p2 p3 p4 p5 p6 G=>?_;refine⟨.ref s.heap.objs.size,O,?_⟩;refine wpAny_letOwnedTupleGo_zip p1 λh2 z2 a=>?_;have lt:∀c∈[z,ti,to,m,t],c≠s.heap.objs.size:=λc hc e=>by
   obtain⟨o,eo⟩:∃o,s.heap.get? c=some o:=by
    simp only[aF,bM,or_false]at hc;rcases hc with rfl|rfl|rfl|rfl|rfl
    ·exact⟨_,l⟩
    ·exact⟨_,b⟩
    ·exact⟨_,f⟩
    ·obtain⟨o,e,_⟩:=j.rec_;exact⟨o,e⟩
    ·obtain⟨o,e,_⟩:=d.rec_;exact⟨o,e⟩
   rw[e]at eo;exact az _ (hL1 eo)
  have aq:∀c o,c∉[z,ti,to,m,t]->s.heap.get? c=Z o->h2.get? c=Z o:=λc o hc q=>by
   simp only[aF,bM,or_false,not_or]at hc;exact a.extBut _ _ hc.1 (G c o hc.1 hc.2.2.1 hc.2.2.2.1 hc.2.2.2.2 q)
  have tp:IsTup h2 s.heap.objs.size [u,S].toArray:=⟨_,a.extBut _ _ (Ne.symm (lt z (by simp))) p5,O,_,O⟩;have I2:=AK I g (t':=s.toks) (nR1 _) aq tp (xs:=[x,y]) (.cons ru (.cons Q .nil)) y6;have hn:H s.heap.objs.size=Y:=I.hok.fresh (nR1 _);refine⟨.ref s.heap.objs.size,_,I2,O,⟨_,x,y,hn,O,O,λN n=>by rw[qT I n A];exact ex,λN n=>by rw[qT I n B];exact wq⟩,
   ⟨z2,a.extBut _ _ D.a1 (G _ _ D.a1 D.a5 D.a6 D.a7 b),⟨u,S,a.extBut _ _ D.a2 p2⟩,p3.to λo q=>a.extBut _ _ D.a3 q,p4.to λo q=>a.extBut _ _ D.a4 q⟩,λc hc=>?_⟩
  rw[dZ (lt c hc)];exact(g c hc).1
 done:=by
  intro X W L R hc i ag s σ H E I g st am;subst W L R;obtain⟨l,b,⟨u0,v0,f⟩,j,d⟩:=st;obtain⟨xs,ys,A,B,hl⟩:=am;obtain⟨V,T,au,hz⟩:=fr I A;obtain⟨F,p,r,ao⟩:=fr I B;have l1:=T.length;have l2:=p.length;refine BU (I.ok.hd hc) D l b f (qS I A (g to (by simp))) (qS I B (g to (by simp))) j d au r (by simp;lia) λh' eb=>⟨O,vf I (t':=s.toks) g λc o hc q=>?_⟩;simp only[aF,bM,or_false,not_or]at hc;exact eb c o hc.1 hc.2.2.1 hc.2.2.2.1 hc.2.2.2.2 q
 self:=λ_ _ _ _ _ ⟨st,_⟩ h=>wpAny_pyIter_zip st h
section
variable{X:Cx}{elts:List Expr}{k:Nat}{tpos:Pos}
noncomputable def Kq(K:Fg1)(ta:TA):TI:=fun σ H R=>ta σ H λvs H1=>∃a1 b1 a2 b2,vs=[.ref a1,.ref a2]/\(∃xs,vI K b1 H1 a1 xs)/\(∃xs,vI K b2 H1 a2 xs)/\R (K3 K b1 b2 a1 a2) H1
theorem Fo {a b:Expr}{ta:TA}{p pos:Pos}(hg:Gl X "zip")(hm:X.mg "zip"=none)(ha:PA X [a,b] ta)(hs:dL [a,b] X.env=[(false,eval a X.env),(false,eval b X.env)]:=by rfl)(hs2:dL [b] X.env=[(false,eval b X.env)]:=by rfl):
  PI X (.Tuple elts k tpos) (.Call (.Name "zip" p) [a,b] [] pos) (Kq X.K ta):=by
 intro ag s σ H R I h;refine Call_ (kd I hg hm boot_zip (PyProof.Rows.callWith_type1 (fj (ha pos ag s σ H _ I h) λN c ⟨vs,H1,f,w,K⟩=>?_) (by rw[hs,hs2]) (by rw[hs2];rfl)));obtain⟨D,b1,x,b2,e,⟨xs,B⟩,⟨ys,F⟩,q⟩:=K;subst e;cases w with
 |cons r j=>
  cases j with
  |cons L j=>
   cases j;cases r;cases L;obtain⟨am,Q,A,ao⟩:=fr f B;obtain⟨l,C,i,t⟩:=fr f F;refine yX A i λh' n o E u G au v=>wpAny_pyIter_zip n ?_;have y:Inv X ag σ H1 {c with heap:=h'}:=f.kept (t':=c.toks) v;refine⟨c.heap.objs.size+4,[c.heap.objs.size+4,c.heap.objs.size+2,c.heap.objs.size+3,c.heap.objs.size,c.heap.objs.size+1],_,_,H1,O,y,y7 b1 b2 D x _ _ _ _ _ ?_,⟨n,o,⟨_,_,E⟩,u,G⟩,λd m=>?_,q⟩
   ·constructor<;>(intro z;have P:((_:Nat)=_):=z;lia)
   ·have g:c.heap.objs.size<=d:=by
     simp only[aF,bM,or_false]at m;rcases m with rfl|rfl|rfl|rfl|rfl
     ·exact br _ _
     ·exact br _ _
     ·exact br _ _
     ·exact nR1 _
     ·exact br _ _
    exact f.fpOk g (f.hok.fresh g)
end
noncomputable def d5 (S:Sto):D->Option (Bool×List D)
 | .tup xs=>some (false,xs)
 | .rol xs=>some (true,xs)
 | .ref n=>match S[n]? with
  |some (.lst xs)=>some (true,xs)
  |_=>none
 |_=>none
noncomputable def jo(S:Sto):D->List (Nat×List D)
 | .ref n=>match S[n]? with
  |some (.lst xs)=>[(n,xs)]
  |_=>[]
 |_=>[]
section
variable{K:Fg1}{H:Hp}{mu:List dF}{S:Sto}
theorem d7{d:D}{v:V}{b:Bool}{xs:List D}(r:eK K H mu d v)(s:Sim K H mu S)(h:d5 S d=Z (b,xs)):∃a vs,v = .ref a/\vI K b H a vs/\d4 K H mu xs vs:=by
 cases d with
 |tup ys=>cases h;cases r with|tup q t=>exact⟨_,_,rfl,q,t⟩
 |rol ys=>cases h;cases r with|rol q t=>exact⟨_,_,rfl,q.sq,t⟩
 |ref n=>
  rw[d5]at h;split at h
  ·rename_i ys e;cases h;cases r with
   |ref q=>
    obtain⟨vs,f,c⟩:=s.lst e q;exact⟨_,vs,O,mX.of f,c⟩
  ·cases h
 |_=>cases h
theorem jA{d:D}{a:dF}{b:Bool}{xs:List D}(r:eK K H mu d (.ref a))(s:Sim K H mu S)(h:d5 S d=some (b,xs)){H1:Hp}{mu1:List dF}{S1:Sto}(x:r9 mu mu1 H H1)(g:Sim K H1 mu1 S1)(ok:pM S1 (jo S d)=true):
  ∃vs,vI K b H1 a vs/\d4 K H1 mu1 xs vs:=by
 have c:=r.exw x;have h1:d5 S1 d=Z (b,xs):=by
  cases d with
  |ref n=>
   rw[d5]at h;split at h
   ·rename_i ys e;cases h;rw[jo,e]at ok;dsimp only[pM]at ok;rw[bN]at ok;rw[d5];split at ok
    ·rename_i zs f
     first|rw[f,D.sames_eq ok] | rw[D.sames_eq ok]
    ·cases ok
   ·cases h
  |_=>exact h
 obtain⟨i,vs,e,q,t⟩:=d7 c g h1;cases e;exact⟨vs,q,t⟩
end
noncomputable def gB (m:FE):FI:=λr S=>(m r S).bind λp=>(d5 p.2 p.1).bind λq=>some (⟨q.2,jo p.2 p.1⟩,p.2)
noncomputable def KX:Nat->List D->List D
 |_,[]=>[]
 |n,d::ds=>.tup [.int n,d]::KX (n+1) ds
noncomputable def LM (m:FA):FI:=λr S=>(m r S).bind λp=>match p.1 with
 |[d]=>(d5 p.2 d).bind λq=>some (⟨KX 0 q.2,jo p.2 d⟩,p.2)
 |_=>none
noncomputable def uw:List D->List D->List D
 |x::xs,y::ys=>.tup [x,y]::uw xs ys
 |_,_=>[]
noncomputable def GN(m:FA):FI:=λr S=>(m r S).bind λp=>match p.1 with
 |[d,e]=>(d5 p.2 d).bind λq=>(d5 p.2 e).bind λt=>Z (⟨uw q.2 t.2,jo p.2 d++jo p.2 e⟩,p.2)
 |_=>Y
noncomputable def gP(lo:Int):Nat->List D
 |0=>[]
 |n+1=>.int lo::gP (lo+1) n
noncomputable def vg (m:FA):FI:=λr S=>(m r S).bind λp=>match p.1 with
 |[.int j]=>if-(2^62)<=j/\j<2^62 then some (⟨gP 0 j.toNat,[]⟩,p.2)else none
 |_=>none
noncomputable def IL(m:FA):FI:=λr S=>(m r S).bind λp=>match p.1 with
 |[.int i,.int j]=>if-(2^62)<=i/\i<2^62 /\ -(2^62)<=j/\j<2^62 then Z (⟨gP i (j-i).toNat,[]⟩,p.2)else Y
 |_=>Y
theorem vN:∀(xs ys:List D) (i:Nat) (d:D),(uw xs ys)[i]?=Z d -> ∃x y,xs[i]?=Z x/\ys[i]?=Z y/\d = .tup [x,y]
 |[],_,i,d,h=>by simp[uw]at h
 |_::_,[],i,d,h=>by simp[uw]at h
 |x::xs,y::ys,0,d,h=>by simp[uw]at h;exact⟨x,y,O,O,h.symm⟩
 |x::xs,y::ys,i+1,d,h=>by
  rw[uw,gC1]at h;obtain⟨e,f,a,c,b⟩:=vN xs ys i d h;exact⟨e,f,by simpa using a,by simpa using c,b⟩
theorem vM:∀(xs ys:List D) (i:Nat),(uw xs ys).length<=i->xs.length<=i\/ys.length<=i
 |[],_,i,_=>.inl (bi _)
 |_::_,[],i,_=>.inr (bi _)
 |x::xs,y::ys,0,h=>by simp[uw]at h
 |x::xs,y::ys,i+1,h=>by
  rcases vM xs ys i (by simpa[uw]using h)with q|q
  ·exact .inl (by simpa using q)
  ·exact .inr (by simpa using q)
theorem sZ:∀(n:Nat) (lo:Int) (i:Nat) (d:D),(gP lo n)[i]?=Z d->i<n/\d = .int (lo+i)
 |0,lo,i,d,h=>by simp[gP]at h
 |n+1,lo,0,d,h=>by simp[gP]at h;exact⟨Nat.succ_pos _,by rw[<- h];simp⟩
 |n+1,lo,i+1,d,h=>by
  rw[gP,gC1]at h;obtain⟨h1,h2⟩:=sZ n (lo+1) i d h;refine⟨Nat.succ_lt_succ h1,?_⟩;rw[h2,show lo+1+(i:Int)=lo+((i+1:Nat):Int) by push_cast;lia]
theorem f0:∀(n:Nat) (lo:Int),(gP lo n).length=n
 |0,_=>rfl
 |n+1,lo=>by rw[gP,lC1,f0 n]
theorem wm{S:Sto}:∀{c a:List (Nat×List D)},pM S (c++a)=M->pM S c=M/\pM S a=M
 |[],_,h=>⟨O,h⟩
 |(n,xs)::c,a,h=>by
  rw[bj,pM,bA1]at h;obtain⟨h1,h2⟩:=wm h.2;exact⟨by rw[pM,bA1];exact⟨h.1,h1⟩,h2⟩
section
variable{X:Cx}{tg:Expr}
theorem tE(K:Fg1)(lo:Int)(n:Nat)(mu:List dF)(H:Hp):ItR K (Jp lo n) ⟨gP lo n,[]⟩ mu H:=by
 intro i H1 mu1 e x s ok;refine⟨λd b=>?_,λh=>by rw[f0]at h;exact h⟩;obtain⟨h1,h2⟩:=sZ n lo i d b;refine⟨h1,λy H2 ⟨c,a⟩=>?_⟩;subst c;subst a;subst h2;exact⟨.refl _ _,s,.int _⟩
theorem Gf{e:Expr}{m:FE}(h:ME X e m):MI X tg e (gB m):=rn (Ib (CA h) (Fp h)) <| by
 rintro σ H R ⟨r,mu,S,am,K,E,D,n,hc⟩;obtain⟨⟨d,I⟩,C,n⟩:=oB1.mp n;obtain⟨⟨b,xs⟩,o,n⟩:=oB1.mp n;cases n;cases b with
 |true=>
  left;refine⟨r,mu,S,d,_,E,D,C,λv H1 mu1 B g f=>?_⟩;obtain⟨a,vs,rfl,q,t⟩:=d7 g f o;refine⟨a,O,⟨vs,q⟩,hc _ H1 mu1 B (λi H2 z F u j ok=>?_) f⟩;obtain⟨ws,c,l⟩:=jA g f o u j ok;refine⟨λd x=>?_,λw=>⟨ws,c,by rw[<- l.length];exact w⟩⟩;obtain⟨v,k,A⟩:=l.get x;refine⟨⟨ws,v,c,k⟩,λy G ⟨s,p⟩=>?_⟩;subst s;have:=p ws c;rw[k]at this;cases this;exact⟨.refl _ _,j,A⟩
 |false=>
  right;refine⟨r,mu,S,d,_,E,D,C,λv H1 mu1 B g f=>?_⟩;obtain⟨a,vs,rfl,q,t⟩:=d7 g f o;refine⟨a,O,⟨vs,q⟩,hc _ H1 mu1 B (λi H2 z F u j ok=>?_) f⟩;obtain⟨ws,c,l⟩:=jA g f o u j ok;refine⟨λd x=>?_,λw=>⟨ws,c,by rw[<- l.length];exact w⟩⟩;obtain⟨v,k,A⟩:=l.get x;refine⟨⟨ws,v,c,k⟩,λy G ⟨s,p⟩=>?_⟩;subst s;have:=p ws c;rw[k]at this;cases this;exact⟨.refl _ _,j,A⟩
theorem sI{K:Fg1}{H:Hp}{mu:List dF}{d:D}{vs:List V}(r:d4 K H mu [d] vs):∃v,vs=[v]/\eK K H mu d v:=by
 cases r with|cons r t=>cases t;exact⟨_,O,r⟩
theorem sH{K:Fg1}{H:Hp}{mu:List dF}{d e:D}{vs:List V}(r:d4 K H mu [d,e] vs):∃v u,vs=[v,u]/\eK K H mu d v/\eK K H mu e u:=by
 cases r with|cons r t=>cases t with|cons q t=>cases t;exact⟨_,_,O,r,q⟩
theorem xX {a:Expr}{m:FA}{p pos:Pos}(hg:Gl X "range")(hm:X.mg "range"=Y)(ha:MA X [a] m)(hs:dL [a] X.env=[(J,eval a X.env)]:=by rfl):MI X tg (.Call (.Name "range" p) [a] [] pos) (vg m):=
 rn (xO hg hm ha hs) <| by
  rintro σ H R ⟨r,mu,S,am,i,f,hs,hm,hc⟩;obtain⟨⟨ds,k⟩,d,hm⟩:=oB1.mp hm;dsimp only at hm;split at hm
  ·rename_i j;split at hm
   ·rename_i b;cases hm;refine⟨r,mu,S,_,_,f,hs,d,λvs H1 mu1 g c h=>?_⟩;obtain⟨v,rfl,e⟩:=sI c;cases e;exact⟨j,O,b.1,b.2,hc _ H1 mu1 g (tE _ _ _ _ _) h⟩
   ·cases hm
  ·cases hm
theorem xW {a b:Expr}{m:FA}{p pos:Pos}(hg:Gl X "range")(hm:X.mg "range"=Y)(ha:MA X [a,b] m)(hs:dL [a,b] X.env=[(J,eval a X.env),(J,eval b X.env)]:=by rfl)(hs2:dL [b] X.env=[(J,eval b X.env)]:=by rfl):MI X tg (.Call (.Name "range" p) [a,b] [] pos) (IL m):=
 rn (xN hg hm ha hs hs2) <| by
  rintro σ H R ⟨r,mu,S,am,n,h,hs,hm,hc⟩;obtain⟨⟨ds,o⟩,e,hm⟩:=oB1.mp hm;dsimp only at hm;split at hm
  ·rename_i i j;split at hm
   ·rename_i c;cases hm;refine⟨r,mu,S,_,_,h,hs,e,λvs H1 mu1 k d l=>?_⟩;obtain⟨v,u,rfl,f,g⟩:=sH d;cases f;cases g;exact⟨i,j,O,c,hc _ H1 mu1 k (tE _ _ _ _ _) l⟩
   ·cases hm
  ·cases hm
variable{elts:List Expr}{k:Nat}{tpos:Pos}
theorem Ge {a b:Expr}{m:FA}{p pos:Pos}(hg:Gl X "zip")(hm:X.mg "zip"=Y)(ha:MA X [a,b] m)(hs:dL [a,b] X.env=[(J,eval a X.env),(J,eval b X.env)]:=by rfl)(hs2:dL [b] X.env=[(J,eval b X.env)]:=by rfl):MI X (.Tuple elts k tpos) (.Call (.Name "zip" p) [a,b] [] pos) (GN m):=
 rn (Fo hg hm ha hs hs2) <| by
  rintro σ H R ⟨r,mu,S,am,S',he,hs,hm,hc⟩;obtain⟨⟨ds,S1⟩,aq,hm⟩:=oB1.mp hm;dsimp only at hm;split at hm
  ·rename_i d e;obtain⟨⟨b1,xs⟩,B,hm⟩:=oB1.mp hm;obtain⟨⟨b2,ys⟩,C,hm⟩:=oB1.mp hm;cases hm;refine⟨r,mu,S,_,_,he,hs,aq,λvs H1 mu1 x1 ao f=>?_⟩;obtain⟨v,u,rfl,F,K⟩:=sH ao;obtain⟨a1,j,rfl,q1,t1⟩:=d7 F f B;obtain⟨a2,o,rfl,Q,t2⟩:=d7 K f C;refine⟨a1,b1,a2,b2,O,⟨j,q1⟩,⟨o,Q⟩,hc _ H1 mu1 x1 (λi H2 V S2 D l ok=>?_) f⟩;obtain⟨h,q⟩:=wm ok;obtain⟨ws,w,L⟩:=jA F f B D l h;obtain⟨c,s,G⟩:=jA K f C D l q;refine⟨λd U=>?_,λT=>⟨ws,c,w,s,?_⟩⟩
   ·obtain⟨x',y',ex,wq,rfl⟩:=vN xs ys i d U;obtain⟨v,E,n⟩:=L.get ex;obtain⟨u,I,t⟩:=G.get wq;refine⟨⟨ws,c,v,u,w,s,E,I⟩,λy H3 ⟨p,v',u',g,au,N,W,P⟩=>?_⟩;have A:=W ws w;have x:=P c s;rw[E]at A;cases A;rw[I]at x;cases x;subst au;subst N;exact⟨Ext.fresh g,l.fresh g,.tup (j6.of d9) (.cons (n.ext (Ext.fresh g)) (.cons (t.ext (Ext.fresh g)) .nil))⟩
   ·rcases vM xs ys i T with z|z
    ·exact .inl (by rw[<- L.length];exact z)
    ·exact .inr (by rw[<- G.length];exact z)
  ·cases hm
end
abbrev G1:=D->Sto->Option (D×Sto)
abbrev G2:=D->D->Sto->Option (D×Sto)
abbrev G3:=D->D->D->Sto->Option (D×Sto)
noncomputable def b1 (f:G1):FN:=λds S=>match ds with
 |[a]=>f a S
 |_=>none
noncomputable def b2 (f:G2):FN:=λds S=>match ds with
 |[a,b]=>f a b S
 |_=>none
noncomputable def b3 (f:G3):FN:=λds S=>match ds with
 |[a,b,c]=>f a b c S
 |_=>none
section
variable{X:Cx}{K:Fg1}{H:Hp}{Q:VK}
theorem pE{f:G2}{x y:V}(h:rN K (b2 f) [x,y] H Q):∃mu S d e r a,eK K H mu d x/\eK K H mu e y/\Sim K H mu S/\f d e S=Z (r,a)/\ph K mu H r a Q:=by
 obtain⟨mu,S,ds,r,a,b,c,g,hc⟩:=h;cases b with
 |cons q t=>cases t with
  |cons i t=>cases t;exact⟨mu,S,_,_,r,a,q,i,c,g,hc⟩
theorem Ch{f:G1}{xs:List V}(h:rN K (b1 f) xs H Q):∃x mu S d r a,xs=[x]/\eK K H mu d x/\Sim K H mu S/\f d S=Z (r,a)/\ph K mu H r a Q:=by
 obtain⟨mu,S,ds,r,a,c,e,b,hc⟩:=h;cases c with
 |nil=>cases b
 |cons q t=>cases t with
  |nil=>exact⟨_,mu,S,_,r,a,O,q,e,b,hc⟩
  |cons g t=>cases b
theorem zx{f:G2}{xs:List V}(h:rN K (b2 f) xs H Q):∃x y mu S d e r a,xs=[x,y]/\eK K H mu d x/\eK K H mu e y/\Sim K H mu S/\f d e S=Z (r,a)/\ph K mu H r a Q:=by
 obtain⟨mu,S,ds,r,a,c,g,b,hc⟩:=h;cases c with
 |nil=>cases b
 |cons q t=>cases t with
  |nil=>cases b
  |cons i t=>cases t with
   |nil=>exact⟨_,_,mu,S,_,_,r,a,O,q,i,g,b,hc⟩
   |cons j t=>cases b
theorem ph.now{mu:List dF}{S:Sto}{d:D}{v:V}(c:ph K mu H d S Q)(r:eK K H mu d v)(s:Sim K H mu S):Q v H:=c v H mu (.refl _ _) r s
end
noncomputable def eY(i j:Int):Bool:=(decide (-(2^64)<i)&&decide (i<2^64))||(decide (-(2^64)<j)&&decide (j<2^64))||(decide (i.natAbs<2^1000)&&decide (j.natAbs<2^1000))
noncomputable def gn:G2:=λd e S=>match d,e with
 | .int i,.int j=>Z (.int (i+j),S)
 | .tup xs,.tup ys=>if xs.length+ys.length<=dM then Z (.tup (xs++ys),S)else Y
 | .str x,.str y=>if x.length+y.length<=dM then Z (.str (x++y),S)else Y
 | .ref a,.ref b=>match S[a]?,S[b]? with
  |some (.lst xs),Z (.lst ys)=>if xs.length+ys.length<=dM then Z (.ref S.length,S++[.lst (xs++ys)])else Y
  |_,_=>Y
 |_,_=>Y
noncomputable def gSub:G2:=λd e S=>match d,e with
 | .int i,.int j=>Z (.int (i-j),S)
 |_,_=>Y
noncomputable def jP:G2:=λd e S=>match d,e with
 | .int i,.int j=>if eY i j=M then Z (.int (i*j),S)else Y
 |_,_=>Y
noncomputable def lg:G2:=λd e S=>match d,e with
 | .int i,.int j=>if 0<j then Z (.int (i%j),S)else Y
 |_,_=>Y
noncomputable def vn:G2:=λd e S=>match d,e with
 | .int i,.int j=>if 0<j/\j<1073741824 then Z (.int (i/j),S)else Y
 |_,_=>Y
noncomputable def vk:G2:=λd e S=>match d,e with
 | .int i,.int j=>if 0<=j/\j<=1000000/\i.natAbs<2^64 then Z (.int (i^j.toNat),S)else Y
 |_,_=>Y
section
variable{X:Cx}
theorem u7{i j:Int}(h:eY i j=M):IntMulOk i j:=by
 unfold eY at h;simp only[bO,bA1,al]at h;rcases h with(⟨h1,h2⟩|⟨h1,h2⟩)|⟨h1,h2⟩
 ·exact .of_left (intBits_le_64 h1 h2)
 ·exact .of_right (intBits_le_64 h1 h2)
 ·exact .of_bits (aC (intBits_le h1) (by decide)) (aC (intBits_le h2) (by decide))
theorem m9{f:dD->dD->Sem dD}{g:G2}{c:Int->Int->Prop}{v:Int->Int->D}(hg:∀ d e S r a,g d e S=Z (r,a) -> ∃ i j,d = .int i/\e = .int j/\c i j/\r=v i j/\a=S){b:Int->Int->V}(hv:∀i j K H mu,eK K H mu (v i j) (b i j))(ho:fX X f (rI c b)):fX X f (r2 X.K (b2 g)):=by
 intro ag s σ H x y u w Q I p l h;obtain⟨mu,S,d,e,r,a,k,r2,n,o,hc⟩:=pE h;obtain⟨i,j,rfl,rfl,m,rfl,rfl⟩:=hg d e S r a o;cases k;cases r2;exact ho ag s σ H _ _ u w Q I p l ⟨i,j,O,O,m,hc.now (hv i j _ _ _) n⟩
theorem kS{f:dD->dD->Sem dD}{g:G2}{v:Int->Int->D}(hg:∀ d e S r a,g d e S=Z (r,a) -> ∃ i j,d = .int i/\e = .int j/\r=v i j/\a=S){b:Int->Int->V}(hv:∀i j K H mu,eK K H mu (v i j) (b i j))(ho:fX X f (Eb b)):fX X f (r2 X.K (b2 g)):=by
 intro ag s σ H x y u w Q I n k h;obtain⟨mu,S,d,e,r,a,c,r2,l,m,hc⟩:=pE h;obtain⟨i,j,rfl,rfl,rfl,rfl⟩:=hg d e S r a m;cases c;cases r2;exact ho ag s σ H _ _ u w Q I n k ⟨i,j,O,O,hc.now (hv i j _ _ _) l⟩
theorem wp:fX X (binaryOp .Sub) (r2 X.K (b2 gSub)):=kS (v:=λi j=>.int (i-j)) (λd e S r a h=>by
 unfold gSub at h;split at h
 ·cases h;exact⟨_,_,O,O,O,O⟩
 ·cases h) (λ_ _ _ _ _=>.int _) FK
theorem kX:fX X (binaryOp .Mult) (r2 X.K (b2 jP)):=m9 (c:=λi j=>IntMulOk i j) (v:=λi j=>.int (i*j)) (λd e S r a h=>by
 unfold jP at h;split at h
 ·split at h
  ·rename_i q;cases h;exact⟨_,_,O,O,u7 q,O,O⟩
  ·cases h
 ·cases h) (λ_ _ _ _ _=>.int _) (Jz λ_ _ _ _ _ _ _ hc q=>mul_int q hc)
theorem ms:fX X (binaryOp .Mod) (r2 X.K (b2 lg)):=m9 (c:=λ_ j=>0<j) (v:=λi j=>.int (i%j)) (λd e S r a h=>by
 unfold lg at h;split at h
 ·split at h
  ·rename_i q;cases h;exact⟨_,_,O,O,q,O,O⟩
  ·cases h
 ·cases h) (λ_ _ _ _ _=>.int _) FM
theorem z8:fX X (binaryOp .FloorDiv) (r2 X.K (b2 vn)):=m9 (c:=Jt) (v:=λi j=>.int (i/j)) (λd e S r a h=>by
 unfold vn at h;split at h
 ·split at h
  ·rename_i q;cases h;exact⟨_,_,O,O,q,O,O⟩
  ·cases h
 ·cases h) (λ_ _ _ _ _=>.int _) CK
theorem zZ:fX X (binaryOp .Pow) (r2 X.K (b2 vk)):=m9 (c:=Js) (v:=λi j=>.int (i^j.toNat)) (λd e S r a h=>by
 unfold vk at h;split at h
 ·split at h
  ·rename_i q;cases h;exact⟨_,_,O,O,q,O,O⟩
  ·cases h
 ·cases h) (λ_ _ _ _ _=>.int _) FL
theorem yG{s:dE}{prog:dG}{w:dI}{A:dH}{E:dD->dE->Prop}{t b:dF}{ws:List dD}{Q:dD->dE->Prop}(ht:IsTup s.heap t ([]:List dD).toArray)(hb:IsTup s.heap b ws.toArray)(h:Q (.ref b) s):
  dN (model prog w) A (binaryOp .Add (.ref t) (.ref b)) Q E s:=by
 obtain⟨⟨p,o,j,q⟩,i,hc,n,k⟩:=id ht;obtain⟨⟨l,e,g,f⟩,c,a,m,d⟩:=id hb;simp only at hc k a d;subst hc k a d;exact concat_meets ⟨_,i,O⟩ ⟨_,c,O⟩ noFill_tuple_add seq_tuple_add PySem.F.slot_tuple_add PySem.F.entry_tuple_add (PySem.F.args_tuple_add_2 _ _) (tuple_addW0 t b ([]:List dD).toArray ws.toArray n m o e q f (by simp)) ⟨i,c,h⟩
theorem gk:fX X (binaryOp .Add) (r2 X.K (b2 gn)):=by
 intro ag s σ H x y u w Q I o q h;obtain⟨mu,S,d,e,r,R,v,r2,g,c,hc⟩:=pE h;unfold gn at c;split at c
 ·cases c;cases v;cases r2;exact FR ag s σ H _ _ u w Q I o q ⟨_,_,O,O,hc.now (.int _) g⟩
 ·rename_i xs ys;split at c
  ·rename_i t;cases c;cases v with
   |tup C k=>
    cases r2 with
    |tup A m=>
     rename_i f a1 l a2;by_cases E:f=[]
     ·subst E;have:xs=[]:=by cases k;rfl
      subst this;cases o;cases q;obtain⟨B,N,F,_⟩:=I.tuple C;obtain⟨D,L,p2,_⟩:=I.tuple A;have:B=[]:=N.nil_iff.mpr O;subst this;exact yG F p2 ⟨.ref a2,H,I,O,hc.now (.tup A m) g⟩
     ·refine CL ag s σ H _ _ u w Q I o q ⟨a1,a2,f,l,O,O,C,A,E,by rw[<- k.length,<- m.length];exact t,λz=>?_,λz p n=>?_⟩
      ·subst z;have:ys=[]:=by cases m;rfl
       subst this;rw[aN]at hc;exact hc.now (.tup C k) g
      ·exact hc _ _ mu (Ext.fresh n) (.tup (j6.of d9) ((k.append m).ext (Ext.fresh n))) (g.fresh n)
  ·cases c
 ·rename_i i j;split at c
  ·rename_i t;cases c;cases v;cases r2;exact uX ag s σ H _ _ u w Q I o q ⟨i,j,O,O,t,hc.now (.str _) g⟩
  ·cases c
 ·rename_i a b;split at c
  ·rename_i xs ys K au;split at c
   ·rename_i t;cases c;cases v with
    |ref P=>
     cases r2 with
     |ref am=>
      obtain⟨f,ao,k⟩:=g.lst K P;obtain⟨l,G,m⟩:=g.lst au am;refine FQ ag s σ H _ _ u w Q I o q ⟨_,_,f,l,O,O,ao,G,by rw[<- k.length,<- m.length];exact t,λp n=>?_⟩;exact hc _ _ (mu++[p]) (Ext.new_ n) (.ref (fS g.len p)) (g.newL (k.append m) n)
   ·cases c
  ·cases c
 ·cases c
end
noncomputable def iD(p:Int->Int->Bool):G2:=λd e S=>match d,e with
 | .int i,.int j=>Z (.bl (p i j),S)
 |_,_=>Y
section
variable{X:Cx}
theorem rO{p:Int->Int->Bool}(d e:D)(S:Sto)(r:D)(a:Sto)(h:iD p d e S=Z (r,a)):∃i j,d = .int i/\e = .int j/\r = .bl (p i j)/\a=S:=by
 unfold iD at h;split at h
 ·cases h;exact⟨_,_,O,O,O,O⟩
 ·cases h
theorem Kh:fX X (compareOp .LtE) (r2 X.K (b2 (iD λi j=>decide (i<=j)))):=kS rO (λ_ _ _ _ _=>.bl _) Ij
theorem z7:fX X (compareOp .Gt) (r2 X.K (b2 (iD λi j=>decide (j<i)))):=kS rO (λ_ _ _ _ _=>.bl _) Ik
theorem Kj:fX X (compareOp .GtE) (r2 X.K (b2 (iD λi j=>decide (j<=i)))):=kS rO (λ_ _ _ _ _=>.bl _) Il
end
noncomputable def lh:D->Bool
 | .non=>M
 | .bl _=>M
 | .int _=>M
 | .str _=>M
 |_=>J
noncomputable def JH:D->D->Option Bool
 | .non,.non=>some true
 | .bl a,.bl b=>some (a == b)
 | .bl a,.int b=>some ((if a then 1 else 0) == b)
 | .int a,.bl b=>some (a == (if b then 1 else 0))
 | .int a,.int b=>some (a == b)
 | .str a,.str b=>some (a == b)
 |d,e=>if lh d&&lh e then some false else none
noncomputable def ll(f:D->D->Option Bool):List D->List D->Option Bool
 |x::xs,y::ys=>(f x y).bind λb=>(ll f xs ys).map λc=>b&&c
 |[],[]=>Z M
 |_,_=>Z J
noncomputable def fW(S:Sto):Nat->D->D->Option Bool
 |0,_,_=>Y
 |n+1,d,e=>match d5 S d,d5 S e with
  |some p,Z q=>if p.1=q.1 then(if p.1=M/\p.2.length≠q.2.length then Z J else ll (fW S n) p.2 q.2)else Z J
  |some _,Y=>if lh e=M then Z J else Y
  |none,Z _=>if lh d=M then Z J else Y
  |none,Y=>JH d e
section
variable{X:Cx}{ag:List (dF×Obj)}{σ:L2.St}{H:Hp}{s:dE}{mu:List dF}{S:Sto}
theorem fK{K:Fg1}{d:D}{v:V}(r:eK K H mu d v)(h:lh d=M):jZ v=M /\ ∀e w,eK K H mu e w->lh e=M->JH d e=Z (uq v w):=by
 cases d with
 |non=>cases r;refine⟨O,λe w q f=>?_⟩;cases e with
  |non=>cases q;rfl
  |bl _=>cases q;rfl
  |int _=>cases q;rfl
  |str _=>cases q;rfl
  |_=>cases f
 |bl b=>cases r;refine⟨O,λe w q f=>?_⟩;cases e with
  |non=>cases q;rfl
  |bl _=>cases q;rfl
  |int _=>cases q;rfl
  |str _=>cases q;rfl
  |_=>cases f
 |int i=>cases r;refine⟨O,λe w q f=>?_⟩;cases e with
  |non=>cases q;rfl
  |bl _=>cases q;rfl
  |int _=>cases q;rfl
  |str _=>cases q;rfl
  |_=>cases f
 |str x=>cases r;refine⟨O,λe w q f=>?_⟩;cases e with
  |non=>cases q;rfl
  |bl _=>cases q;rfl
  |int _=>cases q;rfl
  |str _=>cases q;rfl
  |_=>cases f
 |_=>cases h
theorem oy{d e:D}{b:Bool}(h:JH d e=Z b):lh d=M/\lh e=M:=by
 cases d<;>cases e<;>first|exact⟨rfl,rfl⟩|(cases h;done)|exact nomatch h|(simp[JH,lh]at h)
theorem A8{v:V}(h:jZ v=M):uq v v=M:=by
 cases v<;>first|rfl|(cases h;done)|exact beq_self_eq_true _|(simp[uq];done)
theorem tQ(I:Inv X ag σ H s)(hs:Sim X.K H mu S):∀(n:Nat) {d e:D} {v:V} {b:Bool},eK X.K H mu d v->eK X.K H mu e v->fW S n d e=Z b->b=M
 |0,_,_,_,_,_,_,h=>by cases h
 |n + 1,d,e,v,b,B,l,h=>by
  rw[fW]at h;have g:∀{xs ys:List D} {vs:List V} {b:Bool},d4 X.K H mu xs vs->d4 X.K H mu ys vs->ll (fW S n) xs ys=Z b->b=M:=by
   intro xs
   induction xs with
   |nil=>intro ys vs b u A h;cases u;cases A;cases h;rfl
   |cons x xs ih=>
    intro ys vs b u A h;cases u with
    |cons r t=>
     cases A with
     |cons T ao=>
      rw[ll]at h;obtain⟨b1,j,h⟩:=oB1.mp h;obtain⟨b2,c,h⟩:=oM1.mp h;subst h;rw[tQ I hs n r T j,ih t ao c];rfl
  cases hd:d5 S d with
  |some p=>
   obtain⟨F,xs⟩:=p;obtain⟨a,vs,rfl,q,t⟩:=d7 B hs hd;cases he:d5 S e with
   |some p2=>
    obtain⟨qb,ys⟩:=p2;obtain⟨a2,w,c,m,y⟩:=d7 l hs he;cases c;rw[hd,he]at h;dsimp only at h;obtain⟨Q,U,E,_⟩:=fr I q;obtain⟨C,N,k,_⟩:=fr I m;have K:F=qb:=by
     cases F<;>cases qb
     ·rfl
     ·obtain⟨o,j,z,_⟩:=E;obtain⟨au,c,i,_⟩:=k;rw[j]at c;cases c;rw[z]at i;exact absurd i (by decide)
     ·obtain⟨o,j,z,_⟩:=E;obtain⟨au,c,i,_⟩:=k;rw[j]at c;cases c;rw[z]at i;exact absurd i (by decide)
     ·rfl
    subst K;have L:=qT I q m;subst L;rw[ak O,aj (by rw[t.length,y.length];simp)]at h;exact g t y h
   |none=>
    rw[hd,he]at h;dsimp only at h;split at h
    ·rename_i f;have:=(fK l f).1;cases this
    ·cases h
  |none=>
   cases he:d5 S e with
   |some p2=>
    obtain⟨qb,ys⟩:=p2;obtain⟨a2,w,c,m,y⟩:=d7 l hs he;subst c;rw[hd,he]at h;dsimp only at h;split at h
    ·rename_i f;have:=(fK B f).1;cases this
    ·cases h
   |none=>
    rw[hd,he]at h;dsimp only at h;obtain⟨R,G⟩:=oy h;obtain⟨am,P⟩:=fK B R;rw[P e v l G]at h;cases h;exact A8 am
theorem fx{A:dH}{b:Bool}{a:dF}{its:Array dD}{v:V}{u:dD}(c:SCo b s.heap a its)(r:d6 v u)(f:jZ v=true)(d:A.units<cLine):
   SeqAt.EqAt A s (.ref a) u J/\SeqAt.EqAt A s u (.ref a) J/\SeqAt.RcAt A s (.ref a) u J/\SeqAt.RcAt A s u (.ref a) J:=by
 cases v with
 | non => cases r;cases b
          · exact⟨.tuple_none c d,.none_tuple c d,.tuple_none c d,.none_tuple c d⟩
          · exact⟨.list_none c d,.none_list c d,.list_none c d,.none_list c d⟩
 | bl k => cases r;cases b
           · exact⟨.tuple_bool k c d,.bool_tuple k c d,.tuple_bool k c d,.bool_tuple k c d⟩
           · exact⟨.list_bool k c d,.bool_list k c d,.list_bool k c d,.bool_list k c d⟩
 | int i => obtain ⟨t,rfl⟩:=r;cases b
            · exact⟨.tuple_int i t c d,.int_tuple i t c d,.tuple_int i t c d,.int_tuple i t c d⟩
            · exact⟨.list_int i t c d,.int_list i t c d,.list_int i t c d,.int_list i t c d⟩
 | str x => obtain ⟨t,rfl⟩:=r;cases b
            · exact⟨.tuple_str x t c d,.str_tuple x t c d,.tuple_str x t c d,.str_tuple x t c d⟩
            · exact⟨.list_str x t c d,.str_list x t c d,.list_str x t c d,.str_list x t c d⟩
 |_=>cases f
theorem Ck{A:dH}{x y:V}{u w:dD}(e:d6 x u)(a:d6 y w)(h:jZ x=M)(f:jZ y=M):SeqAt.RcAt A s u w (uq x y):=by
 cases x with
 |non=>cases e;cases y with
  |non=>cases a;exact .none_none
  |bl k=>cases a;exact .none_bool k
  |int i=>obtain⟨t,rfl⟩:=a;exact .none_int i t
  |str z=>obtain⟨t,rfl⟩:=a;exact .none_str z t
  |_=>cases f
 |bl d=>cases e;cases y with
  |non=>cases a;exact .bool_none d
  |bl k=>cases a;exact .bool_bool d k
  |int i=>obtain⟨t,rfl⟩:=a;exact .bool_int d i t
  |str z=>obtain⟨t,rfl⟩:=a;exact .bool_str d z t
  |_=>cases f
 |int c=>obtain⟨b,rfl⟩:=e;cases y with
  |non=>cases a;exact .int_none c b
  |bl k=>cases a;exact .int_bool c b k
  |int i=>obtain⟨t,rfl⟩:=a;exact .int_int c b i t
  |str z=>obtain⟨t,rfl⟩:=a;exact .int_str c b z t
  |_=>cases f
 |str g=>obtain⟨b,rfl⟩:=e;cases y with
  |non=>cases a;exact .str_none g b
  |bl k=>cases a;exact .str_bool g b k
  |int i=>obtain⟨t,rfl⟩:=a;exact .str_int g b i t
  |str z=>obtain⟨t,rfl⟩:=a;exact .str_str g b z t
  |_=>cases f
 |_=>cases h
theorem vw(f:D->D->Option Bool):∀{xs ys:List D} {b:Bool},ll f xs ys=Z b -> ∃e:Nat->Bool,(∀j x y,xs[j]?=Z x->ys[j]?=Z y->f x y=Z (e j))/\b=((af (min xs.length ys.length)).all e&&xs.length == ys.length)
 |[],[],b,h=>by cases h;exact⟨λ_=>M,λj x y h=>by simp at h,O⟩
 |[],y::ys,b,h=>by cases h;exact⟨λ_=>M,λj x y h=>by simp at h,by simp⟩
 |x::xs,[],b,h=>by cases h;exact⟨λ_=>M,λj x y h h'=>by simp at h',by simp⟩
 |x::xs,y::ys,b,h=>by
  rw[ll]at h;obtain⟨b1,g,h⟩:=oB1.mp h;obtain⟨b2,i,h⟩:=oM1.mp h;obtain⟨e,m,d⟩:=vw f i;refine⟨λj=>match j with|0=>b1|j+1=>e j,λj k l c a=>?_,?_⟩
  ·cases j with
   |zero=>simp at c a;subst c;subst a;exact g
   |succ j=>exact m j k l (by simpa using c) (by simpa using a)
  ·rw[<- h,d,lC1,lC1,Nat.succ_min_succ,List.range_succ_eq_map,bP,List.all_map];have:((xs.length+1 == ys.length+1):Bool)=(xs.length == ys.length):=by simp
   rw[this,Bool.and_assoc];rfl
theorem l5(I:Inv X ag σ H s)(hs:Sim X.K H mu S):∀(n:Nat) {A:dH} {d e:D} {v w:V} {u z:dD} {b:Bool},A.units+n<cLine->eK X.K H mu d v->eK X.K H mu e w->d6 v u->d6 w z->fW S n d e=Z b->SeqAt.EqAt A s u z b/\SeqAt.RcAt A s u z b
 |0,_,_,_,_,_,_,_,_,_,_,_,_,_,h=>by cases h
 |n + 1,A,d,e,v,w,u,z,b,hu,Q,r,R,F,h=>by
  have g:A.units<cLine:=by lia
  have h0:=h;rw[fW]at h;cases hd:d5 S d with
  |some p=>
   obtain⟨pb,xs⟩:=p;obtain⟨a,vs,rfl,q,t⟩:=d7 Q hs hd;obtain⟨k,au,o,_⟩:=fr I q;cases R;cases he:d5 S e with
   |some p2=>
    obtain⟨qb,ys⟩:=p2;obtain⟨a2,am,rfl,U,P⟩:=d7 r hs he;obtain⟨c,l,i,_⟩:=fr I U;cases F;rw[hd,he]at h;dsimp only at h;have m:SeqAt.RcAt A s (.ref a) (.ref a2) b->SeqAt.EqAt A s (.ref a) (.ref a2) b/\SeqAt.RcAt A s (.ref a) (.ref a2) b:=λrc=>by
     refine⟨?_,rc⟩;by_cases ha:a=a2
     ·subst ha;rw[tQ I hs (n+1) Q r h0];exact .same _
     ·exact .of_refs ha rc
    split at h
    ·rename_i N;have wq:pb=qb:=N;subst wq;split at h
     ·rename_i W;cases h;obtain⟨h1,h2⟩:=W;subst h1;refine m (.lists_lengths o i ?_ g);have l1:=t.length;have l2:=P.length;have l3:=au.length;have l4:=l.length
      simp only[sT1,bne_iff_ne,ne_eq];lia
     ·rename_i W;obtain ⟨f,hf,E⟩:=vw _ h;have elts:∀ j (h1:j<k.toArray.size) (h2:j<c.toArray.size),SeqAt.EqAt A.in1 s k.toArray[j] c.toArray[j] (f j):=fun j h1 h2=>by
       have K:j<k.length:=by simpa using h1
       have B:j<c.length:=by simpa using h2
       have k1:j<vs.length:=by rw[au.length];exact K
       have k2:j<am.length:=by rw[l.length];exact B
       obtain⟨x,ex,rx⟩:=t.getV (gG1 k1);obtain⟨y,ey,ry⟩:=P.getV (gG1 k2);obtain⟨u1,ao,ru1⟩:=au.get (gG1 k1);obtain⟨u2,L,aq⟩:=l.get (gG1 k2);have G:k.toArray[j]=u1:=by
        rw[gG1 K]at ao;simpa using ao
       have T:c.toArray[j]=u2:=by
        rw[gG1 B]at L;simpa using L
       rw[G,T];exact(l5 I hs n (A:=A.in1) (by show A.units+1+n<cLine;lia) rx ry ru1 aq (hf j x y ex ey)).1
      have l1:=t.length;have l2:=P.length;have l3:=au.length;have l4:=l.length
      cases pb with
      |false=>
       refine m ?_;have:=SeqAt.RcAt.tuples o i g elts;rw[E];have G:k.toArray.size=xs.length:=by simp;lia
       have T:c.toArray.size=ys.length:=by simp;lia
       rw[G,T]at this;exact this
      |true=>
       refine m ?_;have C:xs.length=ys.length:=by
        by_cases z:xs.length=ys.length
        ·exact z
        ·exact absurd ⟨O,z⟩ W
       have:=SeqAt.RcAt.lists o i (by simp;lia) g elts;rw[E];have G:k.toArray.size=xs.length:=by simp;lia
       rw[G]at this;rw[C,Nat.min_self,beq_self_eq_true,bN,<- C];exact this
    ·rename_i N;cases h;cases pb with
     |true=>
      cases qb with
      |true=>exact absurd O N
      |false=>exact⟨.list_tuple o i g,.list_tuple o i g⟩
     |false=>
      cases qb with
      |false=>exact absurd O N
      |true=>exact⟨.tuple_list o i g,.tuple_list o i g⟩
   |none=>
    rw[hd,he]at h;dsimp only at h;split at h
    ·rename_i f;cases h;obtain⟨r1,r2,r3,r4⟩:=fx o F (fK r f).1 g;exact⟨r1,r3⟩
    ·cases h
  |none=>
   cases he:d5 S e with
   |some p2=>
    obtain⟨qb,ys⟩:=p2;obtain⟨a2,am,rfl,U,P⟩:=d7 r hs he;obtain⟨c,l,i,_⟩:=fr I U;cases F;rw[hd,he]at h;dsimp only at h;split at h
    ·rename_i f;cases h;obtain⟨r1,r2,r3,r4⟩:=fx i R (fK Q f).1 g;exact⟨r2,r4⟩
    ·cases h
   |none=>
    rw[hd,he]at h;dsimp only at h;obtain⟨f1,f2⟩:=oy h;obtain⟨g1,g2⟩:=fK Q f1;have g3:=(fK r f2).1;rw[g2 e w r f2]at h;cases h;exact⟨kf R F g1 g3,Ck R F g1 g3⟩
end
noncomputable def eO:Nat:=60
noncomputable def wU:G2:=λd e S=>(fW S eO d e).map λb=>(.bl b,S)
section
variable{X:Cx}
theorem sY(l:X.A.units+64<cLine):fX X (compareOp .Eq) (r2 X.K (b2 wU)):=by
 intro ag s σ H x y u w Q I j g h;obtain⟨mu,S,d,e,r,k,f,r2,c,a,hc⟩:=pE h;obtain⟨b,i,a⟩:=oM1.mp a;cases a;exact(l5 I c eO (by show _+60<cLine;lia) f r2 j g i).2 X.prog X.w X.xe _ ⟨.bl b,H,I,O,hc.now (.bl b) c⟩
end
section
variable{X:Cx}{ag:List (dF×Obj)}{σ:L2.St}{H:Hp}{s:dE}{mu:List dF}{S:Sto}
theorem CP{A:dH}{x y:V}{u w:dD}(e:d6 x u)(a:d6 y w)(h:jZ x=M)(f:jZ y=M):SeqAt.RcNeAt A s u w (!uq x y):=by
 cases x with
 |non=>cases e;cases y with
  |non=>cases a;exact .none_none
  |bl k=>cases a;exact .none_bool k
  |int i=>obtain⟨t,rfl⟩:=a;exact .none_int i t
  |str z=>obtain⟨t,rfl⟩:=a;exact .none_str z t
  |_=>cases f
 |bl d=>cases e;cases y with
  |non=>cases a;exact .bool_none d
  |bl k=>cases a;exact .bool_bool d k
  |int i=>obtain⟨t,rfl⟩:=a;exact .bool_int d i t
  |str z=>obtain⟨t,rfl⟩:=a;exact .bool_str d z t
  |_=>cases f
 |int c=>obtain⟨b,rfl⟩:=e;cases y with
  |non=>cases a;exact .int_none c b
  |bl k=>cases a;exact .int_bool c b k
  |int i=>obtain⟨t,rfl⟩:=a;exact .int_int c b i t
  |str z=>obtain⟨t,rfl⟩:=a;exact .int_str c b z t
  |_=>cases f
 |str g=>obtain⟨b,rfl⟩:=e;cases y with
  |non=>cases a;exact .str_none g b
  |bl k=>cases a;exact .str_bool g b k
  |int i=>obtain⟨t,rfl⟩:=a;exact .str_int g b i t
  |str z=>obtain⟨t,rfl⟩:=a;exact .str_str g b z t
  |_=>cases f
 |_=>cases h
theorem my{A:dH}{b:Bool}{a:dF}{its:Array dD}{v:V}{u:dD}(c:SCo b s.heap a its)(r:d6 v u)(f:jZ v=M)(d:A.units<cLine):SeqAt.RcNeAt A s (.ref a) u M/\SeqAt.RcNeAt A s u (.ref a) M:=by
 cases v with
 | non => cases r;cases b
          · exact⟨.tuple_none c d,.none_tuple c d⟩
          · exact⟨.list_none c d,.none_list c d⟩
 | bl k => cases r;cases b
           · exact⟨.tuple_bool k c d,.bool_tuple k c d⟩
           · exact⟨.list_bool k c d,.bool_list k c d⟩
 | int i => obtain ⟨t,rfl⟩:=r;cases b
            · exact⟨.tuple_int i t c d,.int_tuple i t c d⟩
            · exact⟨.list_int i t c d,.int_list i t c d⟩
 | str x => obtain ⟨t,rfl⟩:=r;cases b
            · exact⟨.tuple_str x t c d,.str_tuple x t c d⟩
            · exact⟨.list_str x t c d,.str_list x t c d⟩
 |_=>cases f
theorem F1(I:Inv X ag σ H s)(hs:Sim X.K H mu S)(n:Nat){A:dH}{d e:D}{v w:V}{u z:dD}{b:Bool}(hu:A.units+n<cLine)(wq:eK X.K H mu d v)(K:eK X.K H mu e w)(ru:d6 v u)(ao:d6 w z)(h:fW S n d e=Z b):SeqAt.RcNeAt A s u z (!b):=by
 cases n with
 |zero=>cases h
 |succ n=>
  have g:A.units<cLine:=by lia
  rw[fW]at h;cases hd:d5 S d with
  |some p=>
   obtain⟨T,xs⟩:=p;obtain⟨a,vs,rfl,q,t⟩:=d7 wq hs hd;obtain⟨k,U,m,_⟩:=fr I q;cases ru;cases he:d5 S e with
   |some p2=>
    obtain⟨qb,ys⟩:=p2;obtain⟨a2,E,rfl,au,W⟩:=d7 K hs he;obtain⟨c,l,i,_⟩:=fr I au;cases ao;rw[hd,he]at h;dsimp only at h;have l1:=t.length;have l2:=W.length;have l3:=U.length;have l4:=l.length
    split at h
    ·rename_i L;have R:T=qb:=L;subst R;split at h
     ·rename_i P;cases h;obtain⟨h1,h2⟩:=P;subst h1;refine .lists_lengths m i ?_ g;simp only[sT1,bne_iff_ne,ne_eq];lia
     ·rename_i P;obtain ⟨f,hf,B⟩:=vw _ h;have elts:∀ j (h1:j<k.toArray.size) (h2:j<c.toArray.size),SeqAt.EqAt A.in1 s k.toArray[j] c.toArray[j] (f j):=fun j h1 h2=>by
       have F:j<k.length:=by simpa using h1
       have o:j<c.length:=by simpa using h2
       have k1:j<vs.length:=by rw[U.length];exact F
       have k2:j<E.length:=by rw[l.length];exact o
       obtain⟨x,ex,rx⟩:=t.getV (gG1 k1);obtain⟨y,ey,ry⟩:=W.getV (gG1 k2);obtain⟨u1,am,aq⟩:=U.get (gG1 k1);obtain⟨u2,G,Q⟩:=l.get (gG1 k2);have C:k.toArray[j]=u1:=by
        rw[gG1 F]at am;simpa using am
       have N:c.toArray[j]=u2:=by
        rw[gG1 o]at G;simpa using G
       rw[C,N];exact(l5 I hs n (A:=A.in1) (by show A.units+1+n<cLine;lia) rx ry aq Q (hf j x y ex ey)).1
      cases T with
      |false=>
       have:=SeqAt.RcNeAt.tuples m i g elts;rw[B];have C:k.toArray.size=xs.length:=by simp;lia
       have N:c.toArray.size=ys.length:=by simp;lia
       rw[C,N]at this;exact this
      |true=>
       have r:xs.length=ys.length:=by
        by_cases z:xs.length=ys.length
        ·exact z
        ·exact absurd ⟨O,z⟩ P
       have:=SeqAt.RcNeAt.lists m i (by simp;lia) g elts;rw[B];have C:k.toArray.size=xs.length:=by simp;lia
       rw[C]at this;rw[r,Nat.min_self,beq_self_eq_true,bN,<- r];exact this
    ·rename_i L;cases h;cases T with
     |true=>
      cases qb with
      |true=>exact absurd O L
      |false=>exact .list_tuple m i g
     |false=>
      cases qb with
      |false=>exact absurd O L
      |true=>exact .tuple_list m i g
   |none=>
    rw[hd,he]at h;dsimp only at h;split at h
    ·rename_i f;cases h;exact(my m ao (fK K f).1 g).1
    ·cases h
  |none=>
   cases he:d5 S e with
   |some p2=>
    obtain⟨qb,ys⟩:=p2;obtain⟨a2,E,rfl,au,W⟩:=d7 K hs he;obtain⟨c,l,i,_⟩:=fr I au;cases ao;rw[hd,he]at h;dsimp only at h;split at h
    ·rename_i f;cases h;exact(my i ru (fK wq f).1 g).2
    ·cases h
   |none=>
    rw[hd,he]at h;dsimp only at h;obtain⟨f1,f2⟩:=oy h;obtain⟨g1,g2⟩:=fK wq f1;have g3:=(fK K f2).1;rw[g2 e w K f2]at h;cases h;exact CP ru ao g1 g3
end
noncomputable def Hr:G2:=λd e S=>(fW S eO d e).map λb=>(.bl (!b),S)
noncomputable def BO(f:D->D->Option Bool)(x:D):List D->Option Bool
 |[]=>Z J
 |y::ys=>(f y x).bind λb=>(BO f x ys).map λc=>b||c
noncomputable def Hs:G2:=λd e S=>(d5 S e).bind λp=>(BO (fW S eO) d p.2).map λb=>(.bl b,S)
noncomputable def ot:G2:=λd e S=>(d5 S e).bind λp=>(BO (fW S eO) d p.2).map λb=>(.bl (!b),S)
noncomputable def p8:D->Bool
 | .non=>M
 |_=>J
noncomputable def Kt:G2:=λd e S=>match e with
 | .non=>Z (.bl (p8 d),S)
 |_=>Y
noncomputable def DE:G2:=λd e S=>match e with
 | .non=>Z (.bl (!p8 d),S)
 |_=>Y
section
variable{X:Cx}
theorem Io(l:X.A.units+64<cLine):fX X (compareOp .NotEq) (r2 X.K (b2 Hr)):=by
 intro ag s σ H x y u w Q I j g h;obtain⟨mu,S,d,e,r,k,f,r2,c,a,hc⟩:=pE h;obtain⟨b,i,a⟩:=oM1.mp a;cases a;exact F1 I c eO (by show _+60<cLine;lia) f r2 j g i X.prog X.w X.xe _ ⟨.bl (!b),H,I,O,hc.now (.bl _) c⟩
theorem AQ(f:D->D->Option Bool)(x:D):∀{ys:List D} {b:Bool},BO f x ys=Z b -> ∃bs:List Bool,bs.length=ys.length/\(∀(j:Nat) (y:D) (k:Bool),ys[j]?=Z y->bs[j]?=Z k->f y x=Z k)/\b=bs.any id
 |[],b,h=>by cases h;exact⟨[],O,λj y k h=>by simp at h,O⟩
 |y::ys,b,h=>by
  rw[BO]at h;obtain⟨b1,g,h⟩:=oB1.mp h;obtain⟨b2,i,h⟩:=oM1.mp h;obtain⟨bs,m,e,a⟩:=AQ f x i;refine⟨b1::bs,by simp[m],λj l k c d=>?_,?_⟩
  ·cases j with
   |zero=>simp at c d;subst c;subst d;exact g
   |succ j=>exact e j l k (by simpa using c) (by simpa using d)
  ·rw[<- h,a];simp
open Classical in
theorem Eg{ag:List (dF×Obj)}{σ:L2.St}{H:Hp}{s:dE}{mu:List dF}{S:Sto}(I:Inv X ag σ H s)(hs:Sim X.K H mu S){A:dH}(L:A.units+61<cLine){x:D}{v:V}{u:dD}(r:eK X.K H mu x v)(F:d6 v u){ys:List D}{vs:List V}{a:List dD}{b:Bool}(n:d4 X.K H mu ys vs)(p:ei vs a)(h:BO (fW S eO) x ys=Z b):∃e:dD->Bool,(∀w∈a,SeqAt.EqAt A.in1 s w u (e w))/\a.any e=b:=by
 obtain⟨bs,K,t,rfl⟩:=AQ _ x h;have ao:=n.length;have am:=p.length;have at_:∀(j:Nat) w k,a[j]?=Z w->bs[j]?=Z k->SeqAt.EqAt A.in1 s w u k:=λj w k g d=>by
  have q:j<a.length:=(gE1.mp g).1;obtain⟨y,E,B⟩:=n.getV (i:=j) (v:=vs[j]'(by lia)) (gG1 (by lia));obtain⟨G,m,r2⟩:=p.get (i:=j) (x:=vs[j]'(by lia)) (gG1 (by lia));rw[g]at m;cases m;exact(l5 I hs eO (A:=A.in1) (by show A.units+1+60<cLine;lia) B r r2 F (t j y k E d)).1
 refine⟨λw=>decide (∃j:Nat,a[j]?=Z w/\bs[j]?=Z M),λw g=>?_,?_⟩
 ·by_cases z:∃j:Nat,a[j]?=Z w/\bs[j]?=Z M
  ·dsimp only;rw[ah z];obtain⟨j,o,c⟩:=z;exact at_ j w M o c
  ·dsimp only;rw[ai z];obtain⟨j,f⟩:=bq g;have q:j<a.length:=(gE1.mp f).1;have l:j<bs.length:=by lia
   have c:=gG1 l;cases d:bs[j]with
   |true=>rw[d]at c;exact absurd ⟨j,f,c⟩ z
   |false=>rw[d]at c;exact at_ j w J f c
 ·rw[bQ,bR,bR];constructor
  ·rintro⟨w,g,z⟩;obtain⟨j,o,c⟩:=of_decide_eq_true z;exact⟨M,gM1 c,O⟩
  ·rintro⟨k,d,z⟩;obtain⟨j,f⟩:=bq d;have q:j<bs.length:=(gE1.mp f).1;have l:j<a.length:=by lia
   have C:k=M:=z;subst C;exact⟨a[j],bS l,ah ⟨j,gG1 l,f⟩⟩
theorem Ki(F:X.A.units+64<cLine):fX X (compareOp .In) (r2 X.K (b2 Hs)):=by
 intro ag s σ H x y u w Q I D o h;obtain⟨mu,S,d,e,r,E,n,r2,j,i,hc⟩:=pE h;obtain⟨⟨z,ys⟩,v,i⟩:=oB1.mp i;obtain⟨b,B,i⟩:=oM1.mp i;cases i;obtain⟨a,vs,rfl,q,t⟩:=d7 r2 j v;cases o;obtain⟨c,C,m,_⟩:=fr I q;obtain⟨f,l,p⟩:=Eg I j (A:=X.A) (by lia) n D t C B;have g:EP X ag σ Q (.bool (c.toArray.any f)) s:=⟨.bl b,H,I,by rw[show c.toArray.any f=c.any f by simp,p];rfl,hc.now (.bl b) j⟩;cases z
 ·exact SeqAt.in_tupleAt f m (λy k=>l y (by simpa using k)) g
 ·exact SeqAt.in_listAt f m (λy k=>l y (by simpa using k)) g
theorem CN(F:X.A.units+64<cLine):fX X (compareOp .NotIn) (r2 X.K (b2 ot)):=by
 intro ag s σ H x y u w Q I D o h;obtain⟨mu,S,d,e,r,E,n,r2,j,i,hc⟩:=pE h;obtain⟨⟨z,ys⟩,v,i⟩:=oB1.mp i;obtain⟨b,B,i⟩:=oM1.mp i;cases i;obtain⟨a,vs,rfl,q,t⟩:=d7 r2 j v;cases o;obtain⟨c,C,m,_⟩:=fr I q;obtain⟨f,l,p⟩:=Eg I j (A:=X.A) (by lia) n D t C B;have g:EP X ag σ Q (.bool (!c.toArray.any f)) s:=⟨.bl (!b),H,I,by rw[show c.toArray.any f=c.any f by simp,p];rfl,hc.now (.bl _) j⟩;cases z
 ·exact SeqAt.notIn_tupleAt f m (λy k=>l y (by simpa using k)) g
 ·exact SeqAt.notIn_listAt f m (λy k=>l y (by simpa using k)) g
theorem wu{K:Fg1}{H:Hp}{mu:List dF}{d:D}{v:V}(r:eK K H mu d v):p8 d=decide (v = .non):=by
 cases r<;>simp[p8]
theorem Ip:fX X (compareOp .Is) (r2 X.K (b2 Kt)):=by
 intro ag s σ H x y u w Q I g c h;obtain⟨mu,S,d,e,r,i,b,r2,f,a,hc⟩:=pE h;cases e with
 |non=>
  cases a;cases r2;refine FP ag s σ H _ _ u w Q I g c ⟨O,?_⟩;rw[<- wu b];exact hc.now (.bl _) f
 |_=>cases a
theorem FX:fX X (compareOp .IsNot) (r2 X.K (b2 DE)):=by
 intro ag s σ H x y u w Q I g c h;obtain⟨mu,S,d,e,r,i,b,r2,f,a,hc⟩:=pE h;cases e with
 |non=>
  cases a;cases r2;refine CJ ag s σ H _ _ u w Q I g c ⟨O,?_⟩;rw[<- wu b];exact hc.now (.bl _) f
 |_=>cases a
end
noncomputable def fv:G1:=λd S=>match d with
 | .str x=>if x.length<=dM then Z (.int x.length,S)else Y
 |_=>(d5 S d).map λp=>(.int p.2.length,S)
noncomputable def BP:G2:=λd e S=>match e with
 | .int i=>(d5 S d).bind λp=>(vE p.2 i).map λx=>(x,S)
 |_=>Y
noncomputable def gTup:G1:=λd S=>(d5 S d).map λp=>(.tup p.2,S)
noncomputable def DD:G1:=λd S=>(d5 S d).map λp=>(.ref S.length,S++[.lst p.2])
noncomputable def ke:G3:=λo i v S=>match o,i with
 | .ref n,.int k=>match S[n]? with
  |some (.lst xs)=>(yd xs.length k).map λj=>(.non,S.set n (.lst (xs.set j v)))
  |_=>Y
 |_,_=>Y
noncomputable def BA:List D->Option Bool
 |[]=>Z M
 | .bl b::r=>(BA r).map λc=>b&&c
 |_=>Y
noncomputable def vo:G1:=λd S=>(d5 S d).bind λp=>(BA p.2).map λb=>(.bl b,S)
noncomputable def oZ:G1:=λd S=>match d with
 | .int i=>Z (.int i,S)
 | .bl b=>Z (.int (if b then 1 else 0),S)
 |_=>Y
noncomputable def DB:G2:=λd e S=>match d,e with
 | .int i,.int j=>Z (.int (if j>i then j else i),S)
 |_,_=>Y
noncomputable def DA:G2:=λd e S=>match d,e with
 | .int i,.int j=>Z (.int (if j<i then j else i),S)
 |_,_=>Y
section
variable{X:Cx}
theorem fL:e9 X (.builtin "len") (rN X.K (b1 fv)):=by
 intro ag s σ H xs g Q I r h;obtain⟨x,mu,S,d,l,k,rfl,f,e,c,hc⟩:=Ch h;unfold fv at c;split at c
 ·split at c
  ·rename_i z j;cases c;cases f;exact rW ag s σ H _ g Q I r ⟨_,O,j,hc.now (.int _) e⟩
  ·cases c
 ·obtain⟨⟨b,ys⟩,i,c⟩:=oM1.mp c;cases c;obtain⟨a,vs,rfl,q,t⟩:=d7 f e i;refine rX ag s σ H _ g Q I r ⟨a,vs,O,?_,?_⟩
  ·cases b
   ·exact .inr q
   ·exact .inl q
  ·rw[<- t.length];exact hc.now (.int _) e
theorem DY{K:Fg1}{H:Hp}{mu:List dF}{ds:List D}{vs:List V}{i:Int}{d:D}(t:d4 K H mu ds vs)(h:vE ds i=Z d):∃v,vE vs i=Z v/\eK K H mu d v:=by
 unfold vE at h ⊢;rw[<- t.length];obtain⟨j,c,h⟩:=oB1.mp h;obtain⟨v,b,a⟩:=t.get h;exact⟨v,by rw[c];exact b,a⟩
theorem JN:Ex X (r2 X.K (b2 BP)):=by
 intro value c ag s σ H x y v u Q I o k h g;obtain⟨mu,S,d,e,r,B,p,r2,j,f,hc⟩:=pE h;cases e with
 |int i=>
  obtain⟨⟨b,ys⟩,w,f⟩:=oB1.mp f;obtain⟨z,A,f⟩:=oM1.mp f;cases f;cases r2;obtain⟨a,vs,rfl,q,t⟩:=d7 p j w;obtain⟨n,l,m⟩:=DY t A;cases b
  ·exact GM value c ag s σ H _ _ v u Q I o k ⟨a,vs,i,n,O,O,q,l,hc.now m j⟩ g
  ·exact Dn value c ag s σ H _ _ v u Q I o k ⟨a,vs,i,n,O,O,q,l,hc.now m j⟩ g
 |_=>cases f
theorem fC:e9 X (.type "tuple") (rN X.K (b1 gTup)):=by
 intro ag s σ H xs j Q I r h;obtain⟨x,mu,S,d,m,k,rfl,g,c,e,hc⟩:=Ch h;obtain⟨⟨b,ys⟩,i,e⟩:=oM1.mp e;cases e;obtain⟨a,vs,rfl,q,t⟩:=d7 g c i;refine pd ag s σ H _ j Q I r ⟨a,vs,O,?_⟩;cases b
 ·exact .inr ⟨q,hc.now (.tup q t) c⟩
 ·exact .inl ⟨q,λl f=>hc _ _ mu (Ext.fresh f) (.tup (j6.of d9) (t.ext (Ext.fresh f))) (c.fresh f)⟩
theorem G4:e9 X (.type "list") (rN X.K (b1 DD)):=by
 intro ag s σ H xs j Q I r h;obtain⟨x,mu,S,d,m,k,rfl,g,c,e,hc⟩:=Ch h;obtain⟨⟨b,ys⟩,i,e⟩:=oM1.mp e;cases e;obtain⟨a,vs,rfl,q,t⟩:=d7 g c i;refine rV ag s σ H _ j Q I r ⟨a,vs,O,?_,λl f=>hc _ _ (mu++[l]) (Ext.new_ f) (.ref (fS c.len l)) (c.newL t f)⟩;cases b
 ·exact .inr q
 ·exact .inl q
theorem HV:vL X (rU X.K (b3 ke)):=by
 intro ag s σ H o i v l g u Q I r A x h;obtain⟨mu,S,ds,d,E,m,f,a,hc⟩:=h;cases m with
 |cons z p=>cases p with
  |cons w y=>cases y with
   |cons C B=>
    cases B;rename_i D G F;dsimp only[b3]at a;unfold ke at a;split at a
    ·rename_i n k;split at a
     ·rename_i xs e;obtain⟨j,q,a⟩:=oM1.mp a;cases a;cases z with
      |ref c=>
       cases w;obtain⟨vs,b,t⟩:=f.lst e c;refine zu ag s σ H _ _ v l g u Q I r A x ⟨_,vs,k,j,O,O,b,by rw[<- t.length];exact q,?_⟩;exact hc _ mu (Ext.put b trivial (gM1 c)) (f.putL (t.set C j) c b)
     ·cases a
    ·cases a
theorem D1{K:Fg1}{H:Hp}{mu:List dF}:∀{ds:List D} {vs:List V} {a:List dD} {b:Bool},d4 K H mu ds vs->ei vs a->BA ds=Z b -> ∃bs:List Bool,a=bs.map Value.bool/\b=bs.all id:=by
 intro ds
 induction ds with
 |nil=>intro vs a b r v h;cases r;cases v;cases h;exact⟨[],O,O⟩
 |cons d ds ih=>
  intro vs a b r v h;cases r with
  |cons f t=>
   cases v with
   |cons r j=>
    cases f
    case bl k=>
     obtain⟨c,e,h⟩:=oM1.mp h;obtain⟨bs,g,i⟩:=ih t j e;cases r;exact⟨k::bs,by rw[g];rfl,by rw[<- h,i];rfl⟩
    all_goals cases h
theorem pG(bs:List Bool):(af bs.length).all (λi=>bs.getD i M)=bs.all id:=by
 rw[bQ,bC,bC];constructor
 ·intro h b c;obtain⟨i,hi,rfl⟩:=List.mem_iff_getElem.mp c;have:=h i (aB.mpr hi);simpa[bK,hi]using this
 ·intro h i hi;have a:=aB.mp hi;have:=h _ (bS a);simpa[bK,a]using this
theorem uD{s:dE}{b:Bool}{a:dF}{bs:List Bool}(hc:X.A.handled=Y)(g:SCo b s.heap a (bs.map Value.bool).toArray){Q:dD->dE->Prop}(all:∀h' tk,(∀c o,s.heap.get? c=Z o->h'.get? c=Z o)->Q (.bool (bs.all id)) {s with heap:=h',toks:=tk}):dN (model X.prog X.w) X.A (call (.builtin "all") [.ref a]) Q X.xe s:=by
 refine call_all_walk (nF g ?_);have j:a<s.heap.objs.size:=by cases b<;>(obtain⟨o,e,_⟩:=g;exact hL1 e)
 have ne:a≠s.heap.objs.size:=nN1 j;have l:TruthOf X.prog X.w X.A.in1 (λi v=>(bs.map Value.bool).toArray[i]?=Z v) (λi=>bs.getD i M):=λi v s' q p n h=>by
  have d:(bs.map Value.bool)[i]?=Z v:=by simpa using n
  rw[gP1]at d;obtain⟨k,m,rfl⟩:=oM1.mp d;dsimp only at h;rw[bK,m]at h;exact wpAny_truthy_bool h
 have keep:∀(h':dQ),(∀c o,c∉[s.heap.objs.size]->(s.heap.push (iz b a)).get? c=Z o->h'.get? c=Z o) -> ∀c o,s.heap.get? c=Z o->h'.get? c=Z o:=λh' f c o e=>
  f c o (by simpa using nN1 (hL1 e)) (hP1 _ e)
 have hi:(s.heap.push (iz b a)).get? s.heap.objs.size=Z (iz b a):=hS1 _ (by cases b<;>rfl);cases b with
 |true=>
  refine⟨s.heap.objs.size,_,_,_,_,_,_,O,Walks.list (A:=X.A.in1) hc s.heap.objs.size a ne (bs.map Value.bool).toArray,⟨⟨_,hi,O,O⟩,SCo.to (b:=M) g λo e=>hP1 _ e⟩,l,λh' tk f=>?_⟩;have e:(bs.map Value.bool).toArray.size=bs.length:=by simp
  rw[e,pG];exact all h' tk (keep h' f)
 |false=>
  refine⟨s.heap.objs.size,_,_,_,_,_,_,O,Walks.tuple (A:=X.A.in1) hc s.heap.objs.size a ne (bs.map Value.bool).toArray,⟨⟨_,hi,O,O⟩,SCo.to (b:=J) g λo e=>hP1 _ e⟩,l,λh' tk f=>?_⟩;have e:(bs.map Value.bool).toArray.size=bs.length:=by simp
  rw[e,pG];exact all h' tk (keep h' f)
theorem xf(hc:X.calm=M):e9 X (.builtin "all") (rN X.K (b1 vo)):=by
 intro ag s σ H xs y Q I r h;obtain⟨x,mu,S,d,v,w,rfl,g,f,c,e⟩:=Ch h;obtain⟨⟨b,ys⟩,i,c⟩:=oB1.mp c;obtain⟨k,l,c⟩:=oM1.mp c;cases c;obtain⟨a,vs,rfl,q,t⟩:=d7 g f i;obtain⟨u,rfl,n⟩:=hA r;cases n;obtain⟨j,m,o,_⟩:=fr I q;obtain⟨bs,rfl,rfl⟩:=D1 t m l;exact uD (I.ok.hd hc) o λh' tk p=>⟨.bl _,H,I.kept p,O,e.now (.bl _) f⟩
theorem xb:e9 X (.type "int") (rN X.K (b1 oZ)):=by
 intro ag s σ H xs f Q I r h;obtain⟨x,mu,S,d,j,g,rfl,c,e,a,hc⟩:=Ch h;cases d with
 |int i=>cases a;cases c;exact ql ag s σ H _ f Q I r (.inl ⟨i,O,hc.now (.int _) e⟩)
 |bl b=>cases a;cases c;exact ql ag s σ H _ f Q I r (.inr ⟨b,O,hc.now (.int _) e⟩)
 |_=>cases a
theorem Jb(hc:X.calm=M):e9 X (.builtin "max") (rN X.K (b2 DB)):=by
 intro ag s σ H xs g Q I r h;obtain⟨x,y,mu,S,d,e,j,i,rfl,c,r2,f,a,b⟩:=zx h;unfold DB at a;split at a
 ·cases a;cases c;cases r2;exact yK hc ag s σ H _ g Q I r ⟨_,_,O,b.now (.int _) f⟩
 ·cases a
theorem Ja(hc:X.calm=M):e9 X (.builtin "min") (rN X.K (b2 DA)):=by
 intro ag s σ H xs g Q I r h;obtain⟨x,y,mu,S,d,e,j,i,rfl,c,r2,f,a,b⟩:=zx h;unfold DA at a;split at a
 ·cases a;cases c;cases r2;exact yJ hc ag s σ H _ g Q I r ⟨_,_,O,b.now (.int _) f⟩
 ·cases a
end
open PySem.SeqAt
open PySem.AutoSeq1 (wpAny_loadPart')
open PySem.MeetsSeq PySem.MeetsSeq2 PySem.MeetsSeq3
def BH(A:dH)(s:dE)(y x:dD)(b:Bool):Prop:=∀(prog:dG) (w:dI) (E:dD->dE->Prop) (Q:dD->dE->Prop),Q (.bool b) s->dN (model prog w) A (richCompare .Lt y x) Q E s
inductive uj (A:dH)(s:dE):List dD->List dD->Bool->Prop
 |nn:uj A s [] [] false
 |nc (y:dD) (ys:List dD):uj A s [] (y::ys) true
 |cn (x:dD) (xs:List dD):uj A s (x::xs) [] false
 |eq {x y:dD} {xs ys:List dD} {k:Bool} (e:EqAt A.in1 s x y true) (t:uj A s xs ys k):uj A s (x::xs) (y::ys) k
 |lt {x y:dD} {xs ys:List dD} {k:Bool} (e:EqAt A.in1 s x y false) (t:BH A.in1 s x y k):uj A s (x::xs) (y::ys) k
theorem EJ(l b:dF)(items items2:Array dD)(n z:Nat)(dd m:Option dF)(sl q:Array (Option dD))(c:Bool):
  Meets (Builtin.«tuple.__lt__» ⟨[.ref l,.ref b],[]⟩) (fun A R s=>s.heap.get? l=some {cls:=.type "tuple",dict:=dd,data:=.seq items n,slots:=sl}/\s.heap.get? b=some {cls:=.type "tuple",dict:=m,data:=.seq items2 z,slots:=q} /\
    uj A s items.toList items2.toList c/\R (.ok (.ret (.bool c))) s):=
 .of_wp λprog w A R s h=>by
  obtain⟨u,g,d,tk,v⟩:=s;obtain⟨E,B,F,h⟩:=h;have G:=AutoSeq1.sub_tuple_tuple
  wp_walk using wpAny_loadPart' E,wpAny_loadPart' B,wpAny_forIn_list _ (λrest b s'=>b.1=Y/\s'=⟨u,g,d,tk,v⟩ /\ ∃vs ws:List dD,rest=vs.zip ws/\uj A ⟨u,g,d,tk,v⟩ vs ws c/\vs.length+items2.size=ws.length+items.size) _
  case turn=>
   rintro⟨y,x⟩ rest b s' ⟨k,rfl,vs,ws,f,o,a⟩;cases o with
   |nn=>cases f
   |nc _ _=>cases f
   |cn _ _=>cases f
   |eq e t=>
    rw[bT]at f;injection f with j i;injection j with r p;subst r p
    simp only[lC1]at a;refine wB1 (e prog w _ _ ?_)
    wp_walk
    exact⟨O,O,_,_,i,t,by lia⟩
   |lt e t=>
    rw[bT]at f;injection f with j i;injection j with r p;subst r p
    refine wB1 (e prog w _ _ ?_);have D:=t prog w
    wp_walk using D
    exact⟨_,O,by simpa using h⟩
  case fin=>
   rintro⟨b1,b2⟩ s' ⟨k,rfl,vs,ws,f,o,a⟩;simp only at k;subst k;have C:c=decide (items.size<items2.size):=by
    cases o with
    |nn=>simp only[bf]at a;exact(ai (by lia)).symm
    |nc _ _=>simp only[bf,lC1]at a;exact(ah (by lia)).symm
    |cn _ _=>simp only[bf,lC1]at a;exact(ai (by lia)).symm
    |eq _ _=>rw[bT]at f;cases f
    |lt _ _=>rw[bT]at f;cases f
   rw[C]at h
   wp_walk
   exact⟨_,O,by simpa[Builtin.Tuple.tupleCompareSizes]using h⟩
  case h=>exact⟨O,O,items.toList,items2.toList,O,F,by simp;lia⟩
theorem AC(l b:dF)(items items2:Array dD)(n C:Nat)(dd r:Option dF)(sl z:Array (Option dD))(c:Bool)(k:Nat):
  ∀i:Nat,items.size-i=k->i<=items.size->i<=items2.size->Meets (Builtin.«list.__eq__.loop» ⟨[.ref l,.ref b,rawInt i,rawInt 0],[]⟩)
   (λA R s=>s.heap.get? l=Z {cls:=.type "list",dict:=dd,data:=.seq items n,slots:=sl}/\s.heap.get? b=Z {cls:=.type "list",dict:=r,data:=.seq items2 C,slots:=z} /\
    uj A s (items.toList.drop i) (items2.toList.drop i) c/\R (.ok (.ret (.bool c))) s):=by
 induction k with
 |zero=>
  intro i E x v prog w A R s h;obtain⟨D,g,d,tk,H⟩:=s;obtain⟨j,f,a,h⟩:=h
  wp_walk using wpAny_loadPart' j,wpAny_loadPart' f
  have o:items[((i:Nat):Int).toNat]?=Y:=by simp;lia
  have u:items.toList.drop i=[]:=by simp;lia
  rw[u]at a;rw[o]
  wp_walk using wpAny_loadPart' j,wpAny_loadPart' f
  have F:c=decide (items.size<items2.size):=by
   cases h2:items2.toList.drop i with
   |nil=>
    rw[h2]at a;cases a;have:=congrArg List.length h2;simp at this;exact(ai (by lia)).symm
   |cons y ys=>
    rw[h2]at a;cases a;have:=congrArg List.length h2;simp at this;exact(ah (by lia)).symm
  show R (.ok (.ret (.bool (decide (items.size<items2.size))))) _;rw[<- F];exact h
 |succ k ih=>
  intro i E x v prog w A R s h;obtain⟨D,g,d,tk,H⟩:=s;obtain⟨j,f,a,h⟩:=h;have p:i<items.size:=by lia
  have u:items.toList.drop i=items[i]::items.toList.drop (i+1):=by simp[bU,p]
  have o:items[((i:Nat):Int).toNat]?=Z items[i]:=by simp[p]
  have hc:((i:Int)+1)=((i+1:Nat):Int):=by push_cast;rfl
  rw[u]at a;rcases bV i items2.size with m|I
  ·have B:items2.toList.drop i=items2[i]::items2.toList.drop (i+1):=by simp[bU,m]
   have q:items2[((i:Nat):Int).toNat]?=Z items2[i]:=by simp[m]
   rw[B]at a
   wp_walk using wpAny_loadPart' j,wpAny_loadPart' f
   rw[o,q];cases a with
   |eq e t=>
    refine wB1 (e prog w _ _ ?_)
    wp_walk
    rw[hc];exact⟨plainId_quiet plain_eq_loop _,wD1 entry_eq_loop (by rw[Around.under_plainId plain_eq_loop _];exact ih (i+1) (by lia) (by lia) (by lia) prog w A R _ ⟨j,f,t,h⟩)⟩
   |lt e t=>
    refine wB1 (e prog w _ _ ?_);have G:=t prog w
    wp_walk using wpAny_loadPart' j,wpAny_loadPart' f
    rw[o,q]
    wp_walk using G
    simpa using h
  ·have q:items2[((i:Nat):Int).toNat]?=Y:=by simp;lia
   have B:items2.toList.drop i=[]:=by simp;lia
   rw[B]at a;cases a
   wp_walk using wpAny_loadPart' j,wpAny_loadPart' f
   rw[o,q]
   wp_walk using wpAny_loadPart' j,wpAny_loadPart' f
   show R (.ok (.ret (.bool (decide (items.size<items2.size))))) _;rw[ai (by lia)];exact h
theorem Gz(l b:dF)(items items2:Array dD)(n f:Nat)(dd a:Option dF)(sl e:Array (Option dD))(c:Bool):
  Meets (Builtin.«list.__lt__» ⟨[.ref l,.ref b],[]⟩) (fun A R s=>s.heap.get? l=some {cls:=.type "list",dict:=dd,data:=.seq items n,slots:=sl}/\s.heap.get? b=some {cls:=.type "list",dict:=a,data:=.seq items2 f,slots:=e} /\
    uj A s items.toList items2.toList c/\R (.ok (.ret (.bool c))) s):=by
 intro prog w A R s h;obtain⟨o,g,d,tk,m⟩:=s;obtain⟨j,i,k,h⟩:=h;have p:=AutoSeq1.sub_list_list
 wp_walk using wpAny_loadPart' j,wpAny_loadPart' i
 exact⟨plainId_quiet plain_eq_loop _,wD1 entry_eq_loop (by rw[Around.under_plainId plain_eq_loop _];exact AC l b items items2 n f dd a sl e c _ 0 O (bi _) (bi _) prog w A R _ ⟨j,i,by simpa using k,h⟩)⟩
theorem E1{A:dH}{s:dE}{k:Bool}{l b:dF}{xs ys:Array dD}{c:Bool}(z:SCo k s.heap l xs)(y:SCo k s.heap b ys)(B:A.units<cLine)(h:uj A s xs.toList ys.toList c):BH A s (.ref l) (.ref b) c:=λprog w E Q q=>by
 cases k
 ·obtain⟨⟨t,u,m,v⟩,j,hc,n,o⟩:=id z;obtain⟨⟨p,f,i,g⟩,d,a,r,e⟩:=id y;simp only at hc o a e;subst hc o a e;exact richCompare_meets_room (op:=.Lt) ⟨_,j,O⟩ ⟨_,d,O⟩ PySem.F.slot_tuple_lt PySem.F.entry_tuple_lt (PySem.F.args_tuple_lt_2 _ _) (EJ l b xs ys n r u f v g c) ⟨j,d,h,show Value.bool c≠Value.notImplemented/\Q (.bool c) s from⟨(λx=>nomatch x),q⟩⟩ B
 ·obtain⟨⟨t,u,m,v⟩,j,hc,n,o⟩:=id z;obtain⟨⟨p,f,i,g⟩,d,a,r,e⟩:=id y;simp only at hc o a e;subst hc o a e;exact richCompare_meets_room (op:=.Lt) ⟨_,j,O⟩ ⟨_,d,O⟩ PySem.F.slot_list_lt PySem.F.entry_list_lt (PySem.F.args_list_lt_2 _ _) (Gz l b xs ys n r u f v g c) ⟨j,d,h,show Value.bool c≠Value.notImplemented/\Q (.bool c) s from⟨(λx=>nomatch x),q⟩⟩ B
noncomputable def oX(f g:D->D->Option Bool):List D->List D->Option Bool
 |[],[]=>Z J
 |[],_::_=>Z M
 |_::_,[]=>Z J
 |x::xs,y::ys=>(f x y).bind λb=>if b=M then oX f g xs ys else g x y
noncomputable def JC:D->D->Option Bool
 | .int i,.int j=>Z (decide (i<j))
 | .str x,.str y=>Z (decide (x.cps.toList<y.cps.toList))
 |_,_=>Y
noncomputable def kb(S:Sto):Nat->D->D->Option Bool
 |0,_,_=>Y
 |n+1,d,e=>match JC d e with
  |some b=>Z b
  |none=>match d5 S d,d5 S e with
   |some p,Z q=>if p.1=q.1 then oX (fW S n) (kb S n) p.2 q.2 else Y
   |_,_=>Y
noncomputable def wT:G2:=λd e S=>(kb S eO d e).map λb=>(.bl b,S)
section
variable{X:Cx}{ag:List (dF×Obj)}{σ:L2.St}{H:Hp}{s:dE}{mu:List dF}{S:Sto}
theorem AB(I:Inv X ag σ H s)(hs:Sim X.K H mu S){n:Nat}{A:dH}(r:A.units+1+n<cLine)(ih:∀ {d e:D} {v w:V} {u z:dD} {b:Bool},eK X.K H mu d v->eK X.K H mu e w->d6 v u->d6 w z->kb S n d e=some b->BH A.in1 s u z b):
  ∀{xs ys:List D} {vs ws:List V} {f zs:List dD} {b:Bool},d4 X.K H mu xs vs->d4 X.K H mu ys ws->ei vs f->ei ws zs->oX (fW S n) (kb S n) xs ys=Z b->uj A s f zs b
 :=by
 intro xs
 induction xs with
 |nil=>
  intro ys vs ws f zs b a r2 g c h;cases a;cases g;cases r2 with
  |nil=>cases c;cases h;exact .nn
  |cons _ _=>cases c;cases h;exact .nc _ _
 |cons x xs q=>
  intro ys vs ws f zs b a r2 g c h;cases a with
  |cons a o=>
   cases g with
   |cons i l=>
    cases r2 with
    |nil=>cases c;cases h;exact .cn _ _
    |cons r2 p=>
     cases c with
     |cons j p2=>
      rw[oX]at h;obtain⟨k,m,h⟩:=oB1.mp h;have eq:=(l5 I hs n (A:=A.in1) r a r2 i j m).1;cases k with
      |true=>exact .eq eq (q o p l p2 h)
      |false=>exact .lt eq (ih a r2 i j h)
theorem va(I:Inv X ag σ H s)(hs:Sim X.K H mu S):∀(n:Nat) {A:dH} {d e:D} {v w:V} {u z:dD} {b:Bool},A.units+n<cLine->eK X.K H mu d v->eK X.K H mu e w->d6 v u->d6 w z->kb S n d e=Z b->BH A s u z b
 |0,_,_,_,_,_,_,_,_,_,_,_,_,_,h=>by cases h
 |n + 1,A,d,e,v,w,u,z,b,W,m,r,o,g,h=>by
  rw[kb]at h;split at h
  ·rename_i k c;cases h;unfold JC at c;split at c
   ·cases c;cases m;cases r;obtain⟨t,rfl⟩:=o;obtain⟨f,rfl⟩:=g;exact λprog w E Q q=>(PyProof.Rows.lt_int q:dN (model prog w) A (compareOp .Lt (.int _ t) (.int _ f)) Q E s)
   ·cases c;cases m;cases r;obtain⟨t,rfl⟩:=o;obtain⟨f,rfl⟩:=g;exact λprog w E Q q=>(PyProof.Rows.lt_str q:dN (model prog w) A (compareOp .Lt (.str _ t) (.str _ f)) Q E s)
   ·cases c
  ·split at h
   ·rename_i p q am U;split at h
    ·rename_i B;obtain⟨ao,xs⟩:=p;obtain⟨qb,ys⟩:=q;have i:ao=qb:=B;subst i;obtain⟨a,vs,rfl,T,y⟩:=d7 m hs am;obtain⟨a2,L,rfl,F,au⟩:=d7 r hs U;cases o;cases g;obtain⟨R,N,G,_⟩:=fr I T;obtain⟨x,j,l,_⟩:=fr I F;refine E1 G l (by lia) ?_;have:=AB I hs (A:=A) (n:=n) (by lia) (λC r2 P K h=>va I hs n (A:=A.in1) (by show A.units+1+n<cLine;lia) C r2 P K h) y au N j h;simpa using this
    ·cases h
   ·cases h
theorem nY(l:X.A.units+64<cLine):fX X (compareOp .Lt) (r2 X.K (b2 wT)):=by
 intro ag s σ H x y u w Q I j g h;obtain⟨mu,S,d,e,r,k,f,r2,c,a,hc⟩:=pE h;obtain⟨b,i,a⟩:=oM1.mp a;cases a;exact va I c eO (by show _+60<cLine;lia) f r2 j g i X.prog X.w X.xe _ ⟨.bl b,H,I,O,hc.now (.bl b) c⟩
end
inductive Ty where
 |int|bool|str|tuple|list|dict
 deriving DecidableEq
noncomputable def Ty.nm:Ty->String
 | .int=>"int" | .bool=>"bool" | .str=>"str" | .tuple=>"tuple" | .list=>"list" | .dict=>"dict"
noncomputable def vc (S:Sto)(T:Ty):D->Option Bool
 | .non=>some false
 | .bl _=>some (decide (T = .bool)||decide (T = .int))
 | .int _=>some (decide (T = .int))
 | .str _=>some (decide (T = .str))
 | .tup _=>some (decide (T = .tuple))
 | .rol _=>some (decide (T = .list))
 | .ref n=>match S[n]? with
  |some (.lst _)=>some (decide (T = .list))
  |some (.dct _)=>some (decide (T = .dict))
  |some (.dcT _)=>some (decide (T = .dict))
  |_=>none
 | .fn _=>none
noncomputable def ka(T:Ty)(m:FE):FE:=λr S=>(m r S).bind λp=>(vc p.2 T p.1).map λb=>(.bl b,p.2)
section
variable{X:Cx}{ag:List (dF×Obj)}{σ:L2.St}{H:Hp}{s:dE}{mu:List dF}{S:Sto}{K:Fg1}
theorem Di(T:Ty):PySem.W.kitOne K (.type "NoneType") (.type T.nm)=Z J:=by cases T<;>rfl
theorem GG(T:Ty):PySem.W.kitOne K (.type "bool") (.type T.nm)=Z (decide (T = .bool)||decide (T = .int)):=by cases T<;>rfl
theorem Dk(T:Ty):PySem.W.kitOne K (.type "int") (.type T.nm)=Z (decide (T = .int)):=by cases T<;>rfl
theorem Dh(T:Ty):PySem.W.kitOne K (.type "str") (.type T.nm)=Z (decide (T = .str)):=by cases T<;>rfl
theorem Dg(T:Ty):PySem.W.kitOne K (.type "tuple") (.type T.nm)=Z (decide (T = .tuple)):=by cases T<;>rfl
theorem Dj(T:Ty):PySem.W.kitOne K (.type "list") (.type T.nm)=Z (decide (T = .list)):=by cases T<;>rfl
theorem wI(T:Ty):PySem.W.kitOne K (.type "dict") (.type T.nm)=Z (decide (T = .dict)):=by cases T<;>rfl
theorem Dq{T:Ty}{d:D}{v:V}{u:dD}{b:Bool}{Q:dD->dE->Prop}{E:dD->dE->Prop}(I:Inv X ag σ H s)(hs:Sim X.K H mu S)(r:eK X.K H mu d v)(f:d6 v u)(h:vc S T d=some b)(q:∀ tk,Q (.bool b) {s with toks:=tk}):
  dN (model X.prog X.w) X.A (call (.builtin "isinstance") [u,.type T.nm]) Q E s:=by
 have g:∀{k:Bool} {a:dF} {vs:List V},vI X.K k H a vs->b=(match k with|true=>decide (T = .list)|false=>decide (T = .tuple))->dN (model X.prog X.w) X.A (call (.builtin "isinstance") [.ref a,.type T.nm]) Q E s:=λ{k a vs} j p=>by
  obtain⟨y,C,w,_⟩:=fr I j;cases k
  ·obtain⟨o,e,c,_⟩:=w;subst p;exact PySem.W.kia_one PySem.W.kitx_tuple I.kIn ⟨o,e,c⟩ (Dg T) (λz=>nomatch z) q
  ·obtain⟨o,e,c,_⟩:=w;subst p;exact PySem.W.kia_one PySem.W.kitx_list I.kIn ⟨o,e,c⟩ (Dj T) (λz=>nomatch z) q
 cases d with
 |non=>cases h;cases r;exact iA I f .non (Di T) q
 |bl k=>cases h;cases r;exact iA I f (.bl k) (GG T) q
 |int i=>cases h;cases r;exact iA I f (.int i) (Dk T) q
 |str x=>cases h;cases r;exact iA I f (.str x) (Dh T) q
 |tup xs=>
  cases h;obtain⟨a,vs,rfl,j,t⟩:=d7 (S:=S) r hs O;cases f;exact g j O
 |fn x=>cases h
 |rol xs=>
  cases h;obtain⟨a,vs,rfl,j,t⟩:=d7 (S:=S) r hs O;cases f;exact g j O
 |ref n=>
  rw[vc]at h;split at h
  ·rename_i xs e;cases h;obtain⟨a,vs,rfl,j,t⟩:=d7 (S:=S) r hs (by rw[d5,e]);cases f;exact g j O
  ·rename_i ks e;cases h;cases r with
   |ref m=>
    obtain⟨ws,l,_⟩:=hs.dct e m;exact iA I f (.dK l) (wI T) q
  ·rename_i ks e;cases h;cases r with
   | @ref _ a m=>
    cases(show u=Value.ref a from f);obtain⟨ws,l,_⟩:=hs.dcT e m;obtain⟨⟨_,_,o,_,_,A,B,_⟩,_⟩:=(show eJ X.prog X.w H s.heap a (.ext (gh a ws))from I.hok a _ l);exact PySem.W.kia_one PySem.W.kitx_dict I.kIn ⟨o,A,B.1⟩ (wI T) (λz=>nomatch z) q
  ·cases h
theorem Bn(T:Ty):e9 X (.builtin "isinstance") (λxs H Q=>∃x mu S d b,xs=[x,.ty T.nm]/\eK X.K H mu d x/\Sim X.K H mu S/\vc S T d=Z b/\Q (.bl b) H):=by
 intro ag s σ H xs i Q I r h;obtain⟨x,mu,S,d,b,rfl,a,e,f,hc⟩:=h;obtain⟨u,g,rfl,c,rt⟩:=y4 r;cases rt;exact Dq I e a c f λtk=>⟨.bl b,H,I.tok tk,O,hc⟩
theorem xZ (T:Ty){e:Expr}{m:FE}{nm:Str}{p p2 pos:Pos}(hg:Gl X "isinstance")(hm:X.mg "isinstance"=none)(hg2:Gl X nm)(hm2:X.mg nm=none)(hv2:bootBuiltins nm=some (.type T.nm))(h:ME X e m)
  (hn:nm≠"__name__":=by decide) (hd:(nm == ("__debug__":Str))=J:=by decide)
  (hs1:dL [e,.Name nm p2] X.env=(J,eval e X.env)::dL [.Name nm p2] X.env:=by rfl) (hs2:dL [.Name nm p2] X.env=(J,eval (.Name nm p2) X.env)::dL [] X.env:=by rfl)
  (hpl:(backTo pos (dL [.Name nm p2] X.env)).any (·.1)=J:=by rfl):ME X (.Call (.Name "isinstance" p) [e,.Name nm p2] [] pos) (ka T m):=
 eV (nU (Bn T) hg hm (by decide+kernel) (jD h (jD (CH (v:=.ty T.nm) hg2 hm2 hv2 O hn hd) nW hs2) hs1) (by decide) (by decide) hs1 hpl) <| by
  rintro σ H Q ⟨r,mu,S,d,n,k,j,hm,hc⟩;obtain⟨⟨a,o⟩,g,hm⟩:=oB1.mp hm;obtain⟨b,i,hm⟩:=oM1.mp hm;cases hm;refine⟨r,mu,S,a,_,k,j,g,λv H1 mu1 l f c=>?_⟩;exact⟨v,mu1,_,a,b,O,f,c,i,hc _ H1 mu1 l (.bl b) c⟩
end
abbrev FO:=Ev->Sto->Option (Option Int×Sto)
noncomputable def K9(K:Fg1)(m:FO):TO:=fun σ H Q=>∃r mu S o S',fD K H mu r σ/\Sim K H mu S/\m r S=Z (o,S') /\ ∀H' mu',Ext mu mu' H H'->Sim K H' mu' S'->Q o H'
abbrev MO(X:Cx)(e:Option Expr)(m:FO):Prop:=PO X e (K9 X.K m)
noncomputable def pO:FO:=λ_ S=>Z (Y,S)
noncomputable def pN(m:FE):FO:=λr S=>(m r S).bind λp=>match p.1 with
 | .int i=>Z (Z i,p.2)
 |_=>Y
noncomputable def yD(xs:List D)(lo hi:Option Int):List D:=(xs.drop (HT.sIx xs.length 0 lo)).take (HT.sIx xs.length xs.length hi-HT.sIx xs.length 0 lo)
section
variable{X:Cx}
theorem CZ:MO X Y pO:=by
 rintro ag s σ H Q I ⟨r,mu,S,o,d,c,b,a,hc⟩;cases a;exact Cy ag s σ H Q I (hc H mu (.refl _ _) b)
theorem CY{e:Expr}{m:FE}(h:ME X e m):MO X (Z e) (pN m):=by
 rintro ag s σ H Q I ⟨r,mu,S,o,l,g,f,a,hc⟩;obtain⟨⟨d,n⟩,c,a⟩:=oB1.mp a;cases d with
 |int i=>
  cases a;refine Cw h ag s σ H Q I ⟨r,mu,S,_,_,g,f,c,λv H1 mu1 j b k=>?_⟩;cases b;exact⟨i,O,hc H1 mu1 j k⟩
 |_=>cases a
theorem w6{K:Fg1}{H:Hp}{mu:List dF}{ds:List D}{vs:List V}(t:d4 K H mu ds vs)(lo hi:Option Int):d4 K H mu (yD ds lo hi) (t0 vs lo hi):=by
 unfold yD t0;rw[<- t.length];exact(t.drop _).take _
noncomputable def HF(ta:TA):TE:=fun σ H Q=>ta σ H λvs H1=>∃j:Int,vs=[.int j] /\ ∀p,H1 p=Y->Q (.ref p) (upd H1 p (.rng 0 j))
theorem xP {a:Expr}{ta:TA}{p pos:Pos}(hg:Gl X "range")(hm:X.mg "range"=Y)(ha:PA X [a] ta)(hs:dL [a] X.env=[(J,eval a X.env)]:=by rfl):PE X (.Call (.Name "range" p) [a] [] pos) (HF ta):=by
 intro ag s σ H Q I h;refine Call_ (kd I hg hm boot_range (PyProof.Rows.callWith_type1 (fj (ha pos ag s σ H _ I h) λk i ⟨vs,H1,c,d,f⟩=>?_) hs O));obtain⟨j,e,q⟩:=f;subst e;cases d with
 |cons r g=>
  cases g;obtain⟨t,rfl⟩:=r;refine call_range_1 ⟨.ref i.heap.objs.size,_,c.laid (λb o e=>hP1 _ e) (nR1 _) (o:=.rng 0 j) ?_,O,q _ (c.hok.fresh (nR1 _))⟩;exact⟨_,_,_,hS1 _ O⟩
noncomputable def mM(i:Int):Nat->List V
 |0=>[]
 |n+1=>.int i::mM (i+1) n
theorem nQ:∀(n:Nat) (i:Int),(mM i n).length=n
 |0,_=>rfl
 |n+1,i=>by rw[mM,lC1,nQ n]
theorem sF:∀(n:Nat) (i:Int) (k:Nat) (v:V),(mM i n)[k]?=Z v->v = .int (i+k)
 |0,i,k,v,h=>by simp[mM]at h
 |n+1,i,0,v,h=>by simp[mM]at h;rw[<- h];simp
 |n+1,i,k+1,v,h=>by
  rw[mM,gC1]at h;rw[sF n (i+1) k v h,show i+1+(k:Int)=i+((k+1:Nat):Int) by push_cast;lia]
theorem sE{K:Fg1}{H:Hp}{mu:List dF}:∀(n:Nat) (i:Int),d4 K H mu (gP i n) (mM i n)
 |0,_=>.nil
 |n+1,i=>.cons (.int i) (sE n (i+1))
theorem vP:∀{xs:List V} {a:List dD},xs.length=a.length->(∀(i:Nat) x u,xs[i]?=Z x->a[i]?=Z u->d6 x u)->ei xs a
 |[],[],_,_=>.nil
 |x::xs,u::a,h,f=>.cons (f 0 x u O O) (vP (by simpa using h) λi y w h1 h2=>f (i+1) y w (by simpa using h1) (by simpa using h2))
 |[],_::_,h,_=>by simp at h
 |_::_,[],h,_=>by simp at h
theorem DU(hc:X.calm=M):e9 X (.type "list") (λxs H Q=>∃p i j,xs=[.ref p]/\H p=Z (.rng i j)/\(-(2^62)<=i/\i<2^62 /\ -(2^62)<=j/\j<2^62)/\(j-i).toNat<=2^20 /\ ∀l,H l=Y->Q (.ref l) (upd H l (.lst (mM i (j-i).toNat)))):=by
 intro ag s σ H xs F Q I r h;obtain⟨p,i,j,rfl,m,⟨h1,h2,o,A⟩,f,q⟩:=h;obtain⟨u,rfl,w⟩:=hA r;cases w;obtain⟨t,u,v,e⟩:=I.hok p _ m;have g:(((j-i).toNat:Nat):Int)=Builtin.Range.rangeSize i j 1:=by rw[rangeSize_one];split<;>lia
 refine call_list_range (n:=(j-i).toNat) (I.ok.hd hc) e (small_one h1 h2 o A) g.symm (aC f (by decide)) λh' tk b y E B hi=>?_;obtain⟨d,c⟩:=hi;have a:ei (mM i (j-i).toNat) b.toList:=vP (by rw[nQ];simpa using d.symm) λk x u D C=>by
  rw[sF _ _ _ _ D];obtain⟨z,rfl⟩:=c k u (by simpa using C);exact⟨z,by rw[Int.mul_one]⟩
 refine⟨.ref s.heap.objs.size,_,I.laid (t':=tk) E (nR1 _) (show eJ X.prog X.w _ h' _ (.lst (mM i (j-i).toNat))from⟨?_,b.toList,y,a,by simpa using B⟩),O,q _ (I.hok.fresh (nR1 _))⟩;rw[nQ];exact aC f (by decide)
noncomputable def vZ(i j:Int):Bool:=decide (-(2^62)<=i)&&decide (i<2^62)&&decide (-(2^62)<=j)&&decide (j<2^62)&&decide ((j-i).toNat<=2^20)
noncomputable def x5(m:FA):FE:=λr S=>(m r S).bind λp=>match p.1 with
 |[.int j]=>if vZ 0 j=M then Z (.ref p.2.length,p.2++[.lst (gP 0 j.toNat)])else Y
 |_=>Y
theorem sG{i j:Int}(h:vZ i j=M):(-(2^62)<=i/\i<2^62 /\ -(2^62)<=j/\j<2^62)/\(j-i).toNat<=2^20:=by
 unfold vZ at h;simp only[bA1,al]at h;obtain⟨⟨⟨⟨h1,h2⟩,c⟩,b⟩,a⟩:=h;exact⟨⟨h1,h2,c,b⟩,a⟩
theorem GA{K:Fg1}{mu:List dF}{H H1:Hp}{S1:Sto}{i j:Int}{Q:VK}{mu1:List dF}(c:Ext mu mu1 H H1)(b:Sim K H1 mu1 S1)(hc:ph K mu H (.ref S1.length) (S1++[.lst (gP i (j-i).toNat)]) Q){p l:dF}(hp:H1 p=none)(a:upd H1 p (.rng i j) l=none):
  Q (.ref l) (upd (upd H1 p (.rng i j)) l (.lst (mM i (j-i).toNat))):=
 hc _ _ (mu1++[l]) ((c.trans (Ext.fresh hp)).trans (Ext.new_ a)) (.ref (fS b.len l)) ((b.fresh hp).newL (sE _ _) a)
theorem xY {a:Expr}{m:FA}{e p2 b c:Pos}(hc:X.calm=true)(hg:Gl X "range")(hm:X.mg "range"=none)(hg2:Gl X "list")(hm2:X.mg "list"=none)(ha:MA X [a] m)(hs:dL [a] X.env=[(false,eval a X.env)]:=by rfl)
  (hs2:dL [.Call (.Name "range" e) [a] [] b] X.env=[(J,eval (.Call (.Name "range" e) [a] [] b) X.env)]:=by rfl):ME X (.Call (.Name "list" p2) [.Call (.Name "range" e) [a] [] b] [] c) (x5 m):=
 eV (lQ (DU hc) hg2 hm2 (by decide+kernel) (jD (xP hg hm ha hs) nW hs2) (by decide) (by decide) hs2) <| by
  rintro σ H Q ⟨r,mu,S,d,u,q,hs,hm,f⟩;obtain⟨⟨ds,w⟩,k,hm⟩:=oB1.mp hm;dsimp only at hm;split at hm
  ·rename_i j;split at hm
   ·rename_i g;cases hm;refine⟨r,mu,S,_,_,q,hs,k,λvs H1 mu1 o i t=>?_⟩;obtain⟨v,rfl,n⟩:=sI i;cases n;refine⟨j,O,λp h=>⟨p,0,j,O,d9,(sG g).1,(sG g).2,λl s=>GA o t (by rw[Int.sub_zero];exact f) h s⟩⟩
   ·cases hm
  ·cases hm
end
noncomputable def lZ:G2:=λo v S=>match o with
 | .ref n=>match S[n]? with
  |some (.lst xs)=>if xs.length<dM then Z (.non,S.set n (.lst (xs++[v])))else Y
  |_=>Y
 |_=>Y
noncomputable def AW:G2:=λo i S=>match o,i with
 | .ref n,.int k=>match S[n]? with
  |some (.lst xs)=>if-(2^63)<=k/\k<2^63 then(yd xs.length k).bind λj=>(xs[j]?).map λy=>(y,S.set n (.lst (xs.eraseIdx j)))else Y
  |_=>Y
 |_,_=>Y
noncomputable def tm (f:FN)(o:FE)(a:FA):FE:=λr S=>(o r S).bind λp=>match p.1 with
 | .ref n=>match p.2[n]? with
  |some (.lst _)=>(a r p.2).bind λq=>f (p.1::q.1) q.2
  |_=>none
 |_=>none
section
variable{X:Cx}
theorem HC:Eu X "list.append" (λx xs H Q=>rN X.K (b2 lZ) (x::xs) H Q):=by
 intro ag s σ H x xs v k Q I o j h;obtain⟨q,y,mu,S,d,e,r,p,g,i,r2,f,a,hc⟩:=zx h;cases g;cases d with
 |ref n=>
  rw[lZ]at a;split at a
  ·rename_i ys l;split at a
   ·rename_i m;cases a;cases i with
    |ref c=>
     obtain⟨vs,b,t⟩:=f.lst l c;refine pQ ag s σ H _ [y] v k Q I o j ⟨_,vs,y,O,O,b,by rw[<- t.length];exact m,?_⟩;exact hc _ _ mu (Ext.put b trivial (gM1 c)) .non (f.putL (t.append (.cons r2 .nil)) c b)
   ·cases a
  ·cases a
 |_=>cases a
theorem HA:Eu X "list.pop" (λx xs H Q=>rN X.K (b2 AW) (x::xs) H Q):=by
 intro ag s σ H x xs v r Q I C o h;obtain⟨E,y,mu,S,d,e,F,D,l,m,r2,i,a,hc⟩:=zx h;cases l;unfold AW at a;split at a
 ·rename_i n k;split at a
  ·rename_i ys A;split at a
   ·rename_i g;obtain⟨j,p,a⟩:=oB1.mp a;obtain⟨z,B,a⟩:=oM1.mp a;cases a;cases m with
    |ref f=>
     cases r2;obtain⟨vs,b,t⟩:=i.lst A f;obtain⟨w,q,c⟩:=t.get B;refine Ag ag s σ H _ [.int k] v r Q I C o ⟨_,vs,k,j,w,O,O,b,g.1,g.2,?_,q,?_⟩
     ·rw[<- t.length];exact(rG p).1
     ·have x:=Ext.put (u:=.lst (vs.eraseIdx j)) b trivial (gM1 f);exact hc _ _ mu x (c.ext x) (i.putL (t.eraseIdx j) f b)
   ·cases a
  ·cases a
 ·cases a
theorem Ar {o e:Expr}{es:List Expr}{m:FE}{a:FA}{f:FN}{name:Str}{apos cpos:Pos}{id:String}(slot:Slot "list" name id)(hty:typeOf (.builtin id)=pure (.type "method_descriptor"))(hm:Eu X id (fun x xs H Q=>rN X.K f (x::xs) H Q))(ho:ME X o m)(ha:MA X (e::es) a)
  (hbase:attributeBase o name X.env (eval o X.env)=eval o X.env:=by rfl)
  (hfew:((backTo cpos (dL (e::es) X.env)).all (λx=> !x.1)&&(backToKw cpos (keywordEach [] X.env)).all (λx=>x.1.isSome)&&decide ((e::es).length+([]:List Keyword).length+(if([]:List Keyword).isEmpty then 0 else 1)<30))=M:=by rfl)
  (hline:(apos.endLine == cpos.line)=M:=by rfl) (hs:dL (e::es) X.env=(J,eval e X.env)::dL es X.env:=by rfl) (hplain:(backTo cpos (dL es X.env)).any (·.1)=J:=by rfl):
  ME X (.Call (.Attribute o name apos) (e::es) [] cpos) (tm f m a):=
 eV (Ig PySem.F.plainAttrs_list slot hty hm ho ha hbase hfew hline hs hplain) <| by
  rintro σ H Q ⟨r,mu,S,d,w,p,hs,hm,hc⟩;obtain⟨⟨h,i⟩,B,hm⟩:=oB1.mp hm;refine⟨r,mu,S,h,i,p,hs,B,λv H1 mu1 l j q=>?_⟩;cases h with
  |ref n=>
   dsimp only at hm;split at hm
   ·rename_i xs u;obtain⟨⟨ds,g⟩,y,hm⟩:=oB1.mp hm;refine⟨?_,r,mu1,i,ds,g,p.ext l,q,y,λvs H2 b k r2 z=>?_⟩
    ·cases j with
     |ref E=>
      obtain⟨vs,A,t⟩:=q.lst u E;exact .inl ⟨O,vs,mX.of A⟩
    ·exact⟨b,g,.ref n::ds,d,w,.cons (j.ext k) r2,z,hm,λC s c D=>hc C s c ((l.trans k).trans D)⟩
   ·cases hm
  |_=>cases hm
end
theorem wb{X:Cx}(hc:X.calm=true){elt tg iter:Expr}{ifs:List Expr}{rest:List Comprehension}{scope:dU}{pos l R:Pos}{y:Str}{i:Nat}{T:List Str}{keep:List Nat}{w:List (Str×dF)}{wi:TI}{g:TG}{ti:TT}{tb:dF->TS}{emit:dD->Env->Sem Unit}(wq:swapsWith (.ListComp elt (⟨tg,iter,ifs,0⟩::rest) scope pos) (some (.Name y R)) l.line X.env=pure true)(eq:∀it A k,compTurn (.ListComp elt (⟨tg,iter,ifs,0⟩::rest) scope pos) 0 it A k=kx iter.pos tg ifs it k (emit A k) (.compLoop (.ListComp elt (⟨tg,iter,ifs,0⟩::rest) scope pos) 0 it A k))(C:Hn X scope T keep)(ao:i0 X.env.cells scope.names []=some w)(hi:PI X tg iter wi)(hb:∀s H d p,PG (cxC X scope w T keep s H d) tg g/\oP (cxC X scope w T keep s H d) ifs ti/\PU (cxC X scope w T keep s H d) (emit (.ref p) (cxC X scope w T keep s H d).env) (tb p))(hN:X.N.Nodup)(hy:X.N[i]?=some y)(hx:yO X.env.scope y)(hf:X.fn y=true\/X.env.scope.names.lookup y=some .local)(hs:∀x,foldedSetIterable iter X.env x=pure x:=by intro _;rfl):
  PS X (.Assign [.Name y R] (.ListComp elt (⟨tg,iter,ifs,0⟩::rest) scope pos) l) (zn (vW T.length keep wi g ti tb) (wS i)):=by
 intro ag s σ H D I h;rw[exec_Assign_Name_used _ _ _ _ wq];refine wB1 (wpAny_standAt (wB1 ?_));show dN _ X.A (do let _<-comprehension (.ListComp elt (⟨tg,iter,ifs,0⟩::rest) scope pos) scope X.env _ (newList []) J (eval iter X.env) (Z (assign (.Name y R) X.env))) _ _ s;refine wB1 (wpAny_mono (wpAny_comprehension_free (use:=Z (assign (.Name y R) X.env)) (Q:=λ_ s'=>SP X ag D .next s') O hs (Bi ao) C.kind C.names ?_) (λ_ s' hq=>wP1 (wP1 hq)) λ_ _ e=>e);refine fj (hi ag s σ H _ I h) λv s1 h1=>fj h1 λitv a h2=>?_;obtain⟨it,d,tn,am,H2,rfl,I2,TT,L,f2,q2⟩:=h2;refine wO1 ?_;have t:Inv X ag σ (upd H2 a.heap.objs.size (.lst [])) {a with heap:=a.heap.push {cls:=.type "list",data:=.seq ([]:List dD).toArray}}:=I2.lnew (t':=a.toks) .nil (bi _);have old:∀b∈d,∃o,a.heap.get? b=Z o:=λb hb=>by
  obtain⟨o,e,_⟩:=TT.obj 0 a.heap L b hb;exact⟨o,e⟩
 have V:∀b∈d,b≠a.heap.objs.size:=λb hb z=>by
  obtain⟨o,e⟩:=old b hb;have:=hL1 e;rw[z]at this;exact az _ this
 have P:∀b∈d,jQ X ag (upd H2 a.heap.objs.size (.lst [])) b:=λb hb=>⟨by rw[dZ (V b hb)];exact(f2 b hb).1,(f2 b hb).2⟩;have o3:∀b∈d,∃o,({a with heap:=a.heap.push {cls:=.type "list",data:=.seq ([]:List dD).toArray}}:dE).heap.get? b=Z o:=λb hb=>by
  obtain⟨o,e⟩:=old b hb;exact⟨o,hP1 _ e⟩
 have N:=tG t C ao P o3;obtain⟨hg,W,he⟩:=hb {a with heap:=a.heap.push {cls:=.type "list",data:=.seq ([]:List dD).toArray}} (upd H2 a.heap.objs.size (.lst [])) d a.heap.objs.size;refine jW ?_;have f4:∀b∈d,jQ (cxC X scope w T keep {a with heap:=a.heap.push {cls:=.type "list",data:=.seq ([]:List dD).toArray}} (upd H2 a.heap.objs.size (.lst [])) d) [] (upd H2 a.heap.objs.size (.lst [])) b:=λb hb=>
  ⟨(P b hb).1,(N.ok.exf b hb).1,N.ok.exfs b hb,.inl hb,(N.ok.exf b hb).2,λp E=>absurd (show p∈([]:List (dF×Obj))from E) (by simp)⟩
 have F:tn 0 (pushCells ((a.heap.push {cls:=.type "list",data:=.seq ([]:List dD).toArray}).push {cls:=.type "dict",data:=.dict #[]}) scope.names):=
  TT.keep 0 a.heap _ L λb hb o e=>pushCells_keeps scope.names _ b o (hP1 _ (hP1 _ e))
 have n:=l7 (X:=cxC X scope w T keep {a with heap:=a.heap.push {cls:=.type "list",data:=.seq ([]:List dD).toArray}} (upd H2 a.heap.objs.size (.lst [])) d) O hc (eq (.ref it) (.ref a.heap.objs.size) _) TT hg W he N F f4
  (q2 a.heap.objs.size (I2.hok.fresh (nR1 _)))
 refine codeAny_mono (codeAny_compStart_list n (TT.self X.A 0 _ _ _ F n)) λr s' hr=>?_;cases r with
 |error e=>exact hr.elim
 |ok f=>
  obtain⟨σ',H',B,q'⟩:=hr;have J1:Inv X ag σ H' s':=t.call' (s':=s') (ch:=d) B.os B.base B.hok B.bare λb hb=>(P b hb).2.2.2 |> λz=>⟨z.1,(P b hb).2.1,z.2.1,z.2.2⟩
  -- the block's own dict is kept aside
  obtain⟨m,hn,_⟩:=id B.loc;obtain⟨au,es,ep,eC,dC,rC⟩:=id hn;have hCz:(a.heap.push {cls:=.type "list",data:=.seq ([]:List dD).toArray}).get? (a.heap.push {cls:=.type "list",data:=.seq ([]:List dD).toArray}).objs.size=Y:=Heap.get?_none_of_le (nR1 _);have K:(a.heap.push {cls:=.type "list",data:=.seq ([]:List dD).toArray}).objs.size≠X.env.locals:=λz=>by
   have:=t.lt;rw[<- z]at this;exact az _ this
  have U:H' (a.heap.push {cls:=.type "list",data:=.seq ([]:List dD).toArray}).objs.size=Y:=B.free;have J2:Inv X (ag++[((a.heap.push {cls:=.type "list",data:=.seq ([]:List dD).toArray}).objs.size,au)]) σ H' s':=J1.pins_of λp E=>by
   rcases aG.mp E with z|z
   ·exact J1.pin p (mA1 _ z)
   ·have z':p=((a.heap.push {cls:=.type "list",data:=.seq ([]:List dD).toArray}).objs.size,au):=by simpa using z
    subst z';exact⟨eC,U,K,t.nofs (nR1 _),λv q=>by rw[dC]at q;cases q⟩
  refine fj (we hN hy hx hf _ s' σ H' (.ref a.heap.objs.size) (.ref a.heap.objs.size) D.nx J2 O q') λ_ s5 ⟨G,H5,J5,q5⟩=>?_;obtain⟨e5,n5,_⟩:=J5.pin ((a.heap.push {cls:=.type "list",data:=.seq ([]:List dD).toArray}).objs.size,au) (mA1 _ (mA1 _ mS1));refine⟨m,⟨au,es,ep,e5,dC,rC⟩,λh' S=>?_⟩;have J6:Inv X ag G H5 s5:=J5.unpinned;refine⟨G,H5,J6.turned (t':=s5.toks) (λb o hb e=>(S.2 b hb).trans e) n5 K (.inr ?_) (λx c u z=>?_) (λp E z=>?_),q5⟩
  ·exact t.sz
  ·obtain⟨w',zc⟩:=t.cell x c u;have j:=zc.lt;rw[z]at j;exact az _ j
  ·obtain⟨aq,_⟩:=t.pin p E;have j:=hL1 aq;rw[z]at j;exact az _ j
section
variable{X:Cx}
theorem Bw{K:Fg1}{te:TE}{m:FE}{i:Nat}(hm:∀ σ H Q,tM K m σ H Q->te σ H Q){E:i4}{σ:L2.St}{H:Hp}(h:vV K (eE m (gN i)) E σ H):zn te (wS i) E σ H:=by
 obtain⟨r,mu,S,d,c,h1,h2,e,k⟩:=rF h;refine hm _ _ _ ⟨r,mu,S,d,c,h1,h2,e,λv H' mu' n b j=>?_⟩;obtain⟨r2,a,q,u,t,s,f,g,p,l,o⟩:=k v H' mu' n b j;cases l;exact o _ H' a (.refl _ _) (f.set p) g
theorem mv (i:Nat){x:Str}{pos:Pos}(hN:X.N[i]? = some x:=by rfl)(hv:He X.env.scope x:=by first | exact Or.inl rfl | exact Or.inr (Or.inl rfl) | exact Or.inr (Or.inr rfl))(hd:(x == ("__debug__":Str))=false:=by decide)(hcd:(x == ("__classdict__":Str))=false:=by decide):
  ME X (.Name x pos) (mV i):=Gj i hN hv hd hcd
end
def fi(P:dG)(w:dI)(K:Fg1)(mg:Str->Option dD)(base:dQ)(k:Nat)(x:Str)(n:Nat)(m:FN):Prop:=
 ∃(f:dF) (fd:dR) (ps:List Str),jR P w K mg base ul k f fd ps (BN K n m)/\lF K fd ps []/\wK1 K (.ref f)=M/\mg x=Z (.ref f)
theorem Gn {X:Cx}{k k' n:Nat}{x:Str}{m:FN}{p pos:Pos}{e:Expr}{es:List Expr}{a:FA}(h:fi X.prog X.w X.K X.mg X.base k x n m)(hr:fP k' X.A)(hk:k<=k')(hg:Gl X x)(ha:MA X (e::es) a)(hdb:(x == ("__debug__":Str))=false:=by decide)
  (he:dL (e::es) X.env=(J,eval e X.env)::dL es X.env:=by rfl) (hpl:(backTo pos (dL es X.env)).any (·.1)=J:=by rfl):ME X (.Call (.Name x p) (e::es) [] pos) (mN (dX n m) a):=by
 obtain⟨f,fd,ps,F,b,d,c⟩:=h;exact C6 F (hr.mono hk) hg c d b ha hdb he hpl
theorem FJ{P:dG}{w:dI}{K:Fg1}{mg:Str->Option dD}{base:dQ}{x a:Str}{st:dS}{f:dF}{fd:dR}{N ps:List Str}{k n:Nat}{b:FS}(F:yU K x a st f fd)(hb:lF K fd ps [])(hm:mg x=some (.ref f))(S:gy N ps (ea st))(hn:ps.length=n)(d:∀(e:dD) (A:dH) (c:List Env) (s:dE) (H:Hp) (E:XK),fP k (A.deeper (envOfC a (ea st) s.heap.objs.size f e)) ->
   yN (mU ul P w K mg base N a (ea st) f e A c s H E).nox (fy st) b):fi P w K mg base (k+1) x n (gY N.length b):=by
 subst hn;exact⟨f,fd,ps,IU F S d,hb,F.kp,hm⟩
def CGl(K:Fg1)(mg:Str->Option dD)(x:Str)(d:D):Prop:=∃(v:V) (u:dD),mg x=Z u/\d6 v u /\ ∀H mu,eK K H mu d v
theorem C5 {X:Cx}{x:Str}{d:D}{pos:Pos}(h:CGl X.K X.mg x d)(hg:Gl X x)(hd:(x == ("__debug__":Str))=J:=by decide):ME X (.Name x pos) (mC d):=by
 obtain⟨v,u,a,r,q⟩:=h;exact Au d (CC hg a r hd) q
noncomputable def fO:List Bool->Ev->Ev
 |true::bs,o::r=>o::fO bs r
 |false::bs,_::r=>Y::fO bs r
 |[],_::r=>Y::fO [] r
 |_,[]=>[]
noncomputable def kG:Ev->Bool
 |[]=>M
 |none::r=>kG r
 |some d::r=>d.und 0&&kG r
noncomputable def pS (ki ko:List Bool)(b:FS):FS:=fun r S=>if kG (fO ki r)=true then
  (b (fO ki r) []).bind λp=>match p.1 with
   | .rt d=>if d.und 0=true then some (.rt d,[],S)else none
   |f=>if kG (fO ko p.2.1)=true then some (f,fO ko p.2.1,S)else none
 else none
theorem jE:∀(bs:List Bool) (r:Ev),(fO bs r).length=r.length
 |true::bs,o::r=>congrArg (· + 1) (jE bs r)
 |false::bs,o::r=>congrArg (· + 1) (jE bs r)
 |[],o::r=>congrArg (· + 1) (jE [] r)
 |[],[]=>rfl
 |true::_,[]=>rfl
 |false::_,[]=>rfl
theorem jF:∀(bs:List Bool) (r:Ev) (i:Nat) (d:D),(fO bs r)[i]?=Z (Z d)->r[i]?=Z (Z d)
 |true::bs,o::r,0,d,h=>h
 |true::bs,o::r,i+1,d,h=>by
  rw[gC1];exact jF bs r i d (by rw[fO,gC1]at h;exact h)
 |false::bs,o::r,0,d,h=>by simp[fO]at h
 |false::bs,o::r,i+1,d,h=>by
  rw[gC1];exact jF bs r i d (by rw[fO,gC1]at h;exact h)
 |[],o::r,0,d,h=>by simp[fO]at h
 |[],o::r,i+1,d,h=>by
  rw[gC1];exact jF [] r i d (by rw[fO,gC1]at h;exact h)
 |[],[],i,d,h=>by simp[fO]at h
 |true::_,[],i,d,h=>by simp[fO]at h
 |false::_,[],i,d,h=>by simp[fO]at h
theorem lO:∀(r:Ev) (i:Nat) (d:D),kG r=M->r[i]?=Z (Z d)->d.und 0=M
 |none::r,0,d,_,h=>by simp at h
 |none::r,i+1,d,hs,h=>lO r i d hs (by simpa using h)
 |some e::r,0,d,hs,h=>by
  rw[kG,bA1]at hs;simp at h;subst h;exact hs.1
 |some e::r,i+1,d,hs,h=>by
  rw[kG,bA1]at hs;exact lO r i d hs.2 (by simpa using h)
theorem fD.mask{K:Fg1}{H:Hp}{mu mu':List dF}{r:Ev}{σ:L2.St}{bs:List Bool}(h:fD K H mu r σ)(hs:kG (fO bs r)=M):fD K H mu' (fO bs r) σ:=
 ⟨by rw[jE];exact h.len,λi d e=>by
  obtain⟨v,a,b⟩:=h.val i d (jF bs r i d e);exact⟨v,a,b.cut (n:=0) (λk c=>absurd c (bw _)) (lO _ i d hs e)⟩⟩
theorem Aw{K:Fg1}{m p:List Bool}{b:FS}{E:i4}{σ:L2.St}{H:Hp}(h:vV K (pS m p b) E σ H):vV K b E σ H:=by
 obtain⟨r,mu,S,f,C,B,y,j,c,hc⟩:=h;unfold pS at c;split at c
 ·rename_i q;obtain⟨⟨l,t,w⟩,u,c⟩:=oB1.mp c;refine⟨fO m r,[],[],l,t,w,y.mask q,.nil,u,?_⟩;have back:∀{H':Hp} {mu':List dF},Ext [] mu' H H'->Ext mu mu H H':=λ{H' mu'} x=>⟨bn,λa o e _=>x.old a o e (by simp),x.tup,x.frz,λ_ z=>.inl z⟩;have keep:∀{H':Hp} {mu':List dF},Ext [] mu' H H'->Sim K H' mu S:=λ{H' mu'} x=>⟨j.len,j.nd,λn o a h1 h2=>(j.ob n o a h1 h2).keep (back x) λo e=>x.old a o e (by simp)⟩;cases l with
  |rt d=>
   dsimp only at c;split at c
   ·rename_i i;cases c;exact λv H' mu' x r s=>hc v H' mu (back x) (r.cut (n:=0) (λk A=>absurd A (bw _)) i) (keep x)
   ·cases c
  |nx=>
   dsimp only at c;split at c
   ·rename_i i;cases c;exact λg H' mu' x r s=>hc g H' mu (back x) (r.mask i) (keep x)
   ·cases c
  |bk=>
   dsimp only at c;split at c
   ·rename_i i;cases c;exact λg H' mu' x r s=>hc g H' mu (back x) (r.mask i) (keep x)
   ·cases c
  |ct=>
   dsimp only at c;split at c
   ·rename_i i;cases c;exact λg H' mu' x r s=>hc g H' mu (back x) (r.mask i) (keep x)
   ·cases c
 ·cases c
theorem Ah{X:Cx}{sts:List dS}{b:FS}(c a:List Bool)(h:yN X sts b):yN X sts (pS c a b):=rj h λ_ _ _=>Aw
def CV(K:Fg1)(d:D)(u:dD):Prop:=∃v:V,d6 v u /\ ∀H mu,eK K H mu d v
def JM(K:Fg1)(ds:List D)(us:List dD):Prop:=∃vs:List V,ei vs us /\ ∀H mu,d4 K H mu ds vs
section
variable{K:Fg1}
theorem kh{i:Int}{t}:CV K (.int i) (.int i t):=⟨.int i,⟨t,O⟩,λ_ _=>.int i⟩
theorem kg{x:Str}{t}:CV K (.str x) (.str x t):=⟨.str x,⟨t,O⟩,λ_ _=>.str x⟩
theorem jM:JM K [] []:=⟨[],.nil,λ_ _=>.nil⟩
theorem eX{d:D}{u:dD}{ds:List D}{a:List dD}(h:CV K d u)(t:JM K ds a):JM K (d::ds) (u::a):=by
 obtain⟨v,r,q⟩:=h;obtain⟨vs,rs,b⟩:=t;exact⟨v::vs,.cons r rs,λH mu=>.cons (q H mu) (b H mu)⟩
theorem l6 {a:dF}{d:Option dF}{b:List dD}{n:Nat}{sl:Array (Option dD)}{ds:List D}(h:K.lookup a=Z ⟨.type "tuple",d,.seq b.toArray n,sl⟩)(hs:b.length<=dM)(t:JM K ds b):CV K (.tup ds) (.ref a):=by
 obtain⟨vs,rs,c⟩:=t;exact⟨.ref a,O,λH mu=>.tup (.inr ⟨_,b.toArray,n,h,O,O,by simpa using hs,by simpa using rs⟩) (c H mu)⟩
theorem oB{mg:Str->Option dD}{x:Str}{d:D}{u:dD}(hm:mg x=Z u)(h:CV K d u):CGl K mg x d:=by
 obtain⟨v,r,q⟩:=h;exact⟨v,u,hm,r,q⟩
end
theorem lP{K:Fg1}{H:Hp}{mu:List dF}:∀ns:List Int,d4 K H mu (ns.map D.int) (ns.map V.int)
 |[]=>.nil
 |n::ns=>.cons (.int n) (lP ns)
theorem GB{K:Fg1}{m:FN}(hm:∀ ns:List Int,ns.length<=63 -> ∃ S,m [.rol (ns.map D.int)] []=some (.bl true,S))(H:Hp)(a:dF)(ns:List Int)(b:ns.length<=63)(f:D3 H)(d:mX K H a (ns.map V.int)):
  BN K 1 m [.ref a] H (λv _=>v = .bl M) λ_ _ _=>False:=by
 refine⟨O,?_⟩;obtain⟨S,e⟩:=hm ns b;have c:RoL K H a (ns.map V.int):=by
  rcases d with h|h
  ·rcases h with h|h
   ·rcases f a with z|⟨o,xs,z⟩
    ·rw[h]at z;cases z
    ·rw[h]at z;cases z
   ·exact .inl h
  ·exact .inr h
 refine⟨[],[],[.rol (ns.map D.int)],.bl M,S,.cons (.rol c (lP ns)) .nil,.nil,e,λv H' mu' x r s=>?_⟩;cases r;rfl
theorem walk_m{l:PySem.W.OpenLaw}{q:dG}{b:List Str}{XP:(Str->Option dD)->dQ->Prop}{e:dI->dQ->Prop}{d:DefRec}{K:Params->Fg1}{m:FN}{k:Nat}{x:Str}(hn:l.most=some 63)(c:d.params.defaults=[])(hr:fP k callerA)(j:∀(w:dI) (h:dQ),e w h->(K w.params).In h)(hm:∀ns:List Int,ns.length<=63 -> ∃S,m [.rol (ns.map D.int)] []=some (.bl true,S))(F:∀(w:dI) (mg:Str->Option dD) (g:dF) (h:dQ),(K w.params).In h->h.Ns dJ mg->mg d.name=some (.ref g) ->
   ∃fd:dR,(∀(s:dE) (u:dD),BindsTo s fd ⟨[u],[]⟩ [(x,u)]) /\ ∀base:dQ,(K w.params).In base->base.Ns dJ mg->jR l.prog w (K w.params) mg base ul k g fd [x] (BN (K w.params) 1 m)):
  PySem.W.WalkO q b XP e l.row.toRowW d [] (λf vs=>PySem.call f vs):=
 L2.B4 (n:=63) (k:=k) (x:=x) (CX:=λ_=>ul) (sp:=λw=>BN (K w.params) 1 m) hn (by decide) c hr j F (λ_ H a ns p i o=>GB hm H a ns p i o) λ_ _ _ _ _ z=>z
structure XE (X:Cx)(e:Expr)(m:FE):Prop where
 h:ME X e m
structure XT (X:Cx)(e:Expr)(m:FT):Prop where
 h:MT X e m
structure XW (X:Cx)(e:Expr)(m:FT):Prop where
 h:MW X e m
structure XA (X:Cx)(e:List Expr)(m:FA):Prop where
 h:MA X e m
structure XS (X:Cx)(e:dS)(m:FS):Prop where
 h:MS X e m
structure vG (X:Cx)(e:List dS)(m:FS):Prop where
 h:yN X e m
structure XI (X:Cx)(tg e:Expr)(m:FI):Prop where
 h:MI X tg e m
structure XG (X:Cx)(e:Expr)(m:FG):Prop where
 h:MG X e m
structure JK (X:Cx)(e:List Expr)(m:BK):Prop where
 h:Jo X e m
structure XO (X:Cx)(e:Option Expr)(m:FO):Prop where
 h:MO X e m
structure XF (X:Cx)(K:Fg1)(ifs:List Expr)(t:FT):Prop where
 h:oP X ifs (xA K t)
theorem eL{X:Cx}:XF X X.K [] fB:=⟨C2⟩
theorem gK{X:Cx}{c:Expr}{t:FT}(h:XT X c t):XF X X.K [c] t:=⟨C1 h.h⟩
theorem xn{X:Cx}{sts:List dS}{b:FS}(c a:List Bool)(h:vG X sts b):vG X sts (pS c a b):=⟨Ah c a h.h⟩
section
variable{X:Cx}{pos:Pos}
theorem qK{i:Int}{j}:XE X (.Constant (.int i) j pos) (mC (.int i)):=⟨Gs⟩
theorem hW{b:Bool}{j}:XE X (.Constant (.bool b) j pos) (mC (.bl b)):=⟨Iz⟩
theorem fY{j}:XE X (.Constant .none j pos) (mC .non):=⟨Gq⟩
theorem eP{x:Str}{j}:XE X (.Constant (.str x) j pos) (mC (.str x)):=⟨Gm⟩
end
section
variable{X:Cx}{pos:Pos}{e:Expr}{es:List Expr}{m:FE}{n:FA}
theorem qN:XA X [] dW:=⟨Gw⟩
theorem qA(h:XE X e m)(ht:XA X es n)(hs:dL (e::es) X.env=(J,eval e X.env)::dL es X.env:=by rfl):XA X (e::es) (dV m n):=⟨C8 (h:=h.h) (ht:=ht.h) (hs:=hs)⟩
end
section
variable{X:Cx}{K:Fg1}{f:FN}{a b:FE}{σ:L2.St}{H:Hp}{Q:VK}
theorem qI{op:Operator}{x y:Expr}{pos:Pos}(ho:fX X (binaryOp op) (r2 X.K f))(hx:XE X x a)(hy:XE X y b):XE X (.BinOp x op y pos) (m2 f a b):=⟨Iw (ho:=ho) (hx:=hx.h) (hy:=hy.h)⟩
theorem BZ{op:CmpOp}{x y:Expr}{pos:Pos}(ho:fX X (compareOp op) (r2 X.K f))(hx:XE X x a)(hy:XE X y b)(hm:behindInMarks op y=J):XE X (.Compare x [op] [y] pos) (m2 f a b):=⟨Gu (ho:=ho) (hx:=hx.h) (hy:=hy.h) (hm:=hm)⟩
theorem qJ{x y:Expr}{pos:Pos}(ho:Ex X (r2 X.K f))(hx:XE X x a)(hy:XE X y b)(hs:nl y):XE X (.Subscript x y pos) (m2 f a b):=⟨Ix (ho:=ho) (hx:=hx.h) (hy:=hy.h) (hs:=hs)⟩
theorem qD {x:Str}{p pos:Pos}{e:Expr}{es:List Expr}{id:String}{a:FA}(hc:e9 X (.builtin id) (rN X.K f))(hg:Gl X x)(hm:X.mg x=Y)(hv:bootBuiltins x=Z (.builtin id))(ha:XA X (e::es) a)(hn:x≠"__name__":=by decide)(hdb:(x == ("__debug__":Str))=J:=by decide)(he:dL (e::es) X.env=(J,eval e X.env)::dL es X.env:=by rfl)(hpl:(backTo pos (dL es X.env)).any (·.1)=J:=by rfl):XE X (.Call (.Name x p) (e::es) [] pos) (mN f a):=⟨At (hc:=hc) (hg:=hg) (hm:=hm) (hv:=hv) (ha:=ha.h) (hn:=hn) (hdb:=hdb) (he:=he) (hpl:=hpl)⟩
theorem qE {x:Str}{p pos:Pos}{e:Expr}{es:List Expr}{T:String}{a:FA}(hc:e9 X (.type T) (rN X.K f))(hg:Gl X x)(hm:X.mg x=Y)(hv:bootBuiltins x=Z (.type T))(ha:XA X (e::es) a)(hn:x≠"__name__":=by decide)(hdb:(x == ("__debug__":Str))=J:=by decide)(he:dL (e::es) X.env=(J,eval e X.env)::dL es X.env:=by rfl)(hpl:(backTo pos (dL es X.env)).any (·.1)=J:=by rfl):XE X (.Call (.Name x p) (e::es) [] pos) (mN f a):=⟨x0 (hc:=hc) (hg:=hg) (hm:=hm) (hv:=hv) (ha:=ha.h) (hn:=hn) (hdb:=hdb) (he:=he) (hpl:=hpl)⟩
end
section
variable{X:Cx}{x y c:Expr}{rest:List Expr}{pos:Pos}{a b:FT}{f g:FE}
theorem qX{op:CmpOp}{f:FN}{a b:FE}(ho:fX X (compareOp op) (r2 X.K f))(hx:XE X x a)(hy:XE X y b)(hm:behindInMarks op y=J):XT X (.Compare x [op] [y] pos) (mB (m2 f a b)):=⟨F5 (ho:=ho) (hx:=hx.h) (hy:=hy.h) (hm:=hm)⟩
theorem nq(ha:XT X x a):XW X (.BoolOp .And [x] pos) a:=⟨CQ (ha:=ha.h)⟩
theorem mY(ha:XT X x a):XW X (.BoolOp .Or [x] pos) a:=⟨F2 (ha:=ha.h)⟩
theorem qv(ha:XT X x a)(hb:XW X (.BoolOp .And (y::rest) pos) b):XW X (.BoolOp .And (x::y::rest) pos) (x9 a b):=⟨F3 (ha:=ha.h) (hb:=hb.h)⟩
theorem no(ha:XT X x a)(hb:XW X (.BoolOp .Or (y::rest) pos) b):XW X (.BoolOp .Or (x::y::rest) pos) (Ee a b):=⟨Iu (ha:=ha.h) (hb:=hb.h)⟩
theorem nr(h:XW X x a):XT X x a:=⟨Kk (h:=h.h)⟩
theorem iI(ha:XT X x a):XT X (.UnaryOp .Not x pos) (oW a):=⟨F4 (ha:=ha.h)⟩
theorem fQ{op}(h:XE X x f):XE X (.BoolOp op [x] pos) f:=⟨Go (h:=h.h)⟩
theorem fq(ha:XE X x f)(hb:XE X (.BoolOp .And (y::rest) pos) g):XE X (.BoolOp .And (x::y::rest) pos) (gg f g):=⟨Gv (ha:=ha.h) (hb:=hb.h)⟩
theorem BY(ha:XE X x f):XE X (.UnaryOp .Not x pos) (wx f):=⟨Gp (ha:=ha.h)⟩
theorem uB(hc:XT X c a)(hx:XE X x f)(hy:XE X y g):XE X (.IfExp c x y pos) (Ay a f g):=⟨Iy (hc:=hc.h) (hx:=hx.h) (hy:=hy.h)⟩
end
section
variable{X:Cx}{x y z:Expr}{pos:Pos}{f g:FN}{a b c:FE}{op op':CmpOp}
theorem xt(ho:fX X (compareOp op) (r2 X.K f))(ho':fX X (compareOp op') (r2 X.K g))(hx:XE X x a)(hy:XE X y b)(hz:XE X z c)(hm:lastMarks [op,op'] [y,z]=J:=by with_unfolding_all rfl):XE X (.Compare x [op,op'] [y,z] pos) (Gy f g a b c):=⟨As (ho:=ho) (ho':=ho') (hx:=hx.h) (hy:=hy.h) (hz:=hz.h) (hm:=hm)⟩
end
section
variable{X:Cx}{pos:Pos}{e c:Expr}{st:dS}{rest as bs:List dS}{a b:FS}{m:FE}{t:FT}
theorem qQ:vG X [] pT:=⟨CT⟩
theorem qF(h1:XS X st a)(h2:vG X rest b):vG X (st::rest) (eA a b):=⟨Ai (h1:=h1.h) (h2:=h2.h)⟩
theorem qG(h1:XS X st a):vG X [st] a:=⟨CS (h1:=h1.h)⟩
theorem kq(h:XE X e m)(hs:swapsWith e Y pos.line X.env=pure J:=by rfl):XS X (.Expr e pos) (fV m):=⟨CU (h:=h.h) (hs:=hs)⟩
theorem qU(h:XE X e m):XS X (.Return (Z e) pos) (e0 m):=⟨F7 (h:=h.h)⟩
theorem qV(hc:XT X c t)(ha:vG X as a)(hb:vG X bs b):XS X (.If c as bs pos) (g0 t a b):=⟨Iv (hc:=hc.h) (ha:=ha.h) (hb:=hb.h)⟩
end
section
variable{X:Cx}{pos:Pos}
theorem qO(i:Nat){x:Str}(hN:X.N.Nodup)(hi:X.N[i]?=Z x)(hx:yO X.env.scope x)(hf:X.fn x=M\/X.env.scope.names.lookup x=Z .local:=by first|exact .inl rfl|exact .inr rfl|assumption):XG X (.Name x pos) (gN i):=⟨C4 (i:=i) (hN:=hN) (hi:=hi) (hx:=hx) (hf:=hf)⟩
theorem il:JK X [] lG:=⟨C3⟩
theorem eH{e:Expr}{es:List Expr}{g:FG}{a:BK}(h1:XG X e g)(h2:JK X es a)(hs:(assignEach (e::es) X.env).map (·.2)=assign e X.env::(assignEach es X.env).map (·.2):=by rfl):JK X (e::es) (gj g a):=⟨Ap (h1:=h1.h) (h2:=h2.h) (hs:=hs)⟩
theorem jx{es:List Expr}{k:Nat}{a:BK}{n:Nat}(hc:X.calm=M)(h:JK X es a)(hn:(assignEach es X.env).length=n:=by rfl)(hst:(assignEach es X.env).findIdx? (·.1)=Y:=by rfl):XG X (.Tuple es k pos) (gT n a):=⟨Gg (hc:=hc) (h:=h.h) (hn:=hn) (hst:=hst)⟩
theorem m3{o i:Expr}{a b:FE}{f:FN}(ho:XE X o a)(hi:XE X i b)(hs:vL X (rU X.K f))(ha:∀ v,assign (.Subscript o i pos) X.env v=(do
   let ov<-holding [v] (eval o X.env)
   let iv<-holding [v,ov] (eval i X.env)
   standAt pos
   holding [v,ov,iv] (setItem ov iv v)
   release [v,ov,iv] []):=by intro _;rfl):XG X (.Subscript o i pos) (gS f a b):=⟨Gh (ho:=ho.h) (hi:=hi.h) (hs:=hs) (ha:=ha)⟩
theorem qR{tg e:Expr}{m:FE}{g:FG}(he:XE X e m)(hg:XG X tg g)(hs:swapsWithSole [tg] e pos.line X.env=pure J:=by rfl)(hw:swappedStores [tg] e X.env=pure Y:=by rfl)(h1:(assignEach [tg] X.env).map (·.2)=[assign tg X.env]:=by rfl):XS X (.Assign [tg] e pos) (eE m g):=⟨F9 (he:=he.h) (hg:=hg.h) (hs:=hs) (hw:=hw) (h1:=h1)⟩
theorem qY(i:Nat){x:Str}{e:Expr}{m:FE}{pos':Pos}(hN:X.N.Nodup)(hi:X.N[i]?=Z x)(hx:yO X.env.scope x)(he:XE X e m)(hs:swapsWith e (Z (.Name x pos')) pos.line X.env=pure J:=by rfl)(hf:X.fn x=M\/X.env.scope.names.lookup x=Z .local:=by first|exact .inl rfl|exact .inr rfl|assumption):XS X (.Assign [.Name x pos'] e pos) (eE m (gN i)):=⟨F6 (i:=i) (hN:=hN) (hi:=hi) (hx:=hx) (he:=he.h) (hs:=hs) (hf:=hf)⟩
end
section
theorem xp{X:Cx}{pos:Pos}(n:Nat){c:Expr}{a:List dS}{t:FT}{b:FS}(hp:PassesOwn (model X.prog X.w) X.A X.env X.xe)(hc:XT X c t)(hb:vG X a b):XS X (.While c a [] pos) (yS t b n):=⟨Aj (n:=n) (hp:=hp) (hc:=hc.h) (hb:=hb.h)⟩
theorem qW{X:Cx}{pos:Pos}{tg iter:Expr}{a:List dS}{m:FI}{g:FG}{b:FS}(hp:PassesOwn (model X.prog X.w) X.A X.env X.xe)(hc:X.calm=M)(hi:XI X tg iter m)(hg:XG X tg g)(hb:vG X a b)(hs:∀x,foldedSetIterable iter X.env x=pure x:=by intro _;rfl):XS X (.For tg iter a [] pos) (jg m g b):=⟨F8 (hp:=hp) (hc:=hc) (hi:=hi.h) (hg:=hg.h) (hb:=hb.h) (hs:=hs)⟩
end
section
variable{X:Cx}{es:List Expr}{pos:Pos}{a:FA}
theorem d8{x1}(h:XA X es a):XE X (.Tuple es x1 pos) (eS a):=⟨Gk (h:=h.h)⟩
theorem gE(h:XA X es a):XE X (.List es pos) (j9 a):=⟨Gr (h:=h.h)⟩
end
section
variable{X:Cx}{tg:Expr}
theorem qd{e:Expr}{m:FE}(h:XE X e m):XI X tg e (gB m):=⟨Gf (h:=h.h)⟩
theorem uy {a:Expr}{m:FA}{p pos:Pos}(hg:Gl X "range")(hm:X.mg "range"=Y)(ha:XA X [a] m)(hs:dL [a] X.env=[(J,eval a X.env)]:=by rfl):XI X tg (.Call (.Name "range" p) [a] [] pos) (vg m):=⟨xX (hg:=hg) (hm:=hm) (ha:=ha.h) (hs:=hs)⟩
theorem ux {a b:Expr}{m:FA}{p pos:Pos}(hg:Gl X "range")(hm:X.mg "range"=Y)(ha:XA X [a,b] m)(hs:dL [a,b] X.env=[(J,eval a X.env),(J,eval b X.env)]:=by rfl)(hs2:dL [b] X.env=[(J,eval b X.env)]:=by rfl):XI X tg (.Call (.Name "range" p) [a,b] [] pos) (IL m):=⟨xW (hg:=hg) (hm:=hm) (ha:=ha.h) (hs:=hs) (hs2:=hs2)⟩
end
section
variable{X:Cx}{tg:Expr}
variable{elts:List Expr}{k:Nat}{tpos:Pos}
theorem qw {a b:Expr}{m:FA}{p pos:Pos}(hg:Gl X "zip")(hm:X.mg "zip"=Y)(ha:XA X [a,b] m)(hs:dL [a,b] X.env=[(J,eval a X.env),(J,eval b X.env)]:=by rfl)(hs2:dL [b] X.env=[(J,eval b X.env)]:=by rfl):XI X (.Tuple elts k tpos) (.Call (.Name "zip" p) [a,b] [] pos) (GN m):=⟨Ge (hg:=hg) (hm:=hm) (ha:=ha.h) (hs:=hs) (hs2:=hs2)⟩
end
section
variable{X:Cx}{ag:List (dF×Obj)}{σ:L2.St}{H:Hp}{s:dE}{mu:List dF}{S:Sto}{K:Fg1}
theorem uA (T:Ty){e:Expr}{m:FE}{nm:Str}{p p2 pos:Pos}(hg:Gl X "isinstance")(hm:X.mg "isinstance"=Y)(hg2:Gl X nm)(hm2:X.mg nm=Y)(hv2:bootBuiltins nm=Z (.type T.nm))(h:XE X e m)(hn:nm≠"__name__":=by decide)(hd:(nm == ("__debug__":Str))=J:=by decide)(hs1:dL [e,.Name nm p2] X.env=(J,eval e X.env)::dL [.Name nm p2] X.env:=by rfl)(hs2:dL [.Name nm p2] X.env=(J,eval (.Name nm p2) X.env)::dL [] X.env:=by rfl)(hpl:(backTo pos (dL [.Name nm p2] X.env)).any (·.1)=J:=by rfl):XE X (.Call (.Name "isinstance" p) [e,.Name nm p2] [] pos) (ka T m):=⟨xZ (T:=T) (hg:=hg) (hm:=hm) (hg2:=hg2) (hm2:=hm2) (hv2:=hv2) (h:=h.h) (hn:=hn) (hd:=hd) (hs1:=hs1) (hs2:=hs2) (hpl:=hpl)⟩
end
section
variable{X:Cx}
theorem se:XO X Y pO:=⟨CZ⟩
theorem sd{e:Expr}{m:FE}(h:XE X e m):XO X (Z e) (pN m):=⟨CY (h:=h.h)⟩
theorem nv {a:Expr}{m:FA}{d p2 b c:Pos}(hc:X.calm=M)(hg:Gl X "range")(hm:X.mg "range"=Y)(hg2:Gl X "list")(hm2:X.mg "list"=Y)(ha:XA X [a] m)(hs:dL [a] X.env=[(J,eval a X.env)]:=by rfl)(hs2:dL [.Call (.Name "range" d) [a] [] b] X.env=[(J,eval (.Call (.Name "range" d) [a] [] b) X.env)]:=by rfl):XE X (.Call (.Name "list" p2) [.Call (.Name "range" d) [a] [] b] [] c) (x5 m):=⟨xY (hc:=hc) (hg:=hg) (hm:=hm) (hg2:=hg2) (hm2:=hm2) (ha:=ha.h) (hs:=hs) (hs2:=hs2)⟩
theorem qe {o e:Expr}{es:List Expr}{m:FE}{a:FA}{f:FN}{name:Str}{apos cpos:Pos}{id:String}(slot:Slot "list" name id)(hty:typeOf (.builtin id)=pure (.type "method_descriptor"))(hm:Eu X id (λx xs H Q=>rN X.K f (x::xs) H Q))(ho:XE X o m)(ha:XA X (e::es) a)(hbase:attributeBase o name X.env (eval o X.env)=eval o X.env:=by rfl)(hfew:((backTo cpos (dL (e::es) X.env)).all (λx=> !x.1)&&(backToKw cpos (keywordEach [] X.env)).all (λx=>x.1.isSome)&&decide ((e::es).length+([]:List Keyword).length+(if([]:List Keyword).isEmpty then 0 else 1)<30))=M:=by rfl)(hline:(apos.endLine == cpos.line)=M:=by rfl)(hs:dL (e::es) X.env=(J,eval e X.env)::dL es X.env:=by rfl)(hplain:(backTo cpos (dL es X.env)).any (·.1)=J:=by rfl):XE X (.Call (.Attribute o name apos) (e::es) [] cpos) (tm f m a):=⟨Ar (slot:=slot) (hty:=hty) (hm:=hm) (ho:=ho.h) (ha:=ha.h) (hbase:=hbase) (hfew:=hfew) (hline:=hline) (hs:=hs) (hplain:=hplain)⟩
theorem K6 (i:Nat){x:Str}{pos:Pos}(hN:X.N[i]?=Z x:=by rfl)(hv:He X.env.scope x:=by first|exact Or.inl rfl|exact Or.inr (Or.inl rfl)|exact Or.inr (Or.inr rfl))(hd:(x == ("__debug__":Str))=J:=by decide)(hcd:(x == ("__classdict__":Str))=J:=by decide):XE X (.Name x pos) (mV i):=⟨mv (i:=i) (hN:=hN) (hv:=hv) (hd:=hd) (hcd:=hcd)⟩
end
section
theorem qH {X:Cx}{k k' n:Nat}{x:Str}{m:FN}{p pos:Pos}{e:Expr}{es:List Expr}{a:FA}(h:fi X.prog X.w X.K X.mg X.base k x n m)(hr:fP k' X.A)(hk:k<=k')(hg:Gl X x)(ha:XA X (e::es) a)(hdb:(x == ("__debug__":Str))=J:=by decide)(he:dL (e::es) X.env=(J,eval e X.env)::dL es X.env:=by rfl)(hpl:(backTo pos (dL es X.env)).any (·.1)=J:=by rfl):XE X (.Call (.Name x p) (e::es) [] pos) (mN (dX n m) a):=⟨Gn (h:=h) (hr:=hr) (hk:=hk) (hg:=hg) (ha:=ha.h) (hdb:=hdb) (he:=he) (hpl:=hpl)⟩
theorem fZ {X:Cx}{x:Str}{d:D}{pos:Pos}(h:CGl X.K X.mg x d)(hg:Gl X x)(hd:(x == ("__debug__":Str))=J:=by decide):XE X (.Name x pos) (mC d):=⟨C5 (h:=h) (hg:=hg) (hd:=hd)⟩
end
section
variable{X:Cx}
structure JL (X:Cx)(K:Fg1)(tg:Expr)(ifs:List Expr)(elt:Expr)(g:FG)(t:FT)(e:FE):Prop where
 g:XG X tg g
 t:XF X K ifs t
 e:XE X elt e
structure LI (X:Cx)(K:Fg1)(tg:Expr)(ifs:List Expr)(tg2 iter2:Expr)(ifs2:List Expr)(elt:Expr)(g:FG)(t:FT)(m2:FI)(g2:FG)(t2:FT)(e:FE):Prop where
 g:XG X tg g
 t:XF X K ifs t
 i2:XI X tg2 iter2 m2
 g2:XG X tg2 g2
 t2:XF X K ifs2 t2
 e:XE X elt e
end
theorem BV{P:dG}{w:dI}{K:Fg1}{mg:Str->Option dD}{base:dQ}{x c:Str}{st:dS}{f:dF}{fd:dR}{N ps:List Str}{k n:Nat}{b:FS}(F:yU K x c st f fd)(hb:lF K fd ps [])(hm:mg x=some (.ref f))(S:gy N ps (ea st))(hn:ps.length=n)(e:∀(d:dD) (A:dH) (a:List Env) (s:dE) (H:Hp) (E:XK),fP k (A.deeper (envOfC c (ea st) s.heap.objs.size f d)) ->
   vG (mU ul P w K mg base N c (ea st) f d A a s H E).nox (fy st) b):fi P w K mg base (k+1) x n (gY N.length b):=
 FJ F hb hm S hn λd A a s H E g=>(e d A a s H E g).h
theorem Ey{P:dG}{w:dI}{K:Fg1}{mg:Str->Option dD}{base:dQ}{x c:Str}{st:dS}{f:dF}{fd:dR}{N ps:List Str}{k n:Nat}{b:FS}(F:yU K x c st f fd)(S:gy N ps (ea st))(hn:ps.length=n)(e:∀(d:dD) (A:dH) (a:List Env) (s:dE) (H:Hp) (E:XK),fP k (A.deeper (envOfC c (ea st) s.heap.objs.size f d)) ->
   vG (mU ul P w K mg base N c (ea st) f d A a s H E).nox (fy st) b):jR P w K mg base ul (k+1) f fd ps (BN K n (gY N.length b)):=by
 subst hn;exact IU F S λd A a s H E g=>(e d A a s H E g).h
abbrev FV:=Ev->Sto->Option (List D×Ev×Sto)
noncomputable def fM (c:List (Nat×List D))(g:FG)(t:FT)(b:FV):List D->FV
 |[]=>λr S=>if pM S c=true then some ([],r,S)else none
 |d::ds=>λr S=>if pM S c=true then(g d r S).bind λp=>(t p.1 p.2).bind λk=>if k.1=true then(b p.1 k.2).bind λq=>(fM c g t b ds q.2.1 q.2.2).map λz=>(q.1++z.1,z.2)else fM c g t b ds p.1 k.2 else none
noncomputable def eG (m:FE):FV:=λr S=>(m r S).map λq=>([q.1],r,q.2)
noncomputable def A3(m:FI)(g:FG)(t:FT)(b:FV):FV:=λr S=>(m r S).bind λp=>fM p.1.chk g t b p.1.items r p.2
noncomputable def eW (k:Nat)(keep:List Nat)(m:FI)(g:FG)(t:FT)(b:FV):FE:=λr S=>(m r S).bind λp=>
 (fM p.1.chk g t b p.1.items (rL k keep r) p.2).bind λq=>if q.1.length<=dM then some (.ref q.2.2.length,q.2.2++[.lst q.1])else none
section
variable{K:Fg1}{H H' H1:Hp}{mu mu' mu1:List dF}{S:Sto}{a:dF}
theorem Ext.aside(x:Ext mu mu' H H'):Ext (a::mu) (a::mu') H H' where
 pre:=bW.mpr ⟨O,x.pre⟩
 old:=λb o h n=>x.old b o h λz=>n (mC1 _ z)
 tup:=x.tup
 frz:=x.frz
 new:=λb h=>by
  rcases aF.mp h with h|h
  ·exact .inl (by rw[h];exact mS1)
  ·rcases x.new b h with q|q
   ·exact .inl (mC1 _ q)
   ·exact .inr q
theorem Ext.inner(x:Ext (a::mu) (a::mu') H H'):r9 mu mu' H H':=⟨(bW.mp x.pre).2,x.tup,x.frz⟩
theorem Ext.held{o:HO}(x:Ext mu mu' H H')(ha:H a=Z o)(hn:a∉mu):H' a=Z o/\a∉mu':=by
 refine⟨x.old a o ha hn,λz=>?_⟩;rcases x.new a z with q|q
 ·exact hn q
 ·rw[ha]at q;cases q
theorem fD.exw{r:Ev}{σ:L2.St}(e:r9 mu mu' H H')(h:fD K H mu r σ):fD K H' mu' r σ:=⟨h.len,λi d q=>by
 obtain⟨v,b,a⟩:=h.val i d q;exact⟨v,b,a.exw e⟩⟩
theorem kl.exw{b:dF}(e:r9 mu mu' H H')(h:∀o,H b=Z o->H' b=Z o):∀{o:Ob},kl K H mu b o->kl K H' mu' b o
 | .lst _,⟨vs,q,r⟩=>⟨vs,h _ q,r.exw e⟩
 | .dct _,⟨ws,q,r⟩=>⟨ws,h _ q,Paired.mapP r λ_ _ z=>⟨z.1,z.2.exw e⟩⟩
 | .dcT _,⟨ws,q,r,l⟩=>⟨ws,h _ q,Paired.mapP r λ_ _ ⟨z,d,k,v,a,r⟩=>⟨z,d,k.exw e,v,a,r.exw e⟩,l⟩
 | .iset _,q=>⟨h _ q.1,q.2⟩
 | .dcF _,⟨ws,⟨o,u,f,c⟩,r,l⟩=>⟨ws,⟨o,u,h _ f,c⟩,Paired.mapP r λ_ _ ⟨z,d,k,v,a,r⟩=>⟨z,d,k.exw e,v,a,r.exw e⟩,l⟩
 | .tst _,⟨ws,q,r⟩=>⟨ws,h _ q,Paired.mapP r λ_ _ ⟨z,d,k,v,a,r⟩=>⟨z,d,k.exw e,v,a,r.exw e⟩⟩
theorem Sim.aside{u:HO}(s:Sim K H mu S)(e:r9 mu mu H (upd H a u))(hn:a∉mu):Sim K (upd H a u) mu S:=
 ⟨s.len,s.nd,λk o b h1 h2=>(s.ob k o b h1 h2).exw e λo' q=>by rw[dZ (λz=>hn (by rw[<- z];exact gM1 h2))];exact q⟩
end
inductive EQ (K:Fg1)(a:dF)(m:FV)(E:i4)(σ:L2.St)(H:Hp):Prop
 |mk (r:Ev) (mu:List dF) (S:Sto) (acc:List D) (vs:List V) (xs:List D) (r':Ev) (S':Sto):H a=some (.lst vs)->a∉mu->d4 K H mu acc vs->fD K H mu r σ->Sim K H mu S->m r S=some (xs,r',S')->vs.length+xs.length<=dM ->
 (∀ σ' H' mu' vs',Ext (a::mu) (a::mu') H H'->H' a=some (.lst vs')->a∉mu'->d4 K H' mu' (acc++xs) vs'->fD K H' mu' r' σ'->Sim K H' mu' S'->E.nx σ' H')->EQ K a m E σ H
theorem lm{K:Fg1}{a:dF}{m:FE}{E:i4}{σ:L2.St}{H:Hp}(h:EQ K a (eG m) E σ H):px a (tM K m) E σ H:=by
 obtain⟨r,mu,S,o,vs,xs,u,w,j,g,n,i,q,f,s,hc⟩:=h;obtain⟨⟨d,p⟩,l,f⟩:=oM1.mp f;cases f;refine⟨r,mu,S,d,p,i,q,l,λv H1 mu1 e k t=>?_⟩;obtain⟨b,c⟩:=e.held j g;have put:Ext (a::mu1) (a::mu1) H1 (upd H1 a (.lst (vs++[v]))):=Ext.put b trivial mS1;refine⟨vs,b,s,?_⟩;exact hc σ _ mu1 (vs++[v]) (e.aside.trans put) d9 c (((n.ext e).append (.cons k .nil)).exw put.inner) ((i.ext e).exw put.inner) (t.aside put.inner c)
inductive KE (K:Fg1)(a:dF)(mu2:List dF)(H:Hp)(c:List (Nat×List D))(g:FG)(t:FT)(b:FV)(r':Ev)(S':Sto)(tot:List D)(L:List D)(σ':L2.St)(H':Hp):Prop
 |mk (r3:Ev) (mu3:List dF) (S3:Sto) (acc3:List D) (vs3:List V) (xs3:List D):Ext (a::mu2) (a::mu3) H H'->H' a=some (.lst vs3)->a∉mu3->d4 K H' mu3 acc3 vs3->fD K H' mu3 r3 σ'->Sim K H' mu3 S3->fM c g t b L r3 S3=some (xs3,r',S')->acc3++xs3=tot->vs3.length+xs3.length<=dM->KE K a mu2 H c g t b r' S' tot L σ' H'
theorem n6{K:Fg1}{a:dF}{j:It}{am:BR}{g:FG}{t:FT}{b:FV}{tb:TS}{D:i4}(hb:∀ E σ H,EQ K a b E σ H->tb E σ H){mu1 e:List dF}{H1 H:Hp}{r N:Ev}{S G:Sto}{σ:L2.St}{acc xs:List Mi.D}{vs:List V}(hJ:ItR K j am mu1 H1)(x:r9 mu1 e H1 H)(ha:H a=Z (.lst vs))(hna:a∉e)(hr:d4 K H e acc vs)(he:fD K H e r σ)(hs:Sim K H e S)(hm:fM am.chk g t b am.items r S=Z (xs,N,G))(hl:vs.length+xs.length<=dM)(hc:∀h H' mu' A,Ext (a::e) (a::mu') H H'->H' a=Z (.lst A)->a∉mu'->d4 K H' mu' (acc++xs) A->fD K H' mu' N h->Sim K H' mu' G->D.nx h H'):zl j (Ca K g) (xA K t) tb D σ H:=by
 refine⟨λi k h H'=>k=(am.items.drop i).length/\KE K a e H am.chk g t b N G (acc++xs) (am.items.drop i) h H',
  ⟨_,O,r,e,S,acc,vs,xs,.refl _ _,ha,hna,hr,he,hs,hm,O,hl⟩,?_⟩
 rintro i k P R ⟨rfl,r3,m,S3,f,vs3,W,ao,u,w,z,F,U,c,o,l⟩;cases hd0:am.items.drop i with
 |nil=>
  left;rw[hd0,fM]at c;dsimp only at c;split at c
  ·rename_i ok;cases c;refine⟨(hJ i R m _ (x.trans ao.inner) U ok).2 (List.drop_eq_nil_iff.mp hd0),hc P R m vs3 ao u w ?_ F U⟩;rw[<- o,aN];exact z
  ·cases c
 |cons d ds=>
  right;rw[hd0]at c;obtain⟨hi,hd⟩:=mF hd0;rw[fM]at c;dsimp only at c;split at c
  ·rename_i ok;obtain⟨⟨I,S4⟩,e4,c⟩:=oB1.mp c;obtain⟨⟨k5,S5⟩,e5,c⟩:=oB1.mp c;obtain⟨go,yl⟩:=(hJ i R m _ (x.trans ao.inner) U ok).1 d hi;refine⟨go,KE K a e H am.chk g t b N G (acc++xs) ds,?_,λy H4 yy=>?_⟩
   ·intro h H' h6;exact⟨ds.length,bD _,(congrArg List.length hd).symm,hd.symm ▸ h6⟩
   ·obtain⟨L,s4,q4⟩:=yl y H4 yy;obtain⟨ha4,T⟩:=L.held u w;refine⟨r3,m,S3,d,I,S4,F.ext L,s4,q4,e4,fun σ5 H5 mu5 Q p s5=>?_⟩;obtain⟨ha5,X⟩:=Q.held ha4 T;refine⟨I,mu5,S4,k5,S5,p,s5,e5,λH6 q C s6=>?_⟩;obtain⟨s,B⟩:=C.held ha5 X;have xx:=((ao.trans L.aside).trans Q.aside).trans C.aside;have n:d4 K H6 q f vs3:=((z.ext L).ext Q).ext C;cases k5 with
    |true=>
     obtain⟨⟨q1,r7,S7⟩,e7,c⟩:=oB1.mp c;obtain⟨⟨z1,r8,S8⟩,e8,c⟩:=oM1.mp c;cases c;refine hb _ _ _ ⟨I,q,S5,f,vs3,q1,r7,S7,s,B,n,p.ext C,s6,e7,?_,fun σ8 H8 aq au x8 ha8 wq v he8 s8=>⟨r7,aq,S7,f++q1,au,z1,xx.trans x8,ha8,wq,v,he8,s8,e8,?_,?_⟩⟩
     ·rw[lA1]at l;dsimp only at l;lia
     ·rw[<- o,bH]
     ·have:=v.length;have h3:=n.length;rw[lA1]at this l;dsimp only at l;lia
    |false=>exact⟨I,q,S5,f,vs3,W,xx,s,B,n,p.ext C,s6,c,o,l⟩
  ·cases c
theorem Ae{K:Fg1}{a:dF}{m:FI}{g:FG}{t:FT}{b:FV}{tb:TS}(hb:∀E σ H,EQ K a b E σ H->tb E σ H){E:i4}{σ:L2.St}{H:Hp}(h:EQ K a (A3 m g t b) E σ H):zk (HK K m) (Ca K g) (xA K t) tb E σ H:=by
 obtain⟨r,mu,S,z,vs,xs,A,B,v,e,o,n,x,l,s,hc⟩:=h;obtain⟨⟨am,p⟩,u,l⟩:=oB1.mp l;refine⟨r,mu,S,am,p,n,x,u,λj H1 mu1 c w y=>?_⟩;obtain⟨d,k⟩:=c.held v e;exact n6 hb w (Ext.refl _ _).w d k (o.ext c) (n.ext c) y l s λf H' mu' i q=>hc f H' mu' i (c.aside.trans q)
theorem oA{K:Fg1}{k:Nat}{keep:List Nat}{m:FI}{g:FG}{t:FT}{b:FV}{tb:dF->TS}(hb:∀ a E σ H,EQ K a b E σ H->tb a E σ H){σ:L2.St}{H:Hp}{Q:VK}(h:tM K (eW k keep m g t b) σ H Q):
  vW k keep (HK K m) (Ca K g) (xA K t) tb σ H Q:=by
 obtain⟨r,mu,S,d,aq,ao,X,f,hc⟩:=h;obtain⟨⟨am,au⟩,V,f⟩:=oB1.mp f;obtain⟨⟨xs,r2,F⟩,P,f⟩:=oB1.mp f;dsimp only at f;split at f
 ·rename_i R;cases f;refine ⟨r,mu,S,am,au,ao,X,V,fun j H1 mu1 I W N p i=>?_⟩;have w:Ext mu1 mu1 H1 (upd H1 p (.lst [])):=Ext.fresh i;refine n6 (hb p) W w.w d9 (N.notin i) .nil ((Eh k keep (ao.ext I)).ext w) (N.fresh i) P (by simpa using R) fun T H' mu' s l x C A U s'=>?_;have y:Ext mu1 (mu'++[p]) H1 H':=by
   refine⟨((bW.mp l.pre).2).trans (bv _ _),λb o e n=>?_,λb ys e=>l.tup b ys (w.tup b ys e),λb o u e=>l.frz b o u (w.frz b o u e),λb B=>?_⟩
   ·have L:b≠p:=eD e i;exact l.old b o (by rw [dZ L];exact e) fun z=>by
     rcases aF.mp z with z|z
     ·exact L z
     ·exact n z
   ·rcases aG.mp B with z|z
    ·rcases l.new b (mC1 _ z)with q|q
     ·rcases aF.mp q with q|q
      ·exact .inr (by rw[q];exact i)
      ·exact .inl q
     ·by_cases v:b=p
      ·exact .inr (by rw[v];exact i)
      ·rw[dZ v]at q;exact .inr q
    ·have:b=p:=by simpa using z
     exact .inr (by rw[this];exact i)
  refine hc _ H' (mu'++[p]) (I.trans y) (.ref (fS s'.len p)) ⟨by rw[lA1,lA1,s'.len];rfl,?_,λn o b h1 h2=>?_⟩
  ·rw[bA];refine⟨s'.nd,by simp,λb hb c hc e=>?_⟩;have:c=p:=by simpa using hc
   subst this;subst e;exact C hb
  ·by_cases G:n<F.length
   ·rw[gL1 G]at h1;rw[gL1 (by rw[s'.len];exact G)]at h2;exact(s'.ob n o b h1 h2).mor [p]
   ·have D:n=F.length:=by
     have:=(gE1.mp h1).1;rw[lA1]at this;simp at this;lia
    subst D;rw[gR1 (nR1 _)]at h1;rw[<- s'.len,gR1 (nR1 _)]at h2;simp at h1 h2;subst h1;subst h2;exact⟨s,x,(by simpa using A:d4 K H' mu' xs s).mor [p]⟩
 ·cases f
section
variable{X:Cx}
theorem qZ{elt tg iter:Expr}{ifs:List Expr}{scope:dU}{pos:Pos}{T:List Str}{keep:List Nat}{i:List (Str×dF)}{m:FI}{g:FG}{t:FT}{e:FE}(hc:X.calm=M)(C:Hn X scope T keep)(c:i0 X.env.cells scope.names []=Z i)(hi:XI X tg iter m)(hb:∀s H b,JL (cxC X scope i T keep s H b) X.K tg ifs elt g t e)(hs:∀x,foldedSetIterable iter X.env x=pure x:=by intro _;rfl):XE X (.ListComp elt [⟨tg,iter,ifs,0⟩] scope pos) (eW T.length keep m g t (eG e)):=
 ⟨eV (wg (emit:=mE elt) (tb:=λp=>px p (tM X.K e)) hc (λit f d=>uH elt tg iter ifs scope pos it f d) C c hi.h (λs H b p=>⟨(hb s H b).g.h,(hb s H b).t.h,m6 (hb s H b).e.h p⟩) hs)
  fun σ H Q h=>oA (λa E σ H q=>lm q) h⟩
theorem lH{elt tg iter:Expr}{ifs:List Expr}{scope:dU}{pos b l:Pos}{y:Str}(i:Nat){T:List Str}{keep:List Nat}{n:List (Str×dF)}{m:FI}{g:FG}{t:FT}{e:FE}(hc:X.calm=M)(C:Hn X scope T keep)(d:i0 X.env.cells scope.names []=Z n)(hi:XI X tg iter m)(hb:∀s H c,JL (cxC X scope n T keep s H c) X.K tg ifs elt g t e)(hN:X.N.Nodup)(hy:X.N[i]?=Z y)(hx:yO X.env.scope y)(f:swapsWith (.ListComp elt [⟨tg,iter,ifs,0⟩] scope pos) (Z (.Name y l)) b.line X.env=pure M:=by rfl)(hf:X.fn y=M\/X.env.scope.names.lookup y=Z .local:=by first|exact .inl rfl|exact .inr rfl|assumption)(hs:∀x,foldedSetIterable iter X.env x=pure x:=by intro _;rfl):XS X (.Assign [.Name y l] (.ListComp elt [⟨tg,iter,ifs,0⟩] scope pos) b) (eE (eW T.length keep m g t (eG e)) (gN i)):=
 ⟨ie (wb (emit:=mE elt) (tb:=λp=>px p (tM X.K e)) hc f (λit k j=>uH elt tg iter ifs scope pos it k j) C d hi.h (λs H c p=>⟨(hb s H c).g.h,(hb s H c).t.h,m6 (hb s H c).e.h p⟩) hN hy hx hf hs)
  λE σ H h=>Bw (fun σ H Q q=>oA (λa E σ H q=>lm q) q) h⟩
theorem xu{elt tg iter tg2 iter2:Expr}{ifs ifs2:List Expr}{scope:dU}{pos c r:Pos}{y:Str}(i:Nat){T:List Str}{keep:List Nat}{n:List (Str×dF)}{m m2:FI}{g f:FG}{t j:FT}{e:FE}(hc:X.calm=true)(C:Hn X scope T keep)(k:i0 X.env.cells scope.names []=some n)(hi:XI X tg iter m)(hb:∀s H b,LI (cxC X scope n T keep s H b) X.K tg ifs tg2 iter2 ifs2 elt g t m2 f j e)(hN:X.N.Nodup)(hy:X.N[i]?=some y)(hx:yO X.env.scope y)(l:swapsWith (.ListComp elt [⟨tg,iter,ifs,0⟩,⟨tg2,iter2,ifs2,0⟩] scope pos) (some (.Name y r)) c.line X.env=pure true:=by rfl)(hf:X.fn y=true\/X.env.scope.names.lookup y=some .local:=by first|exact .inl rfl|exact .inr rfl|assumption)(hs:∀x,foldedSetIterable iter X.env x=pure x:=by intro _;rfl)(hs2:∀d x,foldedSetIterable iter2 d x=pure x:=by intro _ _;rfl):
  XS X (.Assign [.Name y r] (.ListComp elt [⟨tg,iter,ifs,0⟩,⟨tg2,iter2,ifs2,0⟩] scope pos) c) (eE (eW T.length keep m g t (A3 m2 f j (eG e))) (gN i)):=
 ⟨ie (wb (emit:=qh (.ListComp elt [⟨tg,iter,ifs,0⟩,⟨tg2,iter2,ifs2,0⟩] scope pos) iter2) (tb:=fun p=>zk (HK X.K m2) (Ca X.K f) (xA X.K j) (px p (tM X.K e))) hc l (fun it o d=>EI elt tg iter tg2 iter2 ifs ifs2 scope pos it o d) C k hi.h
   (λs H b p=>⟨(hb s H b).g.h,(hb s H b).t.h,Cp (X:=cxC X scope n T keep s H b) O hc (hb s H b).i2.h (hb s H b).g2.h (hb s H b).t2.h (m6 (hb s H b).e.h p) (hs2 _)⟩) hN hy hx hf hs)
  λE σ H h=>Bw (fun σ H Q q=>oA (λa E σ H q=>Ae (λ_ _ _ z=>lm z) q) q) h⟩
end
noncomputable def tz:D->Option Key
 | .int i=>Z (.inl i)
 | .str x=>Z (.inr x)
 |_=>Y
noncomputable def d3{κ:Type}[DecidableEq κ](kvs:List (κ×D))(k:κ):Option D:=(kvs.find? λp=>decide (p.1=k)).map (·.2)
noncomputable def fm{κ:Type}[DecidableEq κ](kvs:List (κ×D))(k:κ)(d:D):List (κ×D):=
 if(kvs.any λp=>decide (p.1=k))=M then kvs.map (λp=>if p.1=k then(p.1,d)else p)else kvs++[(k,d)]
section
variable{K:Fg1}{H:Hp}{mu:List dF}
theorem k8{d:D}{v:V}{k:Key}(r:eK K H mu d v)(h:tz d=Z k):v=kV k:=by
 cases r with
 |int i=>cases h;rfl
 |str x=>cases h;rfl
 |_=>cases h
end
section
variable{κ:Type} [DecidableEq κ] {K:Fg1}{H:Hp}{mu:List dF}
theorem KR.length:∀{ks:List (κ×D)} {ws:List (κ×V)},KR K H mu ks ws->ks.length=ws.length:=λh=>Paired.length h
theorem KR.look{k:κ}:∀ {ks:List (κ×D)} {ws:List (κ×V)},KR K H mu ks ws ->
  (∀d,d3 ks k=Z d -> ∃v,iJ ws k=Z v/\eK K H mu d v)/\(d3 ks k=Y->iJ ws k=Y):=by
 intro ks ws h
 induction h with
 |nil=>exact⟨λd h=>by simp[d3]at h,λ_=>rfl⟩
 | @cons p q ks ws r t ih=>
  obtain⟨a,f⟩:=p;obtain⟨j,c⟩:=q;obtain⟨e,r⟩:=r;dsimp only at e r;subst e;obtain⟨h1,h2⟩:=ih;by_cases b:a=k
  ·subst b;refine⟨λd h=>?_,λh=>?_⟩
   ·have:f=d:=by simpa[d3]using h
    subst this;exact⟨c,by simp[iJ],r⟩
   ·simp[d3]at h
  ·have g:d3 ((a,f)::ks) k=d3 ks k:=by simp[d3,bc,b]
   have i:iJ ((a,c)::ws) k=iJ ws k:=by simp[iJ,bc,b]
   rw[g,i];exact⟨h1,h2⟩
theorem KR.any{k:κ}:∀{ks:List (κ×D)} {ws:List (κ×V)},KR K H mu ks ws->(ks.any λp=>decide (p.1=k))=ws.any λp=>decide (p.1=k):=by
 intro ks ws h
 induction h with
 |nil=>rfl
 |cons r t ih=>rw[bd,bd,ih,r.1]
theorem KR.repl{k:κ}{d:D}{v:V}(q:eK K H mu d v):∀ {ks:List (κ×D)} {ws:List (κ×V)},KR K H mu ks ws ->
  KR K H mu (ks.map λp=>if p.1=k then(p.1,d)else p) (ws.map λp=>if p.1=k then(p.1,v)else p):=by
 intro ks ws h
 induction h with
 |nil=>exact .nil
 | @cons a b ks ws r t ih=>
  refine .cons ?_ ih;obtain⟨e,r⟩:=r;dsimp only;by_cases h:a.1=k
  ·rw[ak h,ak (e ▸ h)];exact⟨e,q⟩
  ·rw[aj h,aj (e ▸ h)];exact⟨e,r⟩
theorem KR.snoc{k:κ}{d:D}{v:V}(q:eK K H mu d v):∀{ks:List (κ×D)} {ws:List (κ×V)},KR K H mu ks ws->KR K H mu (ks++[(k,d)]) (ws++[(k,v)]):=by
 intro ks ws h
 induction h with
 |nil=>exact .cons ⟨O,q⟩ .nil
 |cons r t ih=>exact .cons r ih
theorem KR.put{k:κ}{d:D}{v:V}(q:eK K H mu d v){ks:List (κ×D)}{ws:List (κ×V)}(h:KR K H mu ks ws):KR K H mu (fm ks k d) (iw ws k v):=by
 unfold fm iw;rw[h.any];split
 ·exact h.repl q
 ·exact h.snoc q
end
noncomputable def vm:G2:=λd e S=>match e with
 | .ref n=>match S[n]? with
  |some (.dct kvs)=>(tz d).map λk=>(.bl (d3 kvs k).isSome,S)
  |_=>Hs d e S
 |_=>Hs d e S
noncomputable def jK:G2:=λd e S=>match e with
 | .ref n=>match S[n]? with
  |some (.dct kvs)=>(tz d).map λk=>(.bl (!(d3 kvs k).isSome),S)
  |_=>ot d e S
 |_=>ot d e S
noncomputable def mQ:G2:=λd e S=>match d with
 | .ref n=>match S[n]? with
  |some (.dct kvs)=>(tz e).bind λk=>(d3 kvs k).map λx=>(x,S)
  |_=>BP d e S
 |_=>BP d e S
noncomputable def mD:G3:=λo i v S=>match o with
 | .ref n=>match S[n]? with
  |some (.dct kvs)=>(tz i).bind λk=>if kvs.length<dM then Z (.non,S.set n (.dct (fm kvs k v)))else Y
  |_=>ke o i v S
 |_=>ke o i v S
section
variable{X:Cx}
theorem oe{K:Fg1}{H:Hp}{mu:List dF}{S:Sto}(hs:Sim K H mu S){n:Nat}{a:dF}{kvs:List (Key×D)}{k:Key}{y:V}(hn:mu[n]? = some a)(he:S[n]? = some (.dct kvs))(hy:y=kV k):
  ∃o:Option V,pf H a y o/\(∀d,d3 kvs k=Z d -> ∃v,o=Z v/\eK K H mu d v)/\(d3 kvs k=Y->o=Y)/\o.isSome=(d3 kvs k).isSome:=by
 obtain⟨ws,c,f⟩:=hs.dct he hn;subst hy;obtain⟨h1,h2⟩:=f.look (k:=k);refine⟨iJ ws k,pf.k c,h1,h2,?_⟩;cases e:d3 kvs k with
 |none=>rw[h2 e];rfl
 |some d=>obtain⟨v,b,_⟩:=h1 d e;rw[b];rfl
theorem Iq(t:X.A.units+64<cLine):fX X (compareOp .In) (r2 X.K (b2 vm)):=by
 intro ag s σ H x y u w Q I l i h;obtain⟨mu,S,d,e,r,j,f,b,c,a,hc⟩:=pE h;have back:Hs d e S=Z (r,j)->dN (model X.prog X.w) X.A (compareOp .In u w) (EP X ag σ Q) X.xe s:=λa=>Ki t ag s σ H x y u w Q I l i ⟨mu,S,[d,e],r,j,.cons f (.cons b .nil),c,a,hc⟩;unfold vm at a;split at a
 ·rename_i n;split at a
  ·rename_i kvs q;obtain⟨k,p,a⟩:=oM1.mp a;cases a;cases b with
   |ref m=>
    cases i;obtain⟨o,g,_,_,hi⟩:=oe c m q (k8 f p);exact Ku (by lia) I g l λs' v=>⟨.bl o.isSome,H,v,O,by rw[hi];exact hc.now (.bl _) c⟩
  ·exact back a
 ·exact back a
theorem z4(t:X.A.units+64<cLine):fX X (compareOp .NotIn) (r2 X.K (b2 jK)):=by
 intro ag s σ H x y u w Q I l i h;obtain⟨mu,S,d,e,r,j,f,b,c,a,hc⟩:=pE h;have back:ot d e S=Z (r,j)->dN (model X.prog X.w) X.A (compareOp .NotIn u w) (EP X ag σ Q) X.xe s:=λa=>CN t ag s σ H x y u w Q I l i ⟨mu,S,[d,e],r,j,.cons f (.cons b .nil),c,a,hc⟩;unfold jK at a;split at a
 ·rename_i n;split at a
  ·rename_i kvs q;obtain⟨k,p,a⟩:=oM1.mp a;cases a;cases b with
   |ref m=>
    cases i;obtain⟨o,g,_,_,hi⟩:=oe c m q (k8 f p);exact DM (by lia) I g l λs' v=>⟨.bl (!o.isSome),H,v,O,by rw[hi];exact hc.now (.bl _) c⟩
  ·exact back a
 ·exact back a
theorem Hv(P:X.A.units+64<cLine):Ex X (r2 X.K (b2 mQ)):=by
 intro value b ag s σ H x y v u Q I t A h l;obtain⟨mu,S,d,e,r,B,w,m,q,c,hc⟩:=pE h;have back:BP d e S=Z (r,B)->dN (model X.prog X.w) X.A (subscriptTail value b v u) (EP X ag σ Q) X.xe s:=λc=>JN value b ag s σ H x y v u Q I t A ⟨mu,S,[d,e],r,B,.cons w (.cons m .nil),q,c,hc⟩ l;unfold mQ at c;split at c
 ·rename_i n;split at c
  ·rename_i kvs F;obtain⟨k,au,c⟩:=oB1.mp c;obtain⟨z,K,c⟩:=oM1.mp c;cases c;cases w with
   | @ref _ a ao=>
    cases t;obtain⟨o,g,h1,_,_⟩:=oe q ao F (k8 m au);obtain⟨G,L,N⟩:=h1 _ K;subst L;have C:=tX I g;unfold subscriptTail;refine wB1 ?_;rw[getitemInPython_of_ne C.not_modules];refine wB1 (wpAny_specialOf C PySem.F.slot_dict_getitem.lookup ?_);have i:dN (model X.prog X.w) X.A (subscripted b J (.ref a) u) (λr f=>dN (model X.prog X.w) X.A (letTemporaryGo value (.ref a) r >>= λ_=>pure r) (EP X ag σ Q) X.xe f) X.xe s:=by
     rw[l];exact wpAny_operating (wpAny_mono (yB (by lia) I g A λD am E p=>(⟨G,H,E,p,hc.now N q⟩:EP X ag σ Q D am)) (λr f j=>wB1 (wpAny_letTemporaryGo (wP1 j))) λ_ _ x=>x)
    first
     |exact wP1 (wB1 i)
     |exact wB1 i
     |exact i
  ·exact back c
 ·exact back c
theorem E2(L:X.A.units+64<cLine):vL X (rU X.K (b3 mD)):=by
 intro ag s σ H o i v g f u Q I p y t h;obtain⟨mu,S,ds,d,m,A,e,a,hc⟩:=id h;cases A with
 |cons x B=>cases B with
  |cons r F=>cases F with
   |cons z K=>
    cases K;rename_i j w q;dsimp only[b3]at a;have back:ke j w q S=Z (d,m)->dN (model X.prog X.w) X.A (setItem g f u) (λ_ s'=>∃H',Inv X ag σ H' s'/\Q H') X.xe s:=λa=>HV ag s σ H o i v g f u Q I p y t ⟨mu,S,[j,w,q],d,m,.cons x (.cons r (.cons z .nil)),e,a,hc⟩;unfold mD at a;split at a
    ·rename_i n;split at a
     ·rename_i kvs C;obtain⟨k,am,a⟩:=oB1.mp a;split at a
      ·rename_i E;cases a;cases x with
       |ref c=>
        cases p;obtain⟨ws,b,l⟩:=e.dct C c;have G:=k8 r am;subst G;refine yA (by lia) I (yQ.k b (by rw[<- l.length];exact E)) y t λs' D=>⟨_,D,?_⟩;have put:Ext mu mu H (upd H _ (.dK (iw ws k v))):=Ext.put b trivial (gM1 c);exact hc _ mu put (e.put c b trivial ⟨_,d9,(l.put z).ext put⟩)
      ·cases a
     ·exact back a
    ·exact back a
noncomputable def GP:G2:=λd e S=>match e with
 | .non=>Z (.bl (p8 d),S)
 | .bl b=>match d with
  | .bl c=>Z (.bl (c == b),S)
  |_=>Y
 |_=>Y
noncomputable def gG:G2:=λd e S=>match e with
 | .non=>Z (.bl (!p8 d),S)
 | .bl b=>match d with
  | .bl c=>Z (.bl (!(c == b)),S)
  |_=>Y
 |_=>Y
theorem Ed:fX X (compareOp .Is) (r2 X.K (b2 GP)):=by
 intro ag s σ H x y u w Q I k i h;obtain⟨mu,S,d,e,r,l,g,a,j,f,hc⟩:=pE h;cases e with
 |non=>exact Ip ag s σ H x y u w Q I k i ⟨mu,S,[d,.non],r,l,.cons g (.cons a .nil),j,f,hc⟩
 |bl b=>
  cases d with
  |bl c=>
   cases f;cases g;cases a;cases k;cases i;exact is_bool ⟨.bl (c == b),H,I,O,hc.now (.bl _) j⟩
  |_=>cases f
 |_=>cases f
theorem kY:fX X (compareOp .IsNot) (r2 X.K (b2 gG)):=by
 intro ag s σ H x y u w Q I k i h;obtain⟨mu,S,d,e,r,l,g,a,j,f,hc⟩:=pE h;cases e with
 |non=>exact FX ag s σ H x y u w Q I k i ⟨mu,S,[d,.non],r,l,.cons g (.cons a .nil),j,f,hc⟩
 |bl b=>
  cases d with
  |bl c=>
   cases f;cases g;cases a;cases k;cases i;exact isnot_bool ⟨.bl (!(c == b)),H,I,O,hc.now (.bl _) j⟩
  |_=>cases f
 |_=>cases f
noncomputable def Az:FE:=λ_ S=>Z (.ref S.length,S++[.dct []])
theorem yY{pos:Pos}:XE X (.Dict [] [] pos) Az:=⟨eV zT <| by
 rintro σ H Q ⟨r,mu,S,d,e,f,b,c,hc⟩ p a;cases c;exact hc _ _ (mu++[p]) (Ext.new_ a) (.ref (fS b.len p)) (b.new a ⟨[],d9,.nil⟩)⟩
noncomputable def Da:List (FE×FE)->Ev->Sto->Option (List (D×D)×Sto)
 |[],_,S=>Z ([],S)
 |(a,b)::l,r,S=>(a r S).bind λp=>(b r p.2).bind λq=>(Da l r q.2).map λt=>((p.1,q.1)::t.1,t.2)
noncomputable def wJ:List (D×D)->Option (List (Key×D))
 |[]=>Z []
 |(k,d)::l=>(tz k).bind λk=>(wJ l).map λt=>(k,d)::t
noncomputable def wy(l:List (FE×FE)):FE:=λr S=>(Da l r S).bind λp=>(wJ p.1).bind λkvs=>if kvs.length<=15 then Z (.ref p.2.length,p.2++[.dct (kvs.foldl (λacc kv=>fm acc kv.1 kv.2) [])])else Y
structure XP (X:Cx)(pos:Pos)(ks:List (Option Expr))(vs:List Expr)(l:List (FE×FE)):Prop where
 h:Jm X pos ks vs (l.map λp=>(tM X.K p.1,tM X.K p.2))
theorem BW{pos:Pos}:XP X pos [] [] []:=⟨Cv⟩
theorem kr{pos:Pos}{k v:Expr}{ks:List (Option Expr)}{vs:List Expr}{a b:FE}{l:List (FE×FE)}(hk:XE X k a)(hv:XE X v b)(t:XP X pos ks vs l):XP X pos (Z k::ks) (v::vs) ((a,b)::l):=⟨zJ hk.h hv.h t.h⟩
theorem zI{K:Fg1}{σ:L2.St}:∀ {l:List (FE×FE)} {r:Ev} {mu:List dF} {H:Hp} {S e:Sto} {ps:List (D×D)} {Q:List (V×V)->Hp->Prop},fD K H mu r σ->Sim K H mu S->Da l r S=some (ps,e) ->
  (∀vs H' mu',Ext mu mu' H H'->Paired (λ(p:D×D) (q:V×V)=>eK K H' mu' p.1 q.1/\eK K H' mu' p.2 q.2) ps vs->Sim K H' mu' e->Q vs H')->qL (l.map λp=>(tM K p.1,tM K p.2)) σ H Q
 |[],r,mu,H,S,e,ps,Q,he,hs,c,hc=>by cases c;exact hc [] H mu (.refl _ _) .nil hs
 |(a,b)::l,r,mu,H,S,e,ps,Q,he,hs,c,hc=>by
  obtain⟨⟨d,j⟩,y,c⟩:=oB1.mp c;obtain⟨⟨z,k⟩,s,c⟩:=oB1.mp c;obtain⟨⟨t,C⟩,u,c⟩:=oM1.mp c;cases c;refine⟨r,mu,S,d,j,he,hs,y,λv H1 mu1 g n A=>⟨r,mu1,j,z,k,he.ext g,A,s,λE H2 x f r2 w=>?_⟩⟩;refine zI ((he.ext g).ext f) w u λvs m i h B o=>hc _ m i ((g.trans f).trans h) (.cons ⟨(n.ext f).ext h,r2.ext h⟩ B) o
theorem AH{K:Fg1}{H:Hp}{mu:List dF}:∀ {ps:List (D×D)} {vs:List (V×V)} {kvs:List (Key×D)},Paired (fun (p:D×D) (q:V×V)=>eK K H mu p.1 q.1/\eK K H mu p.2 q.2) ps vs->wJ ps=some kvs ->
  ∃ws:List (Key×V),vs=ws.map (λc=>(kV c.1,c.2))/\KR K H mu kvs ws:=by
 intro ps vs kvs i h
 induction i generalizing kvs with
 |nil=>cases h;exact⟨[],O,.nil⟩
 | @cons a b ps vs q t ih=>
  obtain⟨k,d⟩:=a;obtain⟨m,l⟩:=b;obtain⟨g,j,h⟩:=oB1.mp h;obtain⟨rest,f,h⟩:=oM1.mp h;cases h;obtain⟨ws,e,r⟩:=ih f;have:=k8 q.1 j;dsimp only at this;subst this;exact⟨(g,l)::ws,by rw[mP1,<- e],.cons ⟨O,q.2⟩ r⟩
theorem Aq{K:Fg1}{H:Hp}{mu:List dF}:∀{kvs:List (Key×D)} {ws:List (Key×V)} {acc:List (Key×D)} {acw:List (Key×V)},KR K H mu kvs ws->KR K H mu acc acw->KR K H mu (kvs.foldl (λacc c=>fm acc c.1 c.2) acc) (iR acw ws):=by
 intro kvs ws acc acw f h
 induction f generalizing acc acw with
 |nil=>exact h
 | @cons a b kvs ws r t ih=>
  obtain⟨k,d⟩:=a;obtain⟨g,v⟩:=b;obtain⟨e,r⟩:=r;dsimp only at e r;subst e;show KR K H mu (kvs.foldl _ (fm acc k d)) (iR (iw acw k v) ws);exact ih (h.put r)
theorem yZ{pos:Pos}{ks:List (Option Expr)}{vs:List Expr}{l:List (FE×FE)}(h:XP X pos ks vs l)(s:ks.all (·.isSome)=M:=by rfl)(ao:ks.length=vs.length:=by rfl)(h0:ks≠[]:=by(intro z;cases z))(B:ks.length<=15:=by decide):XE X (.Dict ks vs pos) (wy l):=
 ⟨eV (CD h.h s ao h0 B) <| by
  rintro σ H Q ⟨r,mu,S,d,R,P,G,f,hc⟩ p g;obtain⟨⟨ps,D⟩,N,f⟩:=oB1.mp f;obtain⟨kvs,K,f⟩:=oB1.mp f;dsimp only at f;split at f
  ·rename_i v;cases f;have x:Ext mu mu H (upd H p (.dK [])):=Ext.fresh g;refine zI (P.ext x) (G.fresh g) N fun vs H1 mu1 i au j=>?_;obtain ⟨k,m⟩:=i.held (a:=p) (o:=.dK []) d9 (G.notin g);obtain ⟨ws,I,rk⟩:=AH au K;refine ⟨k,ws,I,by rw [<- rk.length];exact v,?_⟩;have put:Ext (p::mu1) (p::mu1) H1 (upd H1 p (.dK (iR [] ws))):=Ext.put k trivial mS1;have L:=j.aside put.inner m;have y:Ext mu (mu1++[p]) H (upd H1 p (.dK (iR [] ws))):=by
    refine⟨i.pre.trans (bv _ _),λb o e n=>?_,λb ys e=>put.tup b ys (i.tup b ys (x.tup b ys e)),λb o u e=>put.frz b o u (i.frz b o u (x.frz b o u e)),λb A=>?_⟩
    ·have F:b≠p:=eD e g;rw[dZ F];exact i.old b o (by rw[dZ F];exact e) n
    ·rcases aG.mp A with z|z
     ·rcases i.new b z with q|q
      ·exact .inl q
      ·by_cases t:b=p
       ·exact .inr (by rw[t];exact g)
       ·rw[dZ t]at q;exact .inr q
     ·have:b=p:=by simpa using z
      exact .inr (by rw[this];exact g)
   have w:=Aq rk (acc:=[]) (acw:=[]) .nil;refine hc _ _ (mu1++[p]) y (.ref (fS j.len p)) ⟨by rw[lA1,lA1,j.len];rfl,?_,λn o b h1 h2=>?_⟩
   ·rw[bA];refine⟨j.nd,by simp,λb am c hc e=>?_⟩;have:c=p:=by simpa using hc
    subst this;subst e;exact m am
   ·by_cases E:n<D.length
    ·rw[gL1 E]at h1;rw[gL1 (by rw[j.len];exact E)]at h2;exact(L.ob n o b h1 h2).mor [p]
    ·have C:n=D.length:=by
      have:=(gE1.mp h1).1;rw[lA1]at this;simp at this;lia
     subst C;rw[gR1 (nR1 _)]at h1;rw[<- j.len,gR1 (nR1 _)]at h2;simp at h1 h2;subst h1;subst h2;exact⟨_,d9,KR.mor [p] (Paired.mapP w λ_ _ z=>⟨z.1,z.2.exw put.inner⟩)⟩
  ·cases f⟩
end
section
variable{K:Fg1}{H H':Hp}{mu mu':List dF}{S:Sto}
end
theorem mZ{X:Cx}(i j:Nat){x y:Str}{a b:Expr}{m:FA}{l n pt pos:Pos}{kt k2 pt2}(hc:X.calm=true)(hN:X.N.Nodup)(hi:X.N[i]? = some x)(t:X.N[j]? = some y)(k:i≠j)(hx:X.env.scope.names.lookup x=some .local)(hy:X.env.scope.names.lookup y=some .local)(ha:XA X [a,b] m)(hw:swappedStores [.Tuple [.Name x l,.Name y n] kt pt] (.Tuple [a,b] k2 pt2) X.env=pure (some [x,y]):=by rfl)(hs:swapsWithSole [.Tuple [.Name x l,.Name y n] kt pt] (.Tuple [a,b] k2 pt2) pos.line X.env=pure false:=by rfl):
  XS X (.Assign [.Tuple [.Name x l,.Name y n] kt pt] (.Tuple [a,b] k2 pt2) pos) (eE (eS m) (gT 2 (gj (gN i) (gj (gN j) lG)))):=
 ⟨ie (Fj hc hN hi t k hx hy ha.h hw hs) <| by
  rintro E σ H ⟨r,mu,S,f,C,A,p,hs,h,hc⟩;obtain⟨⟨d,z⟩,e,h⟩:=oB1.mp h;obtain⟨⟨r2,w⟩,c,h⟩:=oB1.mp h;cases h;obtain⟨⟨ds,B⟩,q,e⟩:=oB1.mp e;dsimp only at e;split at e
  ·cases e;refine⟨r,mu,S,ds,_,p,hs,q,λvs H1 mu1 o g v=>?_⟩;dsimp only at c;rw[gT]at c;split at c
   ·cases g with
    |nil=>cases c
    |cons u g=>cases g with
     |nil=>cases c
     |cons s g=>cases g with
      |nil=>
       cases c;exact⟨_,_,O,hc _ H1 mu1 o (((p.ext o).set u).set s) v⟩
      |cons _ _=>cases c
   ·cases c
  ·cases e⟩
end Mi
namespace HT
open PySem PySem.Spec PyProof.Rows
variable{prog:dG}{w:dI}{A:dH}{E:dD->dE->Prop}{s:dE}
theorem jO{t sl:dF}{items:Array dD}{e vu:dD}{lo hi:Option Int}{Q:dD->dE->Prop}(ht:IsTup s.heap t items)(hs:s.heap.IsSliceOf sl e vu .none)(pl:IsPart e lo)(g:IsPart vu hi)(hw:sIx items.size 0 lo=0/\sIx items.size items.size hi=items.size)(h:Q (.ref t) s):dN (model prog w) A (getItem (.ref t) (.ref sl)) Q E s:=by
 obtain⟨f,c,b,i⟩:=id hs;have d:s.TypeIs (.ref sl) "slice":=⟨f,c,b⟩;unfold getItem
 try with_reducible refine wpAny_holding ?_
 first|refine wB1 (wP1 ?_)|skip
 refine wB1 (wpAny_sequenceKey ht.typeIs (by decide) ?_);refine wB1 (wpAny_callSpecial?_slot (name:=Str.ofString "__getitem__") ht.typeIs PyProof.Rows.slot_tuple_getitem
  (wE1 PyProof.Rows.slot_tuple_getitem ht.typeIs entry_tuple_getitem ?_ (args_tuple_getitem _ _)))
 show dN _ _ (Builtin.Tuple.tupleItemsOf (.ref t) >>= _) _ _ s;refine wB1 (tupleItemsOf_ ht ?_);refine wB1 (wpAny_typeOf d ?_);rw[ak (by decide)];refine wB1 (iq hs pl g ?_);have a:((((sIx items.size 0 lo:Nat):Int) == 0&&(1:Int) == 1&&(sIx items.size items.size hi-sIx items.size 0 lo) == items.size)=M):=by
  rw[hw.1,hw.2];simp
 show dN _ _ (if(((sIx items.size 0 lo:Nat):Int) == 0&&(1:Int) == 1&&(sIx items.size items.size hi-sIx items.size 0 lo) == items.size)=M then _ else _) _ _ s;rw[ak a];refine wB1 ?_;unfold Builtin.Tuple.tupleIsExact;refine wB1 (wpAny_typeOf ht.typeIs (wP1 ?_));rw[ak (by decide)]
 first
  |exact wB1 (wpAny_rule (wP1 ⟨_,rfl,wP1 h⟩))
  |exact wB1 (wpAny_rule (wB1 (wP1 ⟨_,rfl,wP1 h⟩)))
end HT
namespace Mi
open PySem PySem.Spec PyProof.Rows L2
def Ka(K:Fg1):V->Option Int->Option Int->Hp->VK->Prop:=λx lo hi H Q=>∃a xs,x = .ref a/\j6 K H a xs/\(HT.sIx xs.length 0 lo=0/\HT.sIx xs.length xs.length hi=xs.length)/\Q (.ref a) H
section
variable{X:Cx}
theorem Cd:BQ X (Ka X.K):=by
 intro ag s σ H x v l vu lo hi m Q I i f pl g h;obtain⟨a,xs,rfl,j,e,q⟩:=h;cases i;obtain⟨c,r,d,k⟩:=I.tuple j;have b:c.toArray.size=xs.length:=by rw[sT1];exact r.length.symm
 refine⟨"tuple",_,PyProof.Rows.slot_tuple_getitem.lookup,d.typeIs,?_⟩;exact HT.jO d f pl g (by rw[b];exact e) ⟨.ref a,H,I,O,q⟩
noncomputable def EW(S:Sto)(d:D)(lo hi:Option Int):Option (D×Sto):=(d5 S d).map λp=>if p.1=M then(.ref S.length,S++[.lst (Mi.yD p.2 lo hi)])else(.tup (Mi.yD p.2 lo hi),S)
noncomputable def Av(m:FE)(lo hi:FO):FE:=λr S=>(m r S).bind λp=>(lo r p.2).bind λa=>(hi r a.2).bind λb=>EW b.2 p.1 a.1 b.1
theorem yC{xs:List D}{lo hi:Option Int}(h:HT.sIx xs.length 0 lo=0/\HT.sIx xs.length xs.length hi=xs.length):Mi.yD xs lo hi=xs:=by
 unfold Mi.yD;rw[h.1,h.2,bX,Nat.sub_zero,bY]
theorem nt{e:Expr}{lo hi:Option Expr}{m:FE}{a b:FO}{pos p2:Pos}(h:XE X e m)(K:XO X lo a)(C:XO X hi b):XE X (.Subscript e (.Slice lo hi Y p2) pos) (Av m a b):=
 ⟨eV (zR (BQ.or Cd (BQ.or EX Ce)) h.h K.h C.h) <| by
  rintro σ H Q ⟨r,mu,S,d,R,y,ao,f,hc⟩;obtain⟨⟨D,A⟩,L,f⟩:=oB1.mp f;obtain⟨⟨n,z⟩,G,f⟩:=oB1.mp f;obtain⟨⟨l,F⟩,I,f⟩:=oB1.mp f;refine⟨r,mu,S,D,A,y,ao,L,λv H1 mu1 x E au=>?_⟩;refine⟨r,mu1,A,n,z,y.ext x,au,G,λH2 w u am=>?_⟩;refine⟨r,w,z,l,F,(y.ext x).ext u,am,I,λP g B j=>?_⟩;obtain⟨⟨k,xs⟩,N,f⟩:=oM1.mp f;have s:=(x.trans u).trans B;obtain⟨c,vs,rfl,q,t⟩:=d7 ((E.ext u).ext B) j N;cases k with
  |true=>
   cases f;right;right;exact⟨c,vs,O,q,λp i=>hc _ _ (g++[p]) (s.trans (Ext.new_ i)) (.ref (fS j.len p)) (j.newL (w6 t n l) i)⟩
  |false=>
   simp only[bF1,if_false]at f;cases f;by_cases o:HT.sIx xs.length 0 n=0/\HT.sIx xs.length xs.length l=xs.length
   ·left;rw[yC o]at hc;exact⟨c,vs,O,q,by rw[<- t.length];exact o,hc _ _ g s (.tup q t) j⟩
   ·right;left;exact⟨c,vs,O,q,by rw[<- t.length];exact o,λp i=>hc _ _ g (s.trans (Ext.fresh i)) (.tup (j6.of d9) ((w6 t n l).ext (Ext.fresh i))) (j.fresh i)⟩⟩
end
mutual
inductive gI (h:dQ):TK->dD->Prop
 |non:gI h .non .none
 |int (i t):gI h (.int i) (.int i t)
 |tup {a o items n xs}:h.get? a=some o->o.cls = .type "tuple"->o.data = .seq items n->gX h xs items.toList->gI h (.tup xs) (.ref a)
inductive gX (h:dQ):List TK->List dD->Prop
 |nil:gX h [] []
 |cons {k v ks vs}:gI h k v->gX h ks vs->gX h (k::ks) (v::vs)
end
section
variable{prog:dG}{w:dI}{A:dH}{E:dD->dE->Prop}{s:dE}
theorem sL{Q:Int->dE->Prop}(h:Q 0xFCA86420 {s with toks:=s.toks+1}):dN (model prog w) A (pyHash .none) Q E s:=by
 have a:s.TypeIs .none "NoneType":=rfl;unfold pyHash
 first|unfold pyHashByItsType|skip
 have b:[Value.none].any Value.onHeap=J:=rfl;refine wB1 ?_;rw[cRoomFor,aj (by rw[b];exact aK)];refine wP1 ?_;refine wB1 (wpAny_specialOf a F.slot_NoneType_hash.lookup ?_);show dN _ _ (if(Z (Value.builtin "NoneType.__hash__") == Z Value.none)=M then _ else _) Q E s;rw[aj (by rw[beq_builtin_none];exact aK)];refine wB1 (wpAny_specialOf a F.slot_NoneType_hash.lookup ?_);show dN _ _ (callSpecialIfBoundUnlessNone? .none "__hash__" _ >>= _) Q E s;refine wB1 (wpAny_callSpecialIfBoundUnlessNone?_slot a F.slot_NoneType_hash (wE1 F.slot_NoneType_hash a F.entry_NoneType_hash (show dN _ _ (retInt 0xFCA86420) _ _ s from wpAny_ret_mkInt ?_) (F.args_NoneType_hash_1 _)));exact wP1 h
def r6(prog:dG)(w:dI)(k:TK):Prop:=∀{A:dH} {E:dD->dE->Prop} {s:dE} {v:dD} {Q:Int->dE->Prop},A.units+k.dep<cLine->gI s.heap k v->Q k.hash {s with toks:=s.toks+k.draws}->dN (model prog w) A (pyHash v) Q E s
theorem gX.split{h:dQ}:∀{ks:List TK} {vs:List dD},gX h ks vs->ks.length=vs.length:=λa=>a.rec (motive_1:=λ_ _ _=>True) (motive_2:=λks vs _=>ks.length=vs.length) trivial (λ_ _=>trivial) (λ_ _ _ _ _=>trivial) O (λ_ _ _ ih=>congrArg (· + 1) ih)
theorem AT{xs:List TK}(all:∀k∈xs,r6 prog w k):r6 prog w (.tup xs):=by
 intro A E s v Q t y h;cases y with
 | @tup a o m n _ q hc u hi=>
  have l:s.TypeIs (.ref a) "tuple":=⟨o,q,hc⟩;rw[TK.dep]at t;unfold pyHash
  first|unfold pyHashByItsType|skip
  first|refine wB1 (wpAny_cRoomFor_or (.inr (by lia)) ?_)|skip
  refine wB1 (wpAny_specialOf l F.slot_tuple_hash.lookup ?_);show dN _ _ (if(Z (Value.builtin "tuple.__hash__") == Z Value.none)=M then _ else _) Q E s;rw[aj (by rw[beq_builtin_none];exact aK)];refine wB1 (wpAny_specialOf l F.slot_tuple_hash.lookup ?_);show dN _ _ (callSpecialIfBoundUnlessNone? (.ref a) "__hash__" _ >>= _) Q E s;refine wB1 (wpAny_callSpecialIfBoundUnlessNone?_slot l F.slot_tuple_hash (wE1 F.slot_tuple_hash l F.entry_tuple_hash ?_ (F.args_tuple_hash_1 _)));show dN _ _ (Builtin.Tuple.tupleItemsOf (.ref a) >>= _) _ _ s;refine wB1 (wpAny_tupleItemsOf q u ?_);refine wB1 ?_;rw[<- Array.forIn_toList];refine wpAny_forIn_list _
   (λrest (b:Array Int) s'=>∃c d,xs=c++d/\gX s.heap d rest/\b.toList=TK.hashes c/\s'={s with toks:=s.toks+TK.drawsAll c})
   _ ?_ ?_ _ _ ⟨[],xs,O,hi,O,O⟩
  ·rintro x rest b s' ⟨c,d,e,p,i,rfl⟩;cases p with
   | @cons k _ f _ h1 g=>
    have r:k∈xs:=by rw[e];simp
    refine wB1 (all k r (show A.in1.units+k.dep<cLine by have:=TK.dep_mem r;rw[show A.in1.units=A.units+1 from rfl];lia) h1 ?_)
    first
     |exact wP1 ⟨c++[k],f,by simp[e],g,by rw[TK.hashes_app];simp[i,TK.hashes],by rw[TK.draws_app];simp[TK.drawsAll,bm]⟩
     |exact wB1 (wP1 (wP1 ⟨c++[k],f,by simp[e],g,by rw[TK.hashes_app];simp[i,TK.hashes],by rw[TK.draws_app];simp[TK.drawsAll,bm]⟩))
  ·rintro b s' ⟨c,d,e,p,i,rfl⟩;cases p;rw[aN]at e;subst e;show dN _ _ (retInt (Builtin.Tuple.tupleHashOf b.toList)) _ _ _;rw[i];refine wpAny_ret_mkInt ?_;show dN _ _ (if(decide (-(2:Int)^63<=Builtin.Tuple.tupleHashOf (TK.hashes xs))&&decide (Builtin.Tuple.tupleHashOf (TK.hashes xs)<2^63))=M then _ else _) Q E _;rw[TK.hash,TK.draws]at h;unfold reduceHash at h;by_cases j:(decide (-(2:Int)^63<=Builtin.Tuple.tupleHashOf (TK.hashes xs))&&decide (Builtin.Tuple.tupleHashOf (TK.hashes xs)<2^63))=M
   ·rw[ak j];rw[ak j]at h;exact wP1 (by simpa[bm]using h)
   ·rw[aj j];rw[aj j]at h;exact wB1 (wpAny_rule (wP1 (by simpa[bm]using h)))
mutual
theorem wP:∀k:TK,r6 prog w k
 | .non=>λb a h=>by cases a;exact sL h
 | .int i=>λb a h=>by cases a;exact wpAny_pyHash_int h
 | .tup xs=>AT (tK xs)
theorem tK:∀ks:List TK,∀k∈ks,r6 prog w k
 |[],k,h=>by simp at h
 |x::xs,k,h=>by
  by_cases e:k=x
  ·rw[e];exact wP x
  ·exact tK xs k ((aF.mp h).resolve_left e)
end
end
theorem gI.inj{h:dQ}:∀ {k k':TK} {v:dD},gI h k v->gI h k' v->k=k':=fun e=>e.rec (motive_1:=fun k v _=>∀ k',gI h k' v->k=k') (motive_2:=fun k v _=>∀ k',gX h k' v->k=k')
  (λk' g=>by cases g;rfl) (λ_ _ k' g=>by cases g;rfl)
  (λf n i l ih k' g=>by
   cases g with
   |tup c m d j=>
    rw[f]at c;cases c;rw[i]at d;cases d;rw[ih _ j])
  (λk' g=>by cases g;rfl) (λ_ _ a b k' g=>by cases g with|cons r' t'=>rw[a _ r',b _ t']) _
theorem gI.keeps{h h':dQ}{d:dF}{o:Obj}{es ep}(ho:h.get? d=some o)(hd:o.data = .dict es ep)(hs:Heap.SameBut d h h'):∀ {k:TK} {v:dD},gI h k v->gI h' k v:=fun g=>g.rec (motive_1:=fun k v _=>gI h' k v) (motive_2:=fun k v _=>gX h' k v) .non .int
  (λ{a} _ _ _ _ e f c _ ih=>.tup ((hs.2 a (λz=>by subst z;rw[e]at ho;cases ho;rw[c]at hd;cases hd)).trans e) f c ih) .nil (λ_ _ a b=>.cons a b)
theorem gX.at{h:dQ}:∀{ks:List TK} {vs:List dD} (j:Nat) (h1:j<ks.length) (h2:j<vs.length),gX h ks vs->gI h ks[j] vs[j]
 |_::_,_::_,0,_,_,.cons r _=>r
 |_::ks,_::vs,j+1,h1,h2,.cons _ t=>gX.at j (by simpa using h1) (by simpa using h2) t
theorem By{xs ys:List TK}(b:xs.length=ys.length):((af (min xs.length ys.length)).all λj=>decide (xs[j]?=ys[j]?))=decide (xs=ys):=by
 by_cases h:xs=ys
 ·subst h;simp
 ·rw[ai h,List.all_eq_false];have:∃j,xs[j]? ≠ ys[j]?:=Classical.byContradiction λz=>h (bZ λj=>Classical.byContradiction λq=>z ⟨j,q⟩);obtain⟨j,a⟩:=this;refine⟨j,?_,by simpa using a⟩;rw[aB,b,Nat.min_self];apply Classical.byContradiction;intro c;exact a (by rw[b4 (by lia),b4 (by lia)])
theorem IY:∀(n:Nat) {k k':TK} {A:dH} {s:dE} {u v:dD},k.dep<=n->A.units+n<cLine->gI s.heap k u->gI s.heap k' v->SeqAt.EqAt A s u v (decide (k=k')):=by
 intro n
 induction n with
 |zero=>
  intro k k' A s u v F U r g;cases r with
  |tup _ _ _ _=>simp[TK.dep]at F
  |non=>
   cases g with
   |non=>simpa using SeqAt.EqAt.same (A:=A) (s:=s) Value.none
   |int i t=>simpa[uq]using kf (A:=A) (s:=s) (y:=.non) (x:=.int i) O ⟨t,O⟩ O O
   |tup e c d t=>simpa using(fx (A:=A) (s:=s) (b:=J) (v:=.non) (u:=.none) ⟨_,e,c,_,d⟩ O O (by lia)).2.1
  |int i t=>
   cases g with
   |non=>simpa[uq]using kf (A:=A) (s:=s) (y:=.int i) (x:=.non) ⟨t,O⟩ O O O
   |int j E=>
    have:=kf (A:=A) (s:=s) (y:=.int i) (x:=.int j) ⟨t,O⟩ ⟨E,O⟩ O O;have e:uq (.int i) (.int j)=decide (TK.int i=TK.int j):=by
     by_cases h:i=j
     ·subst h;simp[uq]
     ·rw[ai (λz=>h (by injection z))];simp[uq,h]
    rw[e]at this;exact this
   |tup e c d q=>simpa using(fx (A:=A) (s:=s) (b:=J) (v:=.int i) (u:=.int i t) ⟨_,e,c,_,d⟩ ⟨t,O⟩ O (by lia)).2.1
 |succ n ih=>
  intro k k' A s u v F U r g;cases r with
  |non=>
   cases g with
   |non=>simpa using SeqAt.EqAt.same (A:=A) (s:=s) Value.none
   |int i t=>simpa[uq]using kf (A:=A) (s:=s) (y:=.non) (x:=.int i) O ⟨t,O⟩ O O
   |tup e c d t=>simpa using(fx (A:=A) (s:=s) (b:=J) (v:=.non) (u:=.none) ⟨_,e,c,_,d⟩ O O (by lia)).2.1
  |int i t=>
   cases g with
   |non=>simpa[uq]using kf (A:=A) (s:=s) (y:=.int i) (x:=.non) ⟨t,O⟩ O O O
   |int j E=>
    have:=kf (A:=A) (s:=s) (y:=.int i) (x:=.int j) ⟨t,O⟩ ⟨E,O⟩ O O;have e:uq (.int i) (.int j)=decide (TK.int i=TK.int j):=by
     by_cases h:i=j
     ·subst h;simp[uq]
     ·rw[ai (λz=>h (by injection z))];simp[uq,h]
    rw[e]at this;exact this
   |tup e c d q=>simpa using(fx (A:=A) (s:=s) (b:=J) (v:=.int i) (u:=.int i t) ⟨_,e,c,_,d⟩ ⟨t,O⟩ O (by lia)).2.1
  | @tup a o f m xs w B l C=>
   cases g with
   |non=>simpa using(fx (A:=A) (s:=s) (b:=J) (v:=.non) (u:=.none) ⟨_,w,B,_,l⟩ O O (by lia)).1
   |int i t=>simpa using(fx (A:=A) (s:=s) (b:=J) (v:=.int i) (u:=.int i t) ⟨_,w,B,_,l⟩ ⟨t,O⟩ O (by lia)).1
   | @tup a2 T items2 m2 ys K L ao G=>
    by_cases N:a=a2
    ·subst N;have:TK.tup xs=TK.tup ys:=gI.inj (.tup w B l C) (.tup K L ao G);rw[ah this];exact .same _
    ·refine .of_refs N ?_;have P:=C.split;have am:=G.split;have I:=SeqAt.RcAt.tuples (A:=A) (s:=s) (e:=fun j=>decide (xs[j]? = ys[j]?)) ⟨o,w,B,m,l⟩ ⟨T,K,L,m2,ao⟩ (by lia) (fun j h1 h2=>by
      have D:j<xs.length:=by rw[P];simpa using h1
      have au:j<ys.length:=by rw[am];simpa using h2
      rw[TK.dep]at F;have V:=TK.dep_mem (bS D);have q:=ih (k:=xs[j]) (k':=ys[j]) (A:=A.in1) (s:=s) (by lia) (by show A.units+1+n<cLine;lia) (C.at j D (by simpa using h1)) (G.at j au (by simpa using h2));have e:decide (xs[j]?=ys[j]?)=decide (xs[j]=ys[j]):=by
       rw[gG1 D,gG1 au];simp
      rw[e];simpa using q)
     have S:f.size=xs.length:=by rw[P];simp
     have R:items2.size=ys.length:=by rw[am];simp
     rw[S,R]at I;have H:((af (min xs.length ys.length)).all (λj=>decide (xs[j]?=ys[j]?))&&xs.length == ys.length)=decide (TK.tup xs=TK.tup ys):=by
      by_cases p:xs.length=ys.length
      ·rw[By p,p,beq_self_eq_true,bN];by_cases h:xs=ys
       ·subst h;simp
       ·rw[ai h,ai (λz=>h (by injection z))]
      ·have Q:(xs.length == ys.length)=J:=by simpa using p
       rw[Q,Bool.and_false,ai (λz=>p (by injection z with z;rw[z]))]
     rw[H]at I;exact I
theorem zB{prog:dG}{w:dI}:∀(n:Nat) {k:TK} {A:dH} {E:dD->dE->Prop} {s:dE} {v:dD} {Q:Bool->dE->Prop},k.dep<=n->gI s.heap k v->Q M s->dN (model prog w) A (eqIsQuiet n v) Q E s:=by
 intro n
 induction n with
 |zero=>
  intro k A E s v Q e r h;cases r with
  |non=>rw[eqIsQuiet_byValue 0 O];exact wP1 h
  |int i t=>rw[eqIsQuiet_byValue 0 O];exact wP1 h
  |tup _ _ _ _=>simp[TK.dep]at e
 |succ n ih=>
  intro k A E s v Q e r h;cases r with
  |non=>rw[eqIsQuiet_byValue _ O];exact wP1 h
  |int i t=>rw[eqIsQuiet_byValue _ O];exact wP1 h
  | @tup a o b m xs f u p q=>
   have g:s.TypeIs (.ref a) "tuple":=⟨o,f,u⟩;rw[TK.dep]at e;unfold eqIsQuiet;refine wB1 (wpAny_specialOf g F.slot_tuple_eq.lookup ?_);show dN _ _ (isInstance (.ref a) (.type "tuple") >>= _) _ _ s;refine wB1 (wpAny_isInstance g isSubtype_tuple_tuple ?_);simp only[b5,bF1,if_false];refine wB1 (wpAny_seqItems f p ?_);refine wB1 ?_;show dN _ _ (forIn b _ _) _ _ s;rw[<- Array.forIn_toList];refine wpAny_forIn_list _ (λrest r s'=>r.1=Y/\s'=s /\ ∃ks,gX s.heap ks rest/\TK.depAll ks<=n) _ ?_ ?_ _ _ ⟨O,O,xs,q,by lia⟩
   ·rintro v rest r s' ⟨c,rfl,ks,z,l⟩;cases z with
    | @cons j _ d _ x y=>
     rw[TK.depAll]at l;refine wB1 (ih (k:=j) (by lia) x ?_);simp only[b5,bF1,if_false];exact wP1 ⟨O,O,d,y,by lia⟩
   ·rintro⟨B,r2⟩ s' ⟨c,rfl,_⟩;simp only at c;subst c;exact wP1 h
noncomputable def fR(prog:dG)(w:dI):HeapKind prog w TK where
 is:=λh k a=>gI h k (.ref a)/\k.dep<=8
 hash:=TK.hash
 draws:=TK.draws
 room:=λA=>A.units+8<cLine
 inj:=λhx hy=>hx.1.inj hy.1
 keeps:=λx ho hd hs=>⟨x.1.keeps ho hd hs,x.2⟩
 pyHash:=λhu hk h=>wP _ (by have:=hk.2;omega) hk.1 h
 eqBool:=λhu hx hy h=>IY 8 hx.2 hu hx.1 hy.1 _ _ _ _ h
 quiet:=λhk h=>zB 8 hk.2 hk.1 h
noncomputable def Lz:G2:=λo v S=>match o,v with
 | .ref n,.ref b=>match S[n]?,S[b]? with
  |some (.lst xs),Z (.lst ys)=>if xs.length+ys.length<=dM then Z (.non,S.set n (.lst (xs++ys)))else Y
  |_,_=>Y
 |_,_=>Y
noncomputable def rH(n:Nat)(k:Int):Nat:=if k<0 then(k+(n:Int)).toNat else min k.toNat n
noncomputable def yr:G3:=λo i v S=>match o,i with
 | .ref n,.int k=>match S[n]? with
  |some (.lst xs)=>if-(2^63)<=k/\k<2^63/\xs.length<dM then Z (.non,S.set n (.lst (xs.take (rH xs.length k)++v::xs.drop (rH xs.length k))))else Y
  |_=>Y
 |_,_=>Y
noncomputable def yw(f:D->D->Option Bool)(x:D):List D->Option (List Bool)
 |[]=>Z []
 |y::ys=>(f y x).bind λb=>(yw f x ys).map (b :: ·)
noncomputable def AY:G2:=λo x S=>match o with
 | .ref n=>match S[n]? with
  |some (.lst ys)=>(yw (fW S eO) x ys).bind λbs=>if bs.length<2^62 then(bs.findIdx? id).map λj=>(.int (j:Nat),S)else Y
  |_=>Y
 |_=>Y
theorem wX(f:D->D->Option Bool)(x:D):∀{ys:List D} {bs:List Bool},yw f x ys=Z bs->bs.length=ys.length /\ ∀(j:Nat) (y:D) (k:Bool),ys[j]?=Z y->bs[j]?=Z k->f y x=Z k
 |[],bs,h=>by cases h;exact⟨O,λj y k h=>by simp at h⟩
 |y::ys,bs,h=>by
  rw[yw]at h;obtain⟨b,c,h⟩:=oB1.mp h;obtain⟨g,d,h⟩:=oM1.mp h;obtain⟨e,a1⟩:=wX f x d;subst h;refine⟨by simp[e],λj=>?_⟩;cases j with
  |zero=>intro a k h1 h2;simp at h1 h2;subst h1;subst h2;exact c
  |succ j=>intro a k h1 h2;exact a1 j a k (by simpa using h1) (by simpa using h2)
section
open PySem.MeetsSeq PySem.MeetsSeq2 PySem.MeetsSeq3 PySem.SeqRoads2
theorem tJ{l:dF}{its:Array dD}{n:Nat}{x:dD}{e:Nat->Bool}{top:Int}{j:Nat}(f:j<its.size)(ht:(j:Int)<top)(c:e j=true):∀ (k i:Nat),i+k=j->(∀ m,i<=m->m<j->e m=false) ->
  Meets (Builtin.«list.index.loop» ⟨[.ref l,x,rawInt i,rawInt top],[]⟩)
   (λA R s=>s.heap.get? l=Z {cls:=.type "list",data:=.seq its n}/\(∀m (h:m<its.size),SeqAt.EqAt A.in1 s its[m] x (e m))/\R (.ok (.ret (.int j s.toks))) {s with toks:=s.toks+1})
 |0,i,hk,hno,prog,w,A,R,⟨hp,g,d,tk,os⟩,⟨hl,he,h⟩=>by
  have o:i=j:=by lia
  subst o
  wp_walk using AutoSeq1.wpAny_loadPart' hl
  rw[show(if(i:Int)<top then its[((i:Nat):Int).toNat]? else Y)=Z its[i] by simp[ht,f]];refine wB1 (he i f prog w _ _ ?_);rw[c]
  wp_walk
  exact h
 |k+1,i,hk,hno,prog,w,A,R,⟨hp,g,d,tk,os⟩,⟨hl,he,h⟩=>by
  have h1:i<its.size:=by lia
  have h2:(i:Int)<top:=by lia
  wp_walk using AutoSeq1.wpAny_loadPart' hl
  rw[show(if(i:Int)<top then its[((i:Nat):Int).toNat]? else Y)=Z its[i] by simp[h1,h2]];refine wB1 (he i h1 prog w _ _ ?_);rw[hno i (nR1 i) (by lia)]
  wp_walk
  rw[show((i:Int)+1)=((i+1:Nat):Int) by push_cast;rfl];have z:=tJ (l:=l) (n:=n) (x:=x) f ht c k (i+1) (by lia) (λm a b=>hno m (by lia) b) prog w A R _ ⟨hl,he,h⟩;exact⟨plainId_quiet plain_index_loop _,wD1 entry_index_loop (by rw[Around.under_plainId plain_index_loop _];exact z)⟩
theorem AR{l:dF}{its:Array dD}{n:Nat}{x:dD}{e:Nat->Bool}{j:Nat}(o:j<its.size)(ht:(j:Int)<2^63-1)(a:e j=true)(c:∀ m,m<j->e m=false):
  Meets (Builtin.«list.index» ⟨[.ref l,x],[]⟩)
   (λA R s=>s.heap.get? l=Z {cls:=.type "list",data:=.seq its n}/\(∀m (h:m<its.size),SeqAt.EqAt A.in1 s its[m] x (e m))/\R (.ok (.ret (.int j s.toks))) {s with toks:=s.toks+1}):=by
 intro prog w A R ⟨q,g,d,tk,p⟩ ⟨f,k,h⟩
 wp_walk using AutoSeq1.wpAny_loadPart' f
 rw[show((λi:Int=>if i<0 then max 0 (i+(its.size:Int))else i) ((Y:Option Int).getD 0))=((0:Nat):Int) by simp,show((λi:Int=>if i<0 then max 0 (i+(its.size:Int))else i) ((Y:Option Int).getD (2^63-1)))=2^63-1 by simp];have z:=tJ (l:=l) (n:=n) (x:=x) o ht a j 0 (by lia) (λm _ b=>c m b) prog w A R _ ⟨f,k,h⟩;exact⟨plainId_quiet plain_index_loop _,wD1 entry_index_loop (by rw[Around.under_plainId plain_index_loop _];exact z)⟩
end
section
variable{X:Cx}
theorem J9{K:Fg1}{H:Hp}{Q:VK}{f:G3}{xs:List V}(h:rN K (b3 f) xs H Q):∃x y z mu S d e g r b,xs=[x,y,z]/\eK K H mu d x/\eK K H mu e y/\eK K H mu g z/\Sim K H mu S/\f d e g S=Z (r,b)/\ph K mu H r b Q:=by
 obtain⟨mu,S,ds,r,b,c,i,a,hc⟩:=h;cases c with
 |nil=>cases a
 |cons q t=>cases t with
  |nil=>cases a
  |cons j t=>cases t with
   |nil=>cases a
   |cons k t=>cases t with
    |nil=>exact⟨_,_,_,mu,S,_,_,_,r,b,O,q,j,k,i,a,hc⟩
    |cons l t=>cases a
theorem HB(hu:X.A.units+64<cLine):Eu X "list.index" (λx xs H Q=>rN X.K (b2 AY) (x::xs) H Q):=by
 intro ag s σ H x xs v aq Q I B L h;obtain⟨V,y,mu,S,d,e,r',wq,am,D,r2,o,a,hc⟩:=zx h;cases am;unfold AY at a;split at a
 ·rename_i n;split at a
  ·rename_i ys w;obtain⟨bs,P,a⟩:=oB1.mp a;split at a
   ·rename_i r;obtain⟨j,p,a⟩:=oM1.mp a;cases a;cases D with
    |ref U=>
     obtain⟨vs,K,t⟩:=o.lst w U;cases B;obtain⟨u,rfl,R⟩:=L.one;obtain⟨z,b,C,c,hl,e⟩:=I.lstM K;obtain⟨l1,g⟩:=wX _ _ P;have W:=t.length;have l3:=c.length;rw[b6]at p;obtain⟨au,l,f⟩:=p;have k:∀m (a:m<b.toArray.size),SeqAt.EqAt X.A.in1 s b.toArray[m] u (bs[m]?.getD J):=λm a=>by
      have m1:m<b.length:=by simpa using a
      obtain⟨ao,N,T⟩:=t.getV (i:=m) (v:=vs[m]'(by lia)) (gG1 (by lia));obtain⟨w',q,G⟩:=c.get (i:=m) (x:=vs[m]'(by lia)) (gG1 (by lia));have m2:m<bs.length:=by lia
      have E:b.toArray[m]=w':=by
       have:=gG1 m1;rw[this]at q;simpa using q
      rw[E,gG1 m2];exact(l5 I o eO (A:=X.A.in1) (by show X.A.units+1+60<cLine;lia) T r2 G R (g m ao bs[m] N (gG1 m2))).1
     refine call_meets F.slot_list_index ⟨_,e,O⟩ F.entry_list_index (F.args_list_index_2 _ _)
      (AR (n:=C) (e:=λm=>bs[m]?.getD J) (j:=j) (by simp;lia) (by lia) ?_ ?_) ⟨e,k,?_⟩
     ·simp only[gG1 au,b7];simpa using l
     ·intro m a;have m2:m<bs.length:=by lia
      have:=f m a;simp only[gG1 m2,b7];simpa using this
     ·exact⟨.int j,H,I.tok _,⟨_,O⟩,hc.now (.int _) o⟩
   ·cases a
  ·cases a
 ·cases a
theorem D8:Eu X "list.insert" (λx xs H Q=>rN X.K (b3 yr) (x::xs) H Q):=by
 intro ag s σ H x xs v am Q I p B h;obtain⟨E,y,z,mu,S,d,e,g,P,K,A,r,r2,C,m,b,hc⟩:=J9 h;cases A;unfold yr at b;split at b
 ·rename_i n k;split at b
  ·rename_i ys o;split at b
   ·rename_i j;cases b;cases r with
    |ref i=>
     cases r2;obtain⟨vs,f,t⟩:=m.lst o i;cases p;obtain⟨N,l,rfl,D,w⟩:=B.two;obtain⟨tk,rfl⟩:=D;obtain⟨ao,a,q,c,L,e⟩:=I.lstM f;have G:=t.length;have au:=c.length;refine call_meets F.slot_list_insert ⟨_,e,O⟩ F.entry_list_insert (F.args_list_insert_3 _ _ _)
      (AutoSeq1.list_insert_list_int_val_1 _ a.toArray q k tk l (by rw[fitsIndex_both j.1 j.2.1];exact aK) (by rw[sT1];omega)) ⟨e,?_⟩
     have x:=Ext.put (u:=.lst (vs.take (rH ys.length k)++z::vs.drop (rH ys.length k))) f trivial (gM1 i);refine⟨.non,_,I.lset (its':=a.take (rH ys.length k)++l::a.drop (rH ys.length k)) f e ?_ ((c.take _).append (.cons w (c.drop _))) ?_,O,hc _ _ mu x .non (m.putL ((t.take _).append (.cons C (t.drop _))) i f)⟩
     ·rw[show ys.length=a.length by omega];simp[rH];exact b8 (by simp)
     ·simp;omega
   ·cases b
  ·cases b
 ·cases b
end
mutual
noncomputable def kD:D->Option TK
 | .non=>Z .non
 | .int i=>Z (.int i)
 | .tup xs=>(IG xs).map .tup
 |_=>Y
noncomputable def IG:List D->Option (List TK)
 |[]=>Z []
 |x::xs=>(kD x).bind λk=>(IG xs).map (k :: ·)
end
noncomputable def keyT:D->Option TK
 | .tup xs=>(IG xs).bind λks=>if(TK.tup ks).dep<=8 then Z (.tup ks)else Y
 |_=>Y
mutual
theorem IH:∀{d:D} {k:TK},kD d=Z k->tkD k=d
 | .non,k,h=>by cases h;rfl
 | .int i,k,h=>by cases h;rfl
 | .tup xs,k,h=>by
  rw[kD]at h;obtain⟨ks,e,h⟩:=oM1.mp h;subst h;rw[tkD,vb e]
 | .bl _,k,h=>by simp[kD]at h
 | .str _,k,h=>by simp[kD]at h
 | .rol _,k,h=>by simp[kD]at h
 | .fn _,k,h=>by simp[kD]at h
 | .ref _,k,h=>by simp[kD]at h
theorem vb:∀{ds:List D} {ks:List TK},IG ds=Z ks->ic ks=ds
 |[],ks,h=>by cases h;rfl
 |x::xs,ks,h=>by
  rw[IG]at h;obtain⟨k,b,h⟩:=oB1.mp h;obtain⟨t,a,h⟩:=oM1.mp h;subst h;rw[ic,IH b,vb a]
end
theorem wK{d:D}{k:TK}(h:keyT d=Z k):tkD k=d/\k.dep<=8 /\ ∃xs,k = .tup xs:=by
 cases d with
 |tup xs=>
  rw[keyT]at h;obtain⟨ks,e,h⟩:=oB1.mp h;split at h
  ·rename_i a;cases h;exact⟨by rw[tkD,vb e],a,ks,O⟩
  ·cases h
 |_=>cases h
section
variable{X:Cx}{ag:List (dF×Obj)}{σ:L2.St}{H:Hp}{s:dE}{mu:List dF}
mutual
theorem vT(I:Inv X ag σ H s):∀(k:TK) {v:V} {u:dD},eK X.K H mu (tkD k) v->d6 v u->gI s.heap k u
 | .non,v,u,r,q=>by
  rw[tkD]at r;cases r;cases q;exact .non
 | .int i,v,u,r,q=>by
  rw[tkD]at r;cases r;obtain⟨t,rfl⟩:=q;exact .int i t
 | .tup xs,v,u,r,q=>by
  rw[tkD]at r;cases r with
  |tup h t=>
   cases q;obtain⟨a,e,⟨o,b,d,n,c⟩,_⟩:=I.tuple h;exact .tup b d c (by simpa using zg I xs t e)
theorem zg(I:Inv X ag σ H s):∀(ks:List TK) {vs:List V} {a:List dD},d4 X.K H mu (ic ks) vs->ei vs a->gX s.heap ks a
 |[],vs,a,r,q=>by rw[ic]at r;cases r;cases q;exact .nil
 |k::ks,vs,a,r,q=>by
  rw[ic]at r;cases r with
  |cons r t=>cases q with
   |cons q p=>exact .cons (vT I k r q) (zg I ks t p)
end
theorem uU{α β γ δ:Type}{F:α->β->Prop}{G:γ->δ->Prop}{f:α->γ}{g:β->δ}:∀{l₁:List α} {l₂:List β},Paired F l₁ l₂->(∀a b,F a b->G (f a) (g b))->Paired G (l₁.map f) (l₂.map g):=by
 intro a b h g
 induction h with
 |nil=>exact .nil
 |cons r t ih=>exact .cons (g _ _ r) ih
theorem uV{α β:Type}{F:α->β->Prop}:∀{l₁ f:List α} {l₂ e:List β},Paired F l₁ l₂->Paired F f e->Paired F (l₁++f) (l₂++e):=by
 intro a b c d h g
 induction h with
 |nil=>exact g
 |cons r t ih=>exact .cons r ih
theorem KT.length{K:Fg1}:∀{ks:List (TK×D)} {ws:List (TK×dF×dD)},KT K H mu ks ws->ks.length=ws.length:=λh=>Paired.length h
theorem KT.mem{K:Fg1}:∀{ks:List (TK×D)} {ws:List (TK×dF×dD)},KT K H mu ks ws -> ∀x∈ws,x.1.dep<=8/\eK K H mu (tkD x.1) (.ref x.2.1):=by
 intro ks ws a x h
 induction a with
 |nil=>cases h
 |cons r t ih=>
  rcases aF.mp h with e|e
  ·subst e;rw[<- r.1];exact⟨r.2.1,r.2.2.1⟩
  ·exact ih e
theorem KT.look{K:Fg1}{k:TK}:∀ {ks:List (TK×D)} {ws:List (TK×dF×dD)},KT K H mu ks ws ->
  (∀d,d3 ks k=Z d -> ∃p v,atKey ws k=Z p/\d6 v p.2/\eK K H mu d v)/\(atKey ws k).isSome=(d3 ks k).isSome:=by
 intro ks ws h
 induction h with
 |nil=>exact⟨λd h=>by simp[d3]at h,O⟩
 | @cons p j ks ws r t ih=>
  obtain⟨a,e⟩:=p;obtain⟨l,a2,c⟩:=j;obtain⟨z,d,q,v,f,r⟩:=r;dsimp only at z q f r;subst z;obtain⟨h1,h2⟩:=ih;by_cases b:a=k
  ·subst b;refine⟨λd h=>?_,by simp[atKey,d3]⟩;have:e=d:=by simpa[d3]using h
   subst this;exact⟨(a2,c),v,by simp[atKey],f,r⟩
  ·have g:d3 ((a,e)::ks) k=d3 ks k:=by simp[d3,bc,b]
   have i:atKey ((a,a2,c)::ws) k=atKey ws k:=by simp[atKey,bc,b]
   rw[g,i];exact⟨h1,h2⟩
theorem KT.put{K:Fg1}{k:TK}{d:D}{v:V}{a:dF}{u:dD}(hk:k.dep<=8)(j:eK K H mu (tkD k) (.ref a))(f:d6 v u)(q:eK K H mu d v){ks:List (TK×D)}{ws:List (TK×dF×dD)}(h:KT K H mu ks ws):KT K H mu (fm ks k d) (storedH ws k a u):=by
 unfold fm storedH;have e:(ks.any λp=>decide (p.1=k))=(atKey ws k).isSome:=by
  rw[h.look.2];unfold d3;rw[bg,bQ,List.find?_isSome,bR]
 rw[e];split
 ·clear e;refine uU h λp w ⟨z,i,g,l,c,m⟩=>?_;unfold putAt;by_cases b:p.1=k
  ·rw[ak b,ak (by rw[<- z];exact b)];exact⟨z,i,g,v,f,q⟩
  ·rw[aj b,aj (by rw[<- z];exact b)];exact⟨z,i,g,l,c,m⟩
 ·exact uV h (.cons ⟨O,hk,j,v,f,q⟩ .nil)
theorem tY(I:Inv X ag σ H s){a:dF}{xs:List (TK×dF×dD)}{kvs:List (TK×D)}(e:H a=Z (.ext (gh a xs)))(h:KT X.K H mu kvs xs):(a == sysModules)=J/\s.heap.DictOfH (fR X.prog X.w) a xs:=by
 obtain⟨⟨h1,h2,o,es,ep,c,f,d,g⟩,_⟩:=(show eJ X.prog X.w H s.heap a (.ext (gh a xs))from I.hok a _ e);exact⟨h1,o,es,ep,c,f,d,g,λx b=>⟨vT I _ (h.mem x b).2 O,(h.mem x b).1⟩,h2⟩
theorem rR{h:dQ}{a:dF}{xs:List (TK×dF×dD)}(hd:(a == sysModules)=J)(hm:h.DictOfH (fR X.prog X.w) a xs):eJ X.prog X.w H h a (.ext (gh a xs)):=by
 obtain⟨o,es,ep,d,i,f,l,p,k⟩:=hm;refine⟨⟨hd,k,o,es,ep,d,i,f,l⟩,⟨o,d⟩,λn m ⟨a1,a2,o',c,b,b3,j,g,e⟩ st=>⟨a1,a2,o',c,b,st _ b3,j,g,e⟩⟩
end
noncomputable def iV:G2:=λd e S=>match e with
 | .ref n=>match S[n]? with
  |some (.dcT kvs)=>(keyT d).map λk=>(.bl (d3 kvs k).isSome,S)
  |_=>vm d e S
 |_=>vm d e S
noncomputable def gt:G2:=λd e S=>match e with
 | .ref n=>match S[n]? with
  |some (.dcT kvs)=>(keyT d).map λk=>(.bl (!(d3 kvs k).isSome),S)
  |_=>jK d e S
 |_=>jK d e S
noncomputable def d0:G2:=λd e S=>match d with
 | .ref n=>match S[n]? with
  |some (.dcT kvs)=>(keyT e).bind λk=>(d3 kvs k).map λx=>(x,S)
  |some (.dcF kvs)=>(keyT e).bind λk=>(d3 kvs k).map λx=>(x,S)
  |_=>mQ d e S
 |_=>mQ d e S
noncomputable def jl:G3:=λo i v S=>match o with
 | .ref n=>match S[n]? with
  |some (.dcT kvs)=>(keyT i).bind λk=>if kvs.length<dM then Z (.non,S.set n (.dcT (fm kvs k v)))else Y
  |some (.dct [])=>match keyT i with
   |some k=>Z (.non,S.set n (.dcT [(k,v)]))
   |none=>mD o i v S
  |_=>mD o i v S
 |_=>mD o i v S
section
variable{X:Cx}
theorem mz{κ:Type}[DecidableEq κ](kvs:List (κ×D))(k:κ)(d:D):(fm kvs k d).length<=kvs.length+1:=by
 unfold fm;split
 ·rw[lM1];lia
 ·simp
theorem oz{h:dQ}{a:dF}(dd:h.DictOf (fe X.prog X.w) a []):h.DictOfH (fR X.prog X.w) a []:=by
 obtain⟨o,es,ep,h1,h2,d,_,b,_⟩:=dd;have e:es.toList=[]:=by
  generalize es.toList=l at b;cases b;rfl
 exact⟨o,es,ep,h1,h2,d,e,(λx c=>by simp at c),bo⟩
theorem iO{A:dH}(a:A.units+64<cLine):(fR X.prog X.w).room A.in1:=by
 show A.units+1+8<cLine;lia
theorem jj{ag:List (dF×Obj)}{σ:L2.St}{H:Hp}{s:dE}{mu:List dF}(I:Inv X ag σ H s){d:D}{v:V}{u:dD}{k:TK}(r:eK X.K H mu d v)(q:d6 v u)(h:keyT d=some k):
  ∃a,u = .ref a/\v = .ref a/\eK X.K H mu (tkD k) (.ref a)/\k.dep<=8/\(fR X.prog X.w).is s.heap k a:=by
 obtain⟨e,b,xs,ex⟩:=wK h;subst e;have is:=vT I k r q;subst ex;cases id is with
 | @tup a _ _ _ _ _ _ _ _=>
  rw[tkD]at r;cases r with
  |tup h1 h2=>
   cases q;exact⟨a,O,O,by rw[tkD];exact .tup h1 h2,b,is,b⟩
theorem mw(l:X.A.units+64<cLine):fX X (compareOp .In) (r2 X.K (b2 iV)):=by
 intro ag s σ H x y u w Q I m i h;obtain⟨mu,S,d,e,r,j,g,c,f,b,hc⟩:=pE h;have back:vm d e S=Z (r,j)->dN (model X.prog X.w) X.A (compareOp .In u w) (EP X ag σ Q) X.xe s:=λb=>Iq l ag s σ H x y u w Q I m i ⟨mu,S,[d,e],r,j,.cons g (.cons c .nil),f,b,hc⟩;unfold iV at b;split at b
 ·rename_i n;split at b
  ·rename_i kvs v;obtain⟨k,t,b⟩:=oM1.mp b;cases b;cases c with
   |ref p=>
    cases i;obtain⟨xs,A,o,_⟩:=f.dcT v p;obtain⟨z,q⟩:=tY I A o;obtain⟨a,rfl,rfl,_,_,hi⟩:=jj I g m t;refine wpAny_in_heap (iO l) hi z q ?_;exact⟨.bl (atKey xs k).isSome,H,I.tok _,O,by rw[o.look.2];exact hc.now (.bl _) f⟩
  ·exact back b
 ·exact back b
theorem sX(l:X.A.units+64<cLine):fX X (compareOp .NotIn) (r2 X.K (b2 gt)):=by
 intro ag s σ H x y u w Q I m i h;obtain⟨mu,S,d,e,r,j,g,c,f,b,hc⟩:=pE h;have back:jK d e S=Z (r,j)->dN (model X.prog X.w) X.A (compareOp .NotIn u w) (EP X ag σ Q) X.xe s:=λb=>z4 l ag s σ H x y u w Q I m i ⟨mu,S,[d,e],r,j,.cons g (.cons c .nil),f,b,hc⟩;unfold gt at b;split at b
 ·rename_i n;split at b
  ·rename_i kvs v;obtain⟨k,t,b⟩:=oM1.mp b;cases b;cases c with
   |ref p=>
    cases i;obtain⟨xs,A,o,_⟩:=f.dcT v p;obtain⟨z,q⟩:=tY I A o;obtain⟨a,rfl,rfl,_,_,hi⟩:=jj I g m t;refine wpAny_notIn_heap (iO l) hi z q ?_;exact⟨.bl (!(atKey xs k).isSome),H,I.tok _,O,by rw[o.look.2];exact hc.now (.bl _) f⟩
  ·exact back b
 ·exact back b
theorem GY{ag:List (dF×Obj)}{σ:L2.St}{H:Hp}{s:dE}{mu:List dF}(I:Inv X ag σ H s){a:dF}{xs:List (TK×dF×dD)}{kvs:List (TK×D)}(e:∃o u,H a=Z (.frz o u)/\xm a xs o)(h:KT X.K H mu kvs xs):(a == sysModules)=J/\s.heap.DictOfH (fR X.prog X.w) a xs:=by
 obtain⟨o,u,e,h1,h2,f,es,ep,d,g⟩:=e;obtain⟨c,_⟩:=(show eJ X.prog X.w H s.heap a (.frz o u)from I.hok a _ e);exact⟨h1,o,es,ep,c,f,d,g,λx b=>⟨vT I _ (h.mem x b).2 O,(h.mem x b).1⟩,h2⟩
theorem qP(G:X.A.units+64<cLine):Ex X (r2 X.K (b2 d0)):=by
 intro value c ag s σ H x y v u Q I A F h o;obtain⟨mu,S,d,e,r,C,B,q,t,f,hc⟩:=pE h;have back:mQ d e S=Z (r,C)->dN (model X.prog X.w) X.A (subscriptTail value c v u) (EP X ag σ Q) X.xe s:=λf=>Hv G value c ag s σ H x y v u Q I A F ⟨mu,S,[d,e],r,C,.cons B (.cons q .nil),t,f,hc⟩ o;have i:∀kvs a xs,v = .ref a->KT X.K H mu kvs xs->s.heap.DictOfH (fR X.prog X.w) a xs->((keyT e).bind λk=>(d3 kvs k).map λx=>(x,S))=Z (r,C)->dN (model X.prog X.w) X.A (subscriptTail value c v u) (EP X ag σ Q) X.xe s:=λkvs a xs N j am f=>by
  obtain⟨k,P,f⟩:=oB1.mp f;obtain⟨z,ao,f⟩:=oM1.mp f;cases f;subst N;obtain⟨b,rfl,rfl,_,_,hi⟩:=jj I q F P;obtain⟨p,L,ep,au,R⟩:=j.look.1 _ ao;have K:=am.typeIs;unfold subscriptTail;refine wB1 ?_;rw[getitemInPython_of_ne K.not_modules];refine wB1 (wpAny_specialOf K PySem.F.slot_dict_getitem.lookup ?_);have l:dN (model X.prog X.w) X.A (subscripted c J (.ref a) (.ref b)) (λr g=>dN (model X.prog X.w) X.A (letTemporaryGo value (.ref a) r >>= λ_=>pure r) (EP X ag σ Q) X.xe g) X.xe s:=by
   rw[o];exact wpAny_operating (wpAny_mono (wpAny_getItem_heap (iO G) hi am ep (show EP X ag σ Q p.2 _ from⟨L,H,I.tok _,au,hc.now R t⟩)) (λr g m=>wB1 (wpAny_letTemporaryGo (wP1 m))) λ_ _ x=>x)
  first
   |exact wP1 (wB1 l)
   |exact wB1 l
   |exact l
 unfold d0 at f;split at f
 ·rename_i n;split at f
  ·rename_i kvs w;cases B with
   | @ref _ a E=>
    cases A;obtain⟨xs,D,j,_⟩:=t.dcT w E;exact i kvs a xs O j (tY I D j).2 f
  ·rename_i kvs w;cases B with
   | @ref _ a E=>
    cases A;obtain⟨xs,D,j,_⟩:=(show kl X.K H mu a (.dcF kvs)from t.ob n _ a w E);exact i kvs a xs O j (GY I D j).2 f
  ·exact back f
 ·exact back f
theorem rf(G:X.A.units+64<cLine):vL X (rU X.K (b3 jl)):=by
 intro ag s σ H o i v au N u Q I B ao w h;obtain⟨mu,S,ds,d,R,V,m,a,hc⟩:=id h;cases V with
 |cons L W=>cases W with
  |cons E aq=>cases aq with
   |cons x wq=>
    cases wq;rename_i P T C;dsimp only[b3]at a;have back:mD P T C S=Z (d,R)->dN (model X.prog X.w) X.A (setItem au N u) (λ_ s'=>∃H',Inv X ag σ H' s'/\Q H') X.xe s:=λa=>E2 G ag s σ H o i v au N u Q I B ao w ⟨mu,S,[P,T,C],d,R,.cons L (.cons E (.cons x .nil)),m,a,hc⟩;unfold jl at a;split at a
    ·rename_i n;split at a
     ·rename_i kvs A;obtain⟨k,K,a⟩:=oB1.mp a;split at a
      ·rename_i hl;cases a;cases L with
       | @ref _ j f=>
        cases B;obtain⟨xs,r,l,U⟩:=m.dcT A f;obtain⟨F,am⟩:=tY I r l;obtain⟨b,rfl,rfl,rk,t,hi⟩:=jj I E ao K;refine wpAny_setItem_heap (hsz:=U) (iO G) hi am λh' e c=>?_;have g:∃q,h'.get? _=Z q:=let ⟨q,_,_,g,_⟩:=e;⟨q,g⟩
        have put:Ext mu mu H (upd H j (.ext (gh j (storedH xs k b u)))):=Ext.put r trivial (gM1 f);refine⟨_,ln I (by rw[r];exact True.intro) c g (rR F e),hc _ mu put (m.put f r trivial ⟨_,d9,((l.put t rk w x).ext put),?_⟩)⟩;rw[<- (l.put t rk w x).length];have:=mz kvs k C;lia
      ·cases a
     ·rename_i A;split at a
      ·rename_i k K;cases a;cases L with
       | @ref _ j f=>
        cases B;obtain⟨ws,p,l⟩:=m.dct A f;cases l;obtain⟨z,F,vs,D,am⟩:=w4 I.hok p;cases D;obtain⟨b,rfl,rfl,rk,t,hi⟩:=jj I E ao K;have y:s.heap.DictOfH (fR X.prog X.w) _ []:=oz am;refine wpAny_setItem_heap (hsz:=bi _) (iO G) hi y λh' e c=>?_;have g:∃q,h'.get? _=Z q:=let ⟨q,_,_,g,_⟩:=e;⟨q,g⟩
        have put:Ext mu mu H (upd H j (.ext (gh j (storedH [] k b u)))):=Ext.put p trivial (gM1 f);exact⟨_,ln I (by rw[p];exact True.intro) c g (rR F e),hc _ mu put (m.put f p trivial ⟨_,d9,KT.ext put (.cons ⟨O,t,rk,v,w,x⟩ .nil),(show 1<=dM by decide)⟩)⟩
      ·exact back a
     ·exact back a
    ·exact back a
end
noncomputable def qB(S:Sto)(d:D):Option Bool:=match d with
 | .non=>Z J
 | .bl b=>Z b
 | .int i=>Z (i != 0)
 | .str y=>if y.length<=dM then Z ((y.length:Int) != 0)else Y
 | .ref n=>match S[n]? with
  |some (.dct kvs)=>Z (!kvs.isEmpty)
  |_=>(d5 S d).map λp=> !p.2.isEmpty
 |_=>(d5 S d).map λp=> !p.2.isEmpty
noncomputable def C9 (m:FE):FT:=λr S=>(m r S).bind λp=>(qB p.2 p.1).map λb=>(b,p.2)
section
variable{K:Fg1}{H:Hp}{mu:List dF}{S:Sto}
theorem re{d:D}{v:V}{b:Bool}(r:eK K H mu d v)(s:Sim K H mu S)(h:((d5 S d).map λp=> !p.2.isEmpty)=Z b):BF K v H b:=by
 obtain⟨⟨k,xs⟩,e,h⟩:=oM1.mp h;obtain⟨a,vs,rfl,q,t⟩:=d7 r s e;have z:(!xs.isEmpty) = !vs.isEmpty:=by cases t<;>rfl
 dsimp only at h;rw[z]at h;cases k
 ·exact .inr (.inl ⟨vs,q,h.symm⟩)
 ·exact .inl ⟨vs,q,h.symm⟩
theorem zb{d:D}{v:V}{b:Bool}(r:eK K H mu d v)(s:Sim K H mu S)(h:qB S d=Z b):BF K v H b:=by
 cases d with
 |non=>cases r;cases h;rfl
 |bl k=>cases r;cases h;rfl
 |int i=>cases r;cases h;rfl
 |str y=>
  rw[qB]at h;split at h
  ·rename_i f;cases r;cases h;exact⟨f,O⟩
  ·cases h
 |tup xs=>exact re r s h
 |rol xs=>exact re r s h
 |fn x=>cases h
 |ref n=>
  rw[qB]at h;split at h
  ·rename_i kvs e;cases h;cases r with
   |ref c=>
    obtain⟨ws,a,g⟩:=s.dct e c;refine .inr (.inr ⟨ws,a,?_⟩);cases g<;>rfl
  ·exact re r s h
end
theorem iH{X:Cx}{x:Expr}{f:FE}(h:XE X x f)(he:∀a,isTrue x X.env a=(do let v<-a;standAt x.pos;holding [v] (truthy v)):=by intro _;rfl):XT X x (C9 f):=
 ⟨uQ (zE h.h he) <| by
  rintro σ H Q ⟨r,mu,S,b,l,he,j,c,hc⟩;obtain⟨⟨m,n⟩,g,c⟩:=oB1.mp c;obtain⟨b1,i,c⟩:=oM1.mp c;cases c;exact⟨r,mu,S,_,_,he,j,g,λv H1 mu1 k e d=>⟨_,zb e d i,hc H1 mu1 k d⟩⟩⟩
mutual
noncomputable def pyD:D->Option PyData
 | .non=>Z .none
 | .bl b=>Z (.bool b)
 | .int i=>Z (.int i)
 | .str x=>Z (.str x)
 | .tup xs=>(pyDs xs).map .tuple
 | .rol _=>Y
 | .fn _=>Y
 | .ref _=>Y
noncomputable def pyDs:List D->Option (List PyData)
 |[]=>Z []
 |d::ds=>(pyD d).bind λp=>(pyDs ds).map λps=>p::ps
end
mutual
theorem nR:∀{d:D} {p:PyData},pyD d=Z p->p.hasDict=J
 | .non,p,h=>by simp only[pyD]at h;cases h;rfl
 | .bl b,p,h=>by simp only[pyD]at h;cases h;rfl
 | .int i,p,h=>by simp only[pyD]at h;cases h;rfl
 | .str x,p,h=>by simp only[pyD]at h;cases h;rfl
 | .tup xs,p,h=>by
  simp only[pyD]at h;obtain⟨ps,e,h⟩:=oM1.mp h;cases h;simp only[PyData.hasDict];exact mq e
 | .rol _,p,h=>by simp only[pyD]at h;cases h
 | .fn _,p,h=>by simp only[pyD]at h;cases h
 | .ref _,p,h=>by simp only[pyD]at h;cases h
theorem mq:∀{ds:List D} {ps:List PyData},pyDs ds=Z ps->PyData.hasDictAll ps=J
 |[],ps,h=>by simp only[pyDs]at h;cases h;rfl
 |d::ds,ps,h=>by
  simp only[pyDs]at h;obtain⟨p,b,h⟩:=oB1.mp h;obtain⟨c,a,h⟩:=oM1.mp h;cases h;simp only[PyData.hasDictAll,nR b,mq a,Bool.or_self]
end
noncomputable def oo:G1:=λd S=>match d with
 | .tup xs=>(pyDs xs).bind λps=>if(PyData.tuple ps).showable=M/\(PyData.tuple ps).shown.length<=dM/\(PyData.tuple ps).depth<=60 then Z (.str (PyData.tuple ps).shown,S)else Y
 |_=>Y
section
variable{X:Cx}{ag:List (dF×Obj)}{σ:L2.St}{H:Hp}{s:dE}{mu:List dF}
theorem zA(I:Inv X ag σ H s):∀ {d:D} {v:V} {u:dD} {p:PyData},eK X.K H mu d v->d6 v u->pyD d=some p -> ∃ as,Reads s.heap u p as:=fun k=>k.rec (motive_1:=fun d v _=>∀ u p,d6 v u->pyD d=some p -> ∃ as,Reads s.heap u p as) (motive_2:=fun ds vs _=>∀ f ps,ei vs f->pyDs ds=some ps -> ∃ as,ReadsAll s.heap f ps as)
  (λ_ _ c h=>by simp only[pyD]at h;cases h;cases c;exact⟨[],.none⟩)
  (λb _ _ c h=>by simp only[pyD]at h;cases h;cases c;exact⟨[],.bool b⟩)
  (λi _ _ c h=>by simp only[pyD]at h;cases h;obtain⟨t,rfl⟩:=c;exact⟨[],.int i t⟩)
  (λx _ _ c h=>by simp only[pyD]at h;cases h;obtain⟨t,rfl⟩:=c;exact⟨[],.str x t⟩)
  (λq _ ih _ _ c h=>by
   simp only[pyD]at h;obtain⟨ps,e,h⟩:=oM1.mp h;cases h;cases c;obtain⟨m,y,⟨o,g,hc,n,z⟩,_⟩:=I.tuple q;obtain⟨as,w⟩:=ih _ _ y e;exact⟨as,.tuple g hc z (by simpa using w)⟩)
  (λ_ _ _ _ _ _ h=>by simp only[pyD]at h;cases h) (λ_ _ _ _ h=>by simp only[pyD]at h;cases h) (λ_ _ _ _ h=>by simp only[pyD]at h;cases h)
  (λ_ _ tv h=>by simp only[pyDs]at h;cases h;cases tv;exact⟨[],.nil⟩)
  (λ_ _ a b _ _ tv h=>by
   simp only[pyDs]at h;obtain⟨p,l,h⟩:=oB1.mp h;obtain⟨A,r,h⟩:=oM1.mp h;cases h;cases tv with
   |cons v tv=>
    obtain⟨a1,j⟩:=a _ _ v l;obtain⟨a2,r2⟩:=b _ _ tv r;exact⟨_,.cons j r2⟩) _ _
end
section
variable{X:Cx}
theorem Bm{k:Nat}(hr:fP k X.A):e9 X (.builtin "repr") (rN X.K (b1 oo)):=by
 intro ag s σ H xs w Q I r h;obtain⟨x,mu,S,d,n,p,rfl,c,l,a,hc⟩:=Ch h;unfold oo at a;split at a
 ·rename_i ds;obtain⟨ps,e,a⟩:=oB1.mp a;split at a
  ·rename_i i;obtain⟨h1,h2,v⟩:=i;cases a;cases r with
   |cons g rt=>
    cases rt;have f:pyD (.tup ds)=Z (.tuple ps):=by simp only[pyD,e,oP1]
    obtain⟨as,j⟩:=zA I c g f;cases c with
    |tup q t=>
     cases g;refine repr_of_reads' j h1 (PyData.noDict_hsm (nR f)) hr.gd (by have:=hr.un;lia) (λb o z=>z) (λh' u tk m=>?_) h2;exact⟨.str _,H,I.kept m,⟨u,O⟩,hc.now (.str _) l⟩
  ·cases a
 ·cases a
noncomputable def oi:List D->Option (List Int)
 |[]=>Z []
 | .int i::ds=>(oi ds).map λis=>i::is
 |_=>Y
noncomputable def ddI(ns:List Int):List Int:=ns.foldl step_dedup []
theorem tZ:∀(ns acc:List Int),acc.Nodup->(ns.foldl step_dedup acc).Nodup
 |[],acc,h=>h
 |n::ns,acc,h=>by
  rw[b9];refine tZ ns _ ?_;unfold step_dedup;split
  ·exact h
  ·rename_i f;rw[bA];refine⟨h,by simp,λa d b c e=>?_⟩;simp at c;apply f;rw[bR];exact⟨a,d,by simp[e,c]⟩
theorem yh{K:Fg1}{H:Hp}{mu:List dF}:∀{ds:List D} {vs:List V} {a:List dD} {ns:List Int},d4 K H mu ds vs->ei vs a->oi ds=Z ns->IntsAre a ns/\ns.length=ds.length:=by
 intro ds vs a ns f b h
 induction f using d4.ind generalizing a ns with
 |hn=>cases h;cases b;exact⟨.nil,O⟩
 | @hc d v ds vs r t ih=>
  cases d with
  |int i=>
   obtain⟨c,e,h⟩:=oM1.mp h;cases h;cases r;cases b with
   |cons r b=>
    obtain⟨g,j⟩:=ih b e;obtain⟨tk,rfl⟩:=r;exact⟨.cons _ _ g,by rw[lC1,lC1,j]⟩
  |_=>cases h
end
@[elab_as_elim] theorem Ly {P:List dD->Prop}{us:List dD}(l:us.length=0)(f:P []):P us:=by
 cases us with
 |nil=>exact f
 |cons _ _=>cases l
@[elab_as_elim] theorem KS {P:List dD->Prop}{us:List dD}(l:us.length=1)(f:∀a,P [a]):P us:=by
 cases us with
 |nil=>cases l
 |cons a us=>exact Ly (P:=λus=>P (a::us)) (Nat.succ.inj l) (f a)
@[elab_as_elim] theorem KQ {P:List dD->Prop}{us:List dD}(l:us.length=2)(f:∀a b,P [a,b]):P us:=by
 cases us with
 |nil=>cases l
 |cons a us=>exact KS (P:=λus=>P (a::us)) (Nat.succ.inj l) (f a)
@[elab_as_elim] theorem KP {P:List dD->Prop}{us:List dD}(l:us.length=3)(f:∀a b c,P [a,b,c]):P us:=by
 cases us with
 |nil=>cases l
 |cons a us=>exact KQ (P:=λus=>P (a::us)) (Nat.succ.inj l) (f a)
@[elab_as_elim] theorem KO {P:List dD->Prop}{us:List dD}(l:us.length=4)(f:∀a b c d,P [a,b,c,d]):P us:=by
 cases us with
 |nil=>cases l
 |cons a us=>exact KP (P:=λus=>P (a::us)) (Nat.succ.inj l) (f a)
@[elab_as_elim] theorem JD {P:List dD->Prop}{us:List dD}(l:us.length=5)(f:∀a b c d e,P [a,b,c,d,e]):P us:=by
 cases us with
 |nil=>cases l
 |cons a us=>exact KO (P:=λus=>P (a::us)) (Nat.succ.inj l) (f a)
end Mi
namespace HT
open PySem PySem.Spec PyProof.Rows
variable{prog:dG}{w:dI}{A:dH}{E:dD->dE->Prop}{s:dE}
end HT
namespace Mi
open PySem PySem.Spec PyProof.Rows L2
section
variable{X:Cx}
end
end Mi
namespace HT
open PySem PySem.Spec PyProof.Rows
section
variable{prog:dG}{w:dI}{A:dH}{R:Result->dE->Prop}{I ax L:dF}{xs:Array dD}
end
section
variable{prog:dG}{w:dI}{A:dH}{E:dD->dE->Prop}{s:dE}
end
end HT
namespace Mi
open PySem PySem.Spec PyProof.Rows L2
section
variable{X:Cx}
end
section
variable{elt tg iter tg2 iter2 tg3 iter3:Expr}{ifs ifs2 ifs3:List Expr}{scope:dU}{pos:Pos}
end
section
variable{X:Cx}
end
noncomputable def ym(a:Int):List Int->List Int
 |[]=>[a]
 |b::l=>if a<=b then a::b::l else b::ym a l
noncomputable def kE:List Int->List Int
 |[]=>[]
 |a::l=>ym a (kE l)
theorem lY(a:Int):∀l:List Int,(ym a l).Perm (a::l)
 |[]=>.refl _
 |b::l=>by
  rw[ym];split
  ·exact .refl _
  ·exact((lY a l).cons b).trans (.swap _ _ _)
theorem iL:∀l:List Int,(kE l).Perm l
 |[]=>.refl _
 |a::l=>(lY a _).trans ((iL l).cons a)
theorem wN{a:Int}:∀{l:List Int},l.Pairwise (· <= ·)->(ym a l).Pairwise (· <= ·)
 |[],_=>List.pairwise_singleton _ _
 |b::l,h=>by
  rw[ca]at h;rw[ym];split
  ·rename_i d;rw [ca,ca];exact ⟨fun x c=>by
    rcases aF.mp c with z|z
    ·lia
    ·have:=h.1 x z;lia,h.1,h.2⟩
  ·rename_i d;rw[ca];refine⟨λx c=>?_,wN h.2⟩;rcases aF.mp ((lY a l).mem_iff.mp c)with z|z
   ·lia
   ·exact h.1 x z
theorem nD:∀l:List Int,(kE l).Pairwise (· <= ·)
 |[]=>.nil
 |a::l=>wN (nD l)
theorem ri:∀{a b:List Int},a.Perm b->a.Pairwise (· <= ·)->b.Pairwise (· <= ·)->a=b
 |[],b,p,_,_=>(List.nil_perm.mp p).symm
 |x::a,[],p,_,_=>absurd p.length_eq (by simp)
 |x::a,y::b,p,h1,h2=>by
  rw[ca]at h1 h2;have e:x=y:=by
   have f:=p.mem_iff.mp (mS1 (a:=x) (l:=a));have d:=p.mem_iff.mpr (mS1 (a:=y) (l:=b));rcases aF.mp f with z|z
   ·exact z
   ·rcases aF.mp d with c|c
    ·exact c.symm
    ·have:=h2.1 x z;have:=h1.1 y c;lia
  subst e;rw[ri (List.perm_cons x |>.mp p) h1.2 h2.2]
section
variable{X:Cx}
theorem yg:∀{us:List dD} {ns:List Int},IntsAre us ns->ei (ns.map V.int) us:=by
 intro us ns h
 induction h with
 |nil=>exact .nil
 |cons i t _ ih=>exact .cons ⟨t,O⟩ ih
end
end Mi
namespace Mi
open PySem PySem.Spec PyProof.Rows L2
section
variable{X:Cx}
end
theorem lJ(n:Nat):∀ns:List Int,D.unds n (ns.map D.int)=M
 |[]=>rfl
 |_::ns=>by rw[mP1,D.unds,lJ n ns];rfl
theorem gc_same{n:Nat}{d:D}{S:Sto}(h:S.length=n):gc n (d,S)=(d,S):=by
 unfold gc;split
 ·rw[show(d,S).2=S from rfl,<- h,bY]
 ·rfl
theorem yH{n:Nat}{f:FN}{ds:List D}{S S1:Sto}{d:D}(h:f ds []=Z (d,S1))(hn:ds.length=n)(a:D.unds 0 ds=M)(hd:d.und 0=M):dX n f ds S=Z (d,S):=by
 unfold dX mH;rw[ak hn,ak a,h,oP1,ak hd]
theorem Bl{n:Nat}{f:FN}{ds:List D}{S S1:Sto}{d:D}(h:f ds []=Z (d,S1))(hn:ds.length=n)(a:D.unds 0 ds=M)(hd:d.und 0=J):dX n f ds S=Z (d.sh S.length,S++S1.map (Ob.sh S.length)):=by
 unfold dX mH;rw[ak hn,ak a,h,oP1,aj (by dsimp only;rw[hd];decide)]
theorem qk{n:Nat}{f:FN}{ds:List D}{S S1:Sto}{d:D}(h:f ds S=Z (d,S1))(hn:ds.length=n)(a:D.unds 0 ds=J):dX n f ds S=Z (gc S.length (d,S1)):=by
 unfold dX mH;rw[ak hn,aj (by rw[a];decide),h,oP1]
theorem l9{n:Nat}{f:FN}{ds:List D}{S S1:Sto}{d:D}(h:f ds S=Z (d,S1))(hn:ds.length=n)(b:D.unds 0 ds=J)(a:S1.length=S.length):dX n f ds S=Z (d,S1):=by
 rw[qk h hn b,gc_same a]
theorem pP{i j:Int}(h1: -(2^64)<i)(h2:i<2^64):eY i j=M:=by
 unfold eY;simp only[bO,bA1,al];exact .inl (.inl ⟨h1,h2⟩)
theorem wv{i j:Int}(h1: -(2^64)<j)(h2:j<2^64):eY i j=M:=by
 unfold eY;simp only[bO,bA1,al];exact .inl (.inr ⟨h1,h2⟩)
theorem kU{S:Sto}{n:Nat}{xs:List D}(h:S[n]?=Z (.lst xs)):pM S [(n,xs)]=M:=by
 rw[pM,h];simp[D.sames_refl,pM]
noncomputable def j7(n:Nat):Nat->List D
 |0=>[]
 |k+1=>.ref n::j7 (n+1) k
theorem tj:∀{n:Nat} {lo:Int} {d:D},d∈gP lo n -> ∃k:Int,d = .int k/\lo<=k/\k<lo+n
 |0,lo,d,h=>by simp[gP]at h
 |n+1,lo,d,h=>by
  rw[gP]at h;rcases aF.mp h with h|h
  ·exact⟨lo,h,Int.le_refl _,by lia⟩
  ·obtain⟨k,e,h1,h2⟩:=tj h;exact⟨k,e,by lia,by lia⟩
theorem gL{n:Nat}:∀{xs:List D} {x:D},D.unds n xs=M->x∈xs->x.und n=M
 |y::ys,x,h,hx=>by
  rw[D.unds,bA1]at h;rcases aF.mp hx with e|e
  ·rw[e];exact h.1
  ·exact gL h.2 e
theorem jB{S:Sto}{d:D}(h:d.und 0=M):d5 S d=d5 [] d:=by
 cases d with
 |ref n=>simp[D.und]at h
 |_=>rfl
theorem iN{S:Sto}{d:D}(h:d.und 0=M){p:Bool×List D}(e:d5 S d=Z p):D.unds 0 p.2=M:=by
 cases d with
 |ref n=>simp[D.und]at h
 |tup xs=>cases e;simpa[D.und]using h
 |rol xs=>cases e;simpa[D.und]using h
 |_=>cases e
theorem qc{f f':D->D->Option Bool}:∀{xs ys:List D},(∀x∈xs,∀y∈ys,f x y=f' x y)->ll f xs ys=ll f' xs ys
 |[],[],_=>rfl
 |[],_::_,_=>rfl
 |_::_,[],_=>rfl
 |x::xs,y::ys,h=>by
  rw[ll,ll,h x mS1 y mS1,qc λa c b d=>h a (mC1 _ c) b (mC1 _ d)]
theorem wY{S:Sto}:∀{n:Nat} {d e:D},d.und 0=M->e.und 0=M->fW S n d e=fW [] n d e
 |0,_,_,_,_=>rfl
 |n+1,d,e,hd,he=>by
  rw[fW,fW,jB hd,jB he];cases h1:d5 [] d with
  |none=>cases d5 [] e<;>rfl
  |some p=>
   cases h2:d5 [] e with
   |none=>rfl
   |some q=>
    dsimp only;have c:=iN hd h1;have a:=iN he h2;rw[qc (f:=fW S n) (f':=fW [] n) λx g y b=>wY (gL c g) (gL a b)]
theorem pU{f f' g g':D->D->Option Bool}:∀{xs ys:List D},(∀x∈xs,∀y∈ys,f x y=f' x y)->(∀x∈xs,∀y∈ys,g x y=g' x y)->oX f g xs ys=oX f' g' xs ys
 |[],[],_,_=>rfl
 |[],_::_,_,_=>rfl
 |_::_,[],_,_=>rfl
 |x::xs,y::ys,h,k=>by
  rw[oX,oX,h x mS1 y mS1,k x mS1 y mS1,pU (λa c b d=>h a (mC1 _ c) b (mC1 _ d)) λa c b d=>k a (mC1 _ c) b (mC1 _ d)]
theorem wA{S:Sto}:∀{n:Nat} {d e:D},d.und 0=M->e.und 0=M->kb S n d e=kb [] n d e
 |0,_,_,_,_=>rfl
 |n + 1,d,e,k,j=>by
  rw[kb,kb,jB k,jB j];cases JC d e with
  |some b=>rfl
  |none=>
   cases h1:d5 [] d with
   |none=>rfl
   |some p=>
    cases h2:d5 [] e with
    |none=>rfl
    |some q=>
     dsimp only;have i:=iN k h1;have h:=iN j h2;rw[pU (f:=fW S n) (f':=fW [] n) (g:=kb S n) (g':=kb [] n) (λx c y a=>wY (gL i c) (gL h a)) λx c y a=>wA (gL i c) (gL h a)]
open Classical in
noncomputable def rkV(ws:List dD)(x:dD):Nat:=ws.findIdx λy=>decide (y=x)
theorem zy{ws:List dD}{x:dD}(h:x∈ws):ws[rkV ws x]?=Z x:=by
 have a:rkV ws x<ws.length:=List.findIdx_lt_length_of_exists ⟨x,h,by simp⟩;rw[gG1 a];have:=List.findIdx_getElem (w:=a);have e:ws[rkV ws x]=x:=of_decide_eq_true this;rw[e]
noncomputable def kR(ws:List dD)(xs:Array Keyed)(i:Nat):Nat:=(xs[i]?.map λp=>rkV ws p.1).getD 0
theorem k9{ws:List dD}{xs ys:Array Keyed}{i j:Nat}(h:xs[i]?=ys[j]?):kR ws xs i=kR ws ys j:=by unfold kR;rw[h]
def Up(ws:List dD)(xs:Array Keyed)(k:Nat):Prop:=∀i j,i<j->j<k->kR ws xs i<kR ws xs j
structure md (prog:dG)(w:dI)(A:dH)(s:dE)(κ:SortKind)(ws:List dD)(a₀:Array Keyed):Prop where
 nd:ws.Nodup
 keys:(a₀.toList.map (·.1)).Perm ws
 lt:∀(x y:dD) (i j:Nat),ws[i]?=some x->ws[j]?=some y->i≠j -> ∀(E:dD->dE->Prop) (Q:Bool->dE->Prop),Q (decide (i<j)) s->dN (model prog w) A (keyLt' κ x y) Q E s
section
variable{prog:dG}{w:dI}{A:dH}{E:dD->dE->Prop}{s:dE}{κ:SortKind}{ws:List dD}{a₀:Array Keyed}
theorem md.at_(C:md prog w A s κ ws a₀){xs:Array Keyed}(p:xs.Perm a₀){i:Nat}(hi:i<a₀.size):∃x q,xs[i]?=Z (x,q)/\ws[kR ws xs i]?=Z x:=by
 have a:i<xs.size:=by rw[p.size_eq];exact hi
 refine⟨xs[i].1,xs[i].2,aG1 a,?_⟩;have b:xs[i]∈a₀.toList:=(cb.mp p).mem_iff.mp (by simp);have:=zy (C.keys.mem_iff.mp (cc.mpr ⟨_,b,O⟩));unfold kR;rw[aG1 a];exact this
theorem md.inj(C:md prog w A s κ ws a₀){xs:Array Keyed}(p:xs.Perm a₀){i j:Nat}(hi:i<a₀.size)(e:j<a₀.size)(h:kR ws xs i=kR ws xs j):i=j:=by
 obtain⟨x,q,d,a⟩:=C.at_ p hi;obtain⟨y,r,f,g⟩:=C.at_ p e;rw[h,g]at a;cases a;have nd:(xs.toList.map (·.1)).Nodup:=(((cb.mp p).map (·.1)).trans C.keys).nodup_iff.mpr C.nd;have b:(xs.toList.map (·.1))[i]?=Z x:=by rw[gP1,aT1,d];rfl
 have c:(xs.toList.map (·.1))[j]?=Z x:=by rw[gP1,aT1,f];rfl
 exact(List.getElem?_inj (gE1.mp b).1 nd).mp (b.trans c.symm)
theorem EV(C:md prog w A s κ ws (pairsOf vs)){xs:Array Keyed}(p:xs.Perm (pairsOf vs))(u:Up ws xs (pairsOf vs).size):xs.map (·.2)=ws.toArray:=by
 have l:ws.length=(pairsOf vs).size:=by rw[<- C.keys.length_eq,lM1];simp
 have b:∀i,i<(pairsOf vs).size->i<=kR ws xs i:=by
  intro i
  induction i with
  |zero=>intro _;lia
  |succ i ih=>intro h;have:=ih (by lia);have:=u i (i+1) (by lia) h;lia
 have a:∀d i,i+d+1=(pairsOf vs).size->kR ws xs i<=i:=by
  intro d
  induction d with
  |zero=>
   intro i h;obtain⟨x,q,_,f⟩:=C.at_ p (i:=i) (by lia);have:=(gE1.mp f).1;lia
  |succ d ih=>
   intro i h;have:=ih (i+1) (by lia);have:=u i (i+1) (by lia) (by lia);lia
 apply Array.ext
 ·rw[Array.size_map,p.size_eq,<- l];simp
 ·intro i h1 h2;rw[Array.size_map,p.size_eq]at h1;have m:kR ws xs i=i:=Nat.le_antisymm (a ((pairsOf vs).size-1-i) i (by lia)) (b i h1);obtain⟨x,q,e,f⟩:=C.at_ p h1;rw[m]at f;have g:(x,q)∈(pairsOf vs).toList:=(cb.mp p).mem_iff.mp (aM.mpr (cf e));rw[pairsOf_toList]at g;have k:x=q:=(mem_zip_self g).1;have j:(xs.map (·.2))[i]?=Z q:=by rw[Array.getElem?_map,e];rfl
  have c:ws.toArray[i]?=Z x:=by rw[cg];exact f
  rw[aG1 (by rw[Array.size_map,p.size_eq];exact h1)]at j;rw[aG1 h2]at c;rw[Option.some.inj j,Option.some.inj c,k]
end
section
variable{prog:dG}{w:dI}{A:dH}{E:dD->dE->Prop}{s:dE}
theorem zX{p q:dD}{b:Bool}{Q:Bool->dE->Prop}(r:BH A.in1 s p q b)(h:Q b s):dN (model prog w) A (oneLt' J p q) Q E s:=by
 rw[oneLt'_eq];simp only[bF1,if_false];exact wB1 (wpAny_of_in1 (r prog w E _ (wpAny_truthy_bool h)))
theorem iU(f:Bool)(x y:dD):keyLt' (tuples' f) x y=(do
  let xs<-Builtin.List.listItems x
  let ys<-Builtin.List.listItems y
  for ((p,q),i) in (xs.toList.zip ys.toList).zipIdx do
   if !(<- eqBool p q)then return<-oneLt' (f&&i == 0) p q
  return decide (xs.size<ys.size)):=rfl
theorem GC{a b:dF}{f zs:List dD}{k:Bool}{Q:Bool->dE->Prop}(ha:IsTup s.heap a f.toArray)(hb:IsTup s.heap b zs.toArray)(L:uj A s f zs k)(h:Q k s):
  dN (model prog w) A (keyLt' (tuples' J) (.ref a) (.ref b)) Q E s:=by
 rw[iU];obtain⟨o,m,y,_,n⟩:=ha;obtain⟨B,r,v,_,u⟩:=hb;refine wB1 (listItems_at m n (wB1 (listItems_at r u ?_)));simp only[Bool.false_and];refine wB1 (wpAny_mono (wpAny_forIn_list _ (λrest c s'=>s'=s/\c=(Y,()) /\ ∃(i:Nat) (vs ws:List dD),rest=(vs.zip ws).zipIdx i/\uj A s vs ws k/\vs.length+zs.length=ws.length+f.length)
  (λc s'=>s'=s/\(c=(Z k,())\/(c=(Y,())/\k=decide (f.length<zs.length)))) ?_ ?_ _ _ ⟨O,O,0,f,zs,O,L,by lia⟩) ?_ λ_ _ e=>e)
 ·rintro x rest c s' ⟨rfl,rfl,i,vs,ws,d,j,g⟩;cases j with
  |nn=>simp at d
  |nc _ _=>simp at d
  |cn _ _=>simp at d
  | @eq p q ps l _ e t=>
   rw[bT,bL]at d;cases d;refine wB1 (e.of_in1 prog w E _ ?_);simp only[b5,bF1,if_false];exact wP1 ⟨O,O,i+1,ps,l,O,t,by simp at g;lia⟩
  | @lt p q ps l _ e t=>
   rw[bT,bL]at d;cases d;refine wB1 (e.of_in1 prog w E _ ?_);simp only[ci,if_true];exact wB1 (zX t (wP1 ⟨O,.inl O⟩))
 ·rintro c s' ⟨rfl,rfl,i,vs,ws,d,j,g⟩;refine⟨O,.inr ⟨O,?_⟩⟩;cases j with
  |nn=>simp at g;rw[ai (by lia)]
  |nc _ _=>simp at g;rw[ah (by lia)]
  |cn _ _=>simp at g;rw[ai (by lia)]
  |eq _ _=>simp at d
  |lt _ _=>simp at d
 ·rintro c s' ⟨rfl,z⟩;rcases z with rfl|⟨rfl,z⟩
  ·exact wP1 h
  ·refine wP1 ?_;rw[sT1,sT1,<- z];exact h
theorem k0{ao:Model}{α β:Type}{f:α->Sem β}{P:α->β->Prop}:∀ {l:List α} {Q:List β->dE->Prop},(∀ v∈l,∃ r,P v r /\ ∀ Q:β->dE->Prop,Q r s->dN ao A (f v) Q E s) ->
  (∀rs,rs.length=l.length->(∀r∈rs,∃v∈l,P v r)->Q rs s)->dN ao A (l.mapM f) Q E s
 |[],Q,_,q=>by rw[List.mapM_nil];exact wP1 (q [] rfl λr a=>by cases a)
 |v::l,Q,h,q=>by
  rw[List.mapM_cons];obtain⟨r,p,a⟩:=h v mS1;refine wB1 (a _ ?_);refine wB1 (k0 (λv b=>h v (mC1 _ b)) λrs e c=>?_);refine wP1 (q (r::rs) (by rw[lC1,lC1,e]) λx g=>?_);rcases aF.mp g with z|z
  ·exact⟨v,mS1,by rw[z];exact p⟩
  ·obtain⟨d,h1,h2⟩:=c x z;exact⟨d,mC1 _ h1,h2⟩
theorem tO(v:dD):firstOfTuple' v=(do
  if(<- typeOf v) != .type "tuple" then return Y
  return (<- Builtin.List.listItems v)[0]?):=rfl
theorem GE{vs:List dD}{Q:SortKind->dE->Prop}(k:vs≠[])(h:∀ v∈vs,∃ a p ps b c,v = .ref a/\IsTup s.heap a (p::ps).toArray/\p = .ref b/\IsTup s.heap b c)(q:Q (tuples' false) s):
  dN (model prog w) A (keyKind' vs.toArray) Q E s:=by
 rw[keyKind'_eq,cj,<- bind_pure_comp];refine wB1 (wB1 (k0 (P:=λ_ r=>∃b c,r=Z (.ref b)/\IsTup s.heap b c) (λv j=>?_) λrs C i=>wP1 ?_))
 ·obtain⟨a,p,ps,b,c,rfl,⟨o,g,m,_,B⟩,rfl,n⟩:=h v j;refine⟨Z (.ref b),⟨b,c,O,n⟩,λQ q=>?_⟩;rw[tO];refine wB1 (wpAny_typeOf (T:="tuple") ⟨o,g,m⟩ ?_);rw[aj (by decide)];refine wB1 (listItems_at g B (wP1 ?_));simpa using q
 ·have H:rs.toArray.all (·.isSome)=true:=by
   rw[ck,bC];intro r u;obtain⟨v,_,b,c,e,_⟩:=i r u;rw[e];rfl
  rw[ak H];refine wB1 (wpAny_rule ?_);rw[oneTypeOnly'_eq];have F:rs.toArray.filterMap id=(rs.filterMap id).toArray:=by simp
  rw[F,cj,<- bind_pure_comp];refine wB1 (wB1 (wB1 (k0 (P:=λ_ t=>t=Value.type "tuple") (λv j=>?_) λf d n=>wP1 ?_)))
  ·obtain⟨r,u,e⟩:=aL.mp j;obtain⟨I,_,b,c,y,⟨o,g,m,_⟩⟩:=i r u;rw[y]at e;cases e;exact⟨_,O,λQ q=>wpAny_typeOf (T:="tuple") ⟨o,g,m⟩ q⟩
  ·cases f with
   |nil=>
    exfalso;cases rs with
    |nil=>exact k (cm.mp C.symm)
    |cons r rs=>
     obtain⟨_,_,b,_,e,_⟩:=i r mS1;rw[e]at d;simp at d
   |cons t f=>
    have all:∀x∈t::f,x=Value.type "tuple":=λx l=>by obtain⟨_,_,z⟩:=n x l;exact z
    have D:=all t mS1;subst D;have G:((Value.type "tuple"::f).toArray.all λx=>x == Value.type "tuple")=M:=by
     rw[ck,bC];intro x l;rw[all x l];rfl
    show dN _ _ (pure (if((Value.type "tuple"::f).toArray.all λx=>x == Value.type "tuple")=M then Z (Value.type "tuple")else Y)) _ _ _;rw[ak G];exact wP1 (wP1 q)
end
section
variable{prog:dG}{w:dI}{A:dH}{E:dD->dE->Prop}{R:Result->dE->Prop}
end
section
variable{prog:dG}{w:dI}{A:dH}{E:dD->dE->Prop}{s:dE}
end
mutual
theorem uE{n:Nat}:∀k:TK,(tkD k).und n=M
 | .non=>rfl
 | .int _=>rfl
 | .tup xs=>by rw[tkD,D.und];exact vR xs
theorem vR{n:Nat}:∀ks:List TK,D.unds n (ic ks)=M
 |[]=>rfl
 |k::ks=>by rw[ic,D.unds,uE k,vR ks];rfl
end
section
variable{X:Cx}
end
def Hm(H:Hp)(a:dF):Prop:=(∃kvs,H a=Z (.dK kvs)) \/ ∃xs,H a=Z (.ext (gh a xs))
section
variable{X:Cx}
theorem Dr{ag:List (dF×Obj)}{σ:L2.St}{H:Hp}{s:dE}{a:dF}(I:Inv X ag σ H s)(h:Hm H a):(a == sysModules)=J /\ ∃o,s.heap.get? a=Z o/\o.ExactDict:=by
 rcases h with⟨kvs,e⟩|⟨xs,e⟩
 ·obtain⟨_,b,vs,_,o,es,ep,h1,h2,_⟩:=I.hok a _ e;exact⟨b,o,h1,h2⟩
 ·obtain⟨⟨b,_,o,es,ep,h1,h2,_⟩,_⟩:=(show eJ X.prog X.w H s.heap a (.ext (gh a xs))from I.hok a _ e);exact⟨b,o,h1,h2⟩
end
abbrev uk(h:dQ)(it d:dF)(i n ep:Nat):Prop:=h.get? it=Z {cls:=.type "dict_keyiterator",dict:=Y,data:=.fields #[.ref d,.int i 0,.int n 0,.int ep 0],slots:= #[]}
section
variable{prog:dG}{w:dI}{A:dH}{E:dD->dE->Prop}{s:dE}
theorem wF{it d:dF}{i ep:Nat}{es:Array DictEntry}{o:Obj}{Q:Option dD->dE->Prop}(f:uk s.heap it d i es.size ep)(hd:s.heap.get? d=Z o)(j:o.data = .dict es ep)(hi:i<es.size)(q:∀h',uk h' it d (i+1) es.size ep->Heap.SameBut it s.heap h'->Q (Z es[i].key) {s with heap:=h'}):dN (model prog w) A (pyNext (.ref it)) Q E s:=by
 have k:s.TypeIs (.ref it) "dict_keyiterator":=⟨_,f,O⟩;unfold pyNext;refine wB1 (wpAny_attempt (wpAny_callSpecial?_slot (name:=Str.ofString "__next__") k PySem.F.slot_dict_keyiterator_next
  (wE1 PySem.F.slot_dict_keyiterator_next k PySem.F.entry_dict_keyiterator_next ?_ (PySem.F.args_dict_keyiterator_next_1 _))))
 refine wB1 (wP1 (wB1 (wB1 (wB1 (wpAny_typeNameOfWhole_keyiter k (wP1 ?_))))));refine wB1 (wpAny_fieldsOf f O ?_);have h:Builtin.Dict_items.ownsTuple "dict_keyiterator"=J:=by decide
 simp only[h,bF1,if_false];show dN _ _ (if(Value.ref d == Value.none)=M then _ else _) _ _ s;rw[aj (show¬ ((Value.ref d == Value.none)=M)from aK)];refine wB1 (wP1 (wB1 (wpAny_dictEntries hd j ?_)));rw[aj (by simp)];refine wB1 (wP1 (wB1 (wpAny_dictEpoch hd j ?_)));rw[aj (by simp)];refine wP1 ?_;simp only[show¬ ((i:Int)<0)from by lia,if_false,Int.toNat_natCast,aG1 hi];refine wB1 (wB1 (wpAny_typeNameOfWhole_keyiter k (wP1 ?_)));refine wB1 (wpAny_isOneOf_keyiter k ?_);show dN _ _ (setField (.ref it) 1 (rawInt ((i:Int)+1)) >>= _) _ _ s;refine wB1 (wS1 f (by simp) λb a g=>?_);replace a:uk b it d (i+1) es.size ep:=by
  have e:((i+1:Nat):Int)=(i:Int)+1:=by lia
  unfold uk;rw[e];simpa[rawInt]using a
 have c:Shared.TypeIs {s with heap:=b} (.ref it) "dict_keyiterator":=⟨_,a,O⟩;refine wB1 (wpAny_holding (wB1 (wpAny_isOneOf_keyiter c ?_)));show dN _ _ (pure es[i].key) _ _ _;exact wP1 (wP1 ⟨_,O,wP1 (q b a g)⟩)
theorem AF{it d:dF}{i ep:Nat}{es:Array DictEntry}{o:Obj}{Q:Option dD->dE->Prop}(p:A.handled=Y)(c:uk s.heap it d i es.size ep)(hd:s.heap.get? d=Z o)(h:o.data = .dict es ep)(hi:es.size<=i)(q:∀h',(∀b o,b≠it->s.heap.get? b=Z o->h'.get? b=Z o)->Q Y {s with heap:=h'}):dN (model prog w) A (pyNext (.ref it)) Q E s:=by
 have j:s.TypeIs (.ref it) "dict_keyiterator":=⟨_,c,O⟩;unfold pyNext;refine wB1 (wpAny_attempt (wpAny_callSpecial?_slot (name:=Str.ofString "__next__") j PySem.F.slot_dict_keyiterator_next
  (wE1 PySem.F.slot_dict_keyiterator_next j PySem.F.entry_dict_keyiterator_next ?_ (PySem.F.args_dict_keyiterator_next_1 _))))
 refine wB1 (wP1 (wB1 (wB1 (wB1 (wpAny_typeNameOfWhole_keyiter j (wP1 ?_))))));refine wB1 (wpAny_fieldsOf c O ?_);have g:Builtin.Dict_items.ownsTuple "dict_keyiterator"=J:=by decide
 simp only[g,bF1,if_false];show dN _ _ (if(Value.ref d == Value.none)=M then _ else _) _ _ s;rw[aj (show¬ ((Value.ref d == Value.none)=M)from aK)];refine wB1 (wP1 (wB1 (wpAny_dictEntries hd h ?_)));rw[aj (by simp)];refine wB1 (wP1 (wB1 (wpAny_dictEpoch hd h ?_)));rw[aj (by simp)];refine wP1 ?_;simp only[show¬ ((i:Int)<0)from by lia,if_false,Int.toNat_natCast,cp hi];refine wB1 (wB1 (wpAny_typeNameOfWhole_keyiter j (wP1 ?_)));show dN _ _ (setField (.ref it) 0 .none >>= _) _ _ s;refine wB1 (wS1 c (by simp) λl k f=>?_);show dN _ _ (newExc (.type "StopIteration") [] >>= _) _ _ _;refine wB1 ?_;simp only[newExc,newTuple];refine wB1 (wO1 ?_ (by size_fits));refine wB1 (m:=firstArgMember _ _) (wpAny_of_eq (a:=Value.none) (by first|rfl|(simp only[firstArgMember];rfl)) ?_);refine wO1 ?_ (by size_fits);simp only[raiseNew];refine wB1 (wpAny_handled ?_);rw[show A.in1.handled=Y from p];refine wB1 (wP1 (wpAny_throw ?_));refine wB1 (wpAny_isInstance (T:="StopIteration") (b:=M) ⟨_,hS1 _ O,O⟩ isSubtype_stop ?_);exact wP1 (q _ λb o n e=>hP1 _ (hP1 _ (f.extBut b o n e)))
theorem wH {d:dF}{es:Array DictEntry}{ep:Nat}{o:Obj}{Q:dD->dE->Prop}(hm:(d == sysModules)=false)(hd:s.heap.get? d=some o)(hc:o.cls = .type "dict")(a:o.data = .dict es ep)(hn:es.size<=dM)
  (q:Q (.ref s.heap.objs.size) {s with heap:=s.heap.push {cls:=.type "dict_keyiterator",data:=.fields #[.ref d,.int 0 0,.int es.size 0,.int ep 0]}}):dN (model prog w) A (pyIter (.ref d)) Q E s:=by
 have b:s.TypeIs (.ref d) "dict":=⟨o,hd,hc⟩;refine wpAny_pyIter_slot b PySem.F.slot_dict_iter (wE1 PySem.F.slot_dict_iter b PySem.F.entry_dict_iter ?_ (PySem.F.args_dict_iter_1 _));unfold Builtin.«dict.__iter__»;refine wB1 ?_;unfold Builtin.Dict.dictSlotNone;refine wB1 (wpAny_notOrdered_dict b ?_);show dN _ _ (pure (Value.ref d)) _ _ s;refine wP1 ?_;show dN _ _ (Builtin.Dict.showsAll d >>= _) _ _ s;unfold Builtin.Dict.showsAll;rw[aj (by rw[hm];exact aK)];refine wB1 (wP1 (wB1 (wpAny_dictEntries hd a (wB1 (wpAny_dictEpoch hd a (wB1 ?_))))));refine wO1 (wP1 ⟨_,O,"dict_keyiterator",_,⟨_,hS1 _ O,O⟩,PySem.F.slot_dict_keyiterator_next.lookup,?_⟩);simpa[rawInt]using q
end
section
variable{prog:dG}{w:dI}{A:dH}{E:dD->dE->Prop}{R:Result->dE->Prop}
theorem Dd{it d S:dF}{ep:Nat}{es:Array DictEntry}{o:Obj}{r:dD}(H:A.handled=none)(n:o.data = .dict es ep)(h1:it≠d)(h2:S≠d)(D:S≠it)(hn:es.size<=dM):
  ∀(k i:Nat) (s:dE) (acc:Array dD) (c:Nat),es.size-i=k->i<=es.size->uk s.heap it d i es.size ep->s.heap.get? d=Z o ->
  s.heap.get? S=Z {cls:=.type "list",dict:=Y,data:=.seq acc c,slots:= #[]}->acc.toList=(es.toList.take i).map (·.key) ->
  (∀h' a F,(∀b u,b≠it->b≠S->s.heap.get? b=Z u->h'.get? b=Z u)->h'.get? S=Z {cls:=.type "list",dict:=Y,data:=.seq a F,slots:= #[]}->a.toList=es.toList.map (·.key)->R (.ok (.ret r)) {s with heap:=h'}) ->
  dP (model prog w) A (.builtin "list.extend.loop" ⟨[.ref S,.ref it,r],[]⟩) R s:=by
 intro k
 induction k with
 |zero=>
  intro i s acc c I hi h x z v E;have e:i=es.size:=by lia
  subst e;refine wD1 PySem.F.entry_extend_loop ?_;rw[Around.under_plainId PySem.F.plain_extend_loop _];show dN _ A.in1 (pyNext (.ref it) >>= _) _ _ s;refine wB1 (AF H h x n (nR1 _) λh' keep=>wP1 ?_);exact E h' acc c (λb u l _ e=>keep b u l e) (keep S _ D z) (by rw[v,<- aJ,bY])
 |succ k ih=>
  intro i s acc c I hi h x z v E;have j:i<es.size:=by lia
  have p:acc.size=i:=by rw[<- aJ,v,lM1,aR,aJ];lia
  refine wD1 PySem.F.entry_extend_loop ?_;rw[Around.under_plainId PySem.F.plain_extend_loop _];show dN _ A.in1 (pyNext (.ref it) >>= _) _ _ s;refine wB1 (wF h x n j λh' q y=>?_);have m:=y.extBut S _ D z;show dN _ A.in1 (updateSeq S (·.push es[i].key) >>= _) _ _ _;refine wB1 (wpAny_updateSeq (s:={s with heap:=h'}) m O ?_ (by rw[p];lia) (by show(acc.push _).size<=dM+1;rw[Array.size_push,p];lia));have f:∀b u,b≠S->h'.get? b=Z u->(h'.update S (Obj.mapSeq (·.push es[i].key))).get? b=Z u:=λb u l e=>by rw[hU1 _ _ _ _ l];exact e
  refine wP1 ⟨plainId_quiet PySem.F.plain_extend_loop _,ih (i+1) {s with heap:=h'.update S (Obj.mapSeq (·.push es[i].key))} (acc.push es[i].key) _ (by lia) j (f it _ (Ne.symm D) q) (f d _ (Ne.symm h2) (y.extBut d _ (Ne.symm h1) x)) (hW1 _ m O) ?_ ?_⟩
  ·rw[cq,v,cr,aT1,aG1 j,cu];rfl
  ·intro C a F g B G;exact E C a F (λb u l t e=>g b u l t (f b u t (y.extBut b u l e))) B G
theorem Bd:typeLookup (.type "dict") "__len__"=pure (Z (.builtin "dict.__len__")):=by rw[typeLookup_type,builtinLookup_eq_fast];kernel_rfl
theorem De {s:dE}{v:dF}{Q:Bool->dE->Prop}(c:s.TypeIs (.ref v) "dict")(q:Q J s):dN (model prog w) A (Builtin.List.listLengthHint (.ref v)) Q E s:=by
 unfold Builtin.List.listLengthHint;refine wB1 (wpAny_specialOf c Bd ?_);generalize a:("dict.__len__":String)=id0
 wp_delta
 rw[show splitId id0=Z ("dict","__len__")from by subst a;decide+kernel];subst a;refine wB1 (wpAny_isInstance (b:=M) c (by rw[isSubtype_type];kernel_rfl) ?_);rw[aj (by decide)];dsimp only;rw[ak (by decide+kernel)];refine wB1 (wpAny_typeOf c ?_);exact wP1 q
theorem wG {s:dE}{d:dF}{es:Array DictEntry}{ep:Nat}{o:Obj}{Q:dD->dE->Prop}(am:A.handled=none)(hm:(d == sysModules)=false)(hd:s.heap.get? d=some o)(hc:o.cls = .type "dict")(y:o.data = .dict es ep)(hn:es.size<=dM)
  (q:∀h' G,(∀b u,s.heap.get? b=Z u->h'.get? b=Z u)->h'.get? s.heap.objs.size=Z {cls:=.type "list",dict:=Y,data:=.seq (es.toList.map (·.key)).toArray G,slots:= #[]}->Q (.ref s.heap.objs.size) {s with heap:=h'}):
  dN (model prog w) A (call (.type "list") [.ref d]) Q E s:=by
 have i:d<s.heap.objs.size:=hL1 hd;refine callType_codes (Q₁:=λz j=>z = .ref s.heap.objs.size/\j={s with heap:=s.heap.push {cls:=.type "list",data:=.seq #[]}}) PySem.F.called_list (PySem.F.typeCall_list_1 _) PySem.F.entry_list_init
  (code_list_new _ ⟨O,O⟩) λz j a=>?_
 obtain⟨rfl,rfl⟩:=a;have D:(s.heap.push {cls:=.type "list",data:=.seq #[]}).get? s.heap.objs.size=Z {cls:=.type "list",data:=.seq #[]}:=hS1 _ O;refine⟨⟨_,D,O⟩,PySem.F.args_list_init_2 _ _,?_⟩;have C:∀b u,s.heap.get? b=Z u->(s.heap.push {cls:=.type "list",data:=.seq #[]}).get? b=Z u:=λb u e=>hP1 _ e;have l:(s.heap.push {cls:=.type "list",data:=.seq #[]}).objs.size=s.heap.objs.size+1:=by rw[hZ1]
 generalize s.heap.push {cls:=.type "list",data:=.seq #[]}=a at *
 show dN _ A.in1.in1 (do let old<-Builtin.List.listItems (.ref s.heap.objs.size);Builtin.List.listUpdate (.ref s.heap.objs.size) (λ_=> #[]);letGo old.toList.reverse;Builtin.List.listExtendWith (.ref s.heap.objs.size) (.ref d) .none) _ _ {s with heap:=a};refine wB1 (listItems_at D O ?_);show dN _ A.in1.in1 (updateSeq s.heap.objs.size (λ_=> #[]) >>= λ_=>letGo (#[]:Array dD).toList.reverse >>= λ_=>Builtin.List.listExtendWith (.ref s.heap.objs.size) (.ref d) .none) _ _ {s with heap:=a};refine wB1 (wpAny_updateSeq (s:={s with heap:=a}) D O ?_);have r:=hW1 (Obj.mapSeq (λ_=>(#[]:Array dD))) D O;have h:∀b u,s.heap.get? b=Z u->(a.update s.heap.objs.size (Obj.mapSeq (λ_=>(#[]:Array dD)))).get? b=Z u:=λb u e=>by rw[hU1 _ _ _ _ (nN1 (hL1 e))];exact C b u e
 have m:(a.update s.heap.objs.size (Obj.mapSeq (λ_=>(#[]:Array dD)))).objs.size=s.heap.objs.size+1:=by rw[Heap.size_update,l]
 generalize a.update s.heap.objs.size (Obj.mapSeq (λ_=>(#[]:Array dD)))=h₂ at *
 refine wB1 (wpAny_letGo ?_);unfold Builtin.List.listExtendWith;have p:Shared.TypeIs {s with heap:=h₂} (.ref d) "dict":=⟨o,h d o hd,hc⟩;refine wB1 (wpAny_typeOf p ?_);have h1:Builtin.List.listSameRef (.ref s.heap.objs.size) (.ref d)=J:=by simp[Builtin.List.listSameRef,nG1 i]
 rw[aj (by rw[h1];decide)];refine wB1 (wH (s:={s with heap:=h₂}) hm (h d o hd) hc y hn ?_);dsimp only;have B:uk (h₂.push {cls:=.type "dict_keyiterator",data:=.fields #[.ref d,.int 0 0,.int es.size 0,.int ep 0]}) h₂.objs.size d 0 es.size ep:=hS1 _ O;have c:=hP1 {cls:=.type "dict_keyiterator",data:=.fields #[.ref d,.int 0 0,.int es.size 0,.int ep 0]} r;have g:∀b u,s.heap.get? b=Z u->(h₂.push {cls:=.type "dict_keyiterator",data:=.fields #[.ref d,.int 0 0,.int es.size 0,.int ep 0]}).get? b=Z u:=λb u e=>hP1 _ (h b u e);generalize h₂.push {cls:=.type "dict_keyiterator",data:=.fields #[.ref d,.int 0 0,.int es.size 0,.int ep 0]}=h₃ at *
 rw[m]at B ⊢;have k:Shared.TypeIs {s with heap:=h₃} (.ref d) "dict":=⟨o,g d o hd,hc⟩;refine wB1 (wpAny_holding (De k ?_));rw[ak (by decide+kernel)];refine wB1 (wpAny_rule (wB1 ?_));show dN _ A.in1.in1 (updateSeq s.heap.objs.size (·.push .none) >>= λ_=>updateSeq s.heap.objs.size (·.pop)) _ _ _;refine wB1 (wpAny_updateSeq (s:={s with heap:=h₃}) c O ?_);have f:=hW1 (Obj.mapSeq (·.push Value.none)) c O;refine wpAny_updateSeq (s:={s with heap:=h₃.update s.heap.objs.size (Obj.mapSeq (·.push Value.none))}) f O ?_;have t:=hW1 (Obj.mapSeq (·.pop)) f O;have n:∀b u,b≠s.heap.objs.size->h₃.get? b=Z u->((h₃.update s.heap.objs.size (Obj.mapSeq (·.push Value.none))).update s.heap.objs.size (Obj.mapSeq (·.pop))).get? b=Z u:=λb u v e=>by
  rw[hU1 _ _ _ _ v,hU1 _ _ _ _ v];exact e
 have x:s.heap.objs.size+1≠s.heap.objs.size:=Nat.succ_ne_self _;refine wP1 ⟨plainId_quiet PySem.F.plain_extend_loop _,Dd (A:=A.in1) (it:=s.heap.objs.size+1) (o:=o) am y (nG1 (cv i)) (nG1 i) (Ne.symm x) hn es.size 0
  {s with heap:=(h₃.update s.heap.objs.size (Obj.mapSeq (·.push Value.none))).update s.heap.objs.size (Obj.mapSeq (·.pop))} _ _ O (bi _) (n _ _ x B) (n d o (nN1 i) (g d o hd)) t O λh' H G keep F I=>⟨O,?_⟩⟩
 refine q h' G (λb u e=>?_) (by rw[F,<- I,Array.toArray_toList]);have v:b<s.heap.objs.size:=hL1 e;exact keep b u (nN1 (cv v)) (nN1 v) (n b u (nN1 v) (g b u e))
noncomputable def AX:G1:=λd S=>match d with
 | .ref n=>match S[n]? with
  |some (.dcT kvs)=>Z (.ref S.length,S++[.lst (kvs.map λp=>tkD p.1)])
  |some (.dct [])=>Z (.ref S.length,S++[.lst []])
  |_=>DD d S
 |_=>DD d S
end
section
variable{X:Cx}
theorem KT.keys{K:Fg1}{H:Hp}{mu:List dF}:∀{ks:List (TK×D)} {ws:List (TK×dF×dD)},KT K H mu ks ws->d4 K H mu (ks.map λp=>tkD p.1) (ws.map λx=>V.ref x.2.1)
 |_,_,.nil=>.nil
 |_,_,.cons ⟨z,d,k,_⟩ t=>.cons k (KT.keys t)
theorem pp:∀ws:List (TK×dF×dD),ei (ws.map λx=>V.ref x.2.1) (ws.map λx=>Value.ref x.2.1)
 |[]=>.nil
 |_::ws=>.cons O (pp ws)
theorem DT(k:X.calm=M):e9 X (.type "list") (rN X.K (b1 AX)):=by
 intro ag s σ H xs A Q I r h;obtain⟨x,mu,S,d,D,B,t,q,i,e,hc⟩:=Ch h;have back:DD d S=Z (D,B)->dN (model X.prog X.w) X.A (call (.type "list") A) (EP X ag σ Q) X.xe s:=λe=>G4 ag s σ H xs A Q I r (by rw[t];exact⟨mu,S,[d],D,B,.cons q .nil,i,e,hc⟩);unfold AX at e;split at e
 ·rename_i n;split at e
  ·rename_i kvs p;cases e;subst t;obtain⟨u,rfl,r2⟩:=hA r;cases q with
   | @ref _ a v=>
    cases r2;obtain⟨ws,h1,h2,C⟩:=i.dcT p v;obtain⟨⟨g,_,o,es,ep,m,w,y,l⟩,_⟩:=(show eJ X.prog X.w H s.heap a (.ext (gh a ws))from I.hok a _ h1);have f:es.size<=dM:=by rw[<- aJ,l,lM1];exact C
    refine wG (I.ok.hd k) g m w.1 y f λh' z keep c=>?_;have b:=I.hok.fresh (nR1 s.heap.objs.size);have E:ei (ws.map λx=>V.ref x.2.1) (es.toList.map (·.key)):=by
     rw[l,bu];exact pp ws
    refine⟨.ref s.heap.objs.size,_,I.laid (t':=s.toks) (o:=.lst (ws.map λx=>V.ref x.2.1)) keep (nR1 _) ⟨by rw[lM1];exact C,_,z,E,c⟩,O,hc _ _ (mu++[_]) (Ext.new_ b) (.ref (fS i.len _)) (i.newL h2.keys b)⟩
  ·rename_i p;cases e;subst t;obtain⟨u,rfl,r2⟩:=hA r;cases q with
   | @ref _ a v=>
    cases r2;obtain⟨ws,h1,h2⟩:=i.dct p v;cases h2;obtain⟨_,g,vs,m,o,es,ep,w,y,l,F⟩:=I.hok a _ h1;cases m;have j:es.toList=[]:=cm.mp (by have:=F.2.1.length;simpa using this);have f:es.size=0:=by rw[<- aJ,j];rfl
    refine wG (I.ok.hd k) g w y.1 l (by rw[f];exact bi _) λh' z keep c=>?_;have b:=I.hok.fresh (nR1 s.heap.objs.size);rw[j]at c
    exact⟨.ref s.heap.objs.size,_,I.laid (t':=s.toks) (o:=.lst []) keep (nR1 _) ⟨bi _,[],z,.nil,c⟩,O,hc _ _ (mu++[_]) (Ext.new_ b) (.ref (fS i.len _)) (i.newL .nil b)⟩
  ·exact back e
 ·exact back e
noncomputable def JY(X:Cx)(td ty tx:TE):TE:=fun σ H Q=>td σ H λx H1=>∃a,x = .ref a/\Hm H1 a/\ty σ H1 λy H2=>tx σ H2 λz H3=>
 ∀ag s u r,Inv X ag σ H3 s->d6 y u->d6 z r->dN (model X.prog X.w) X.A (call (.builtin "dict.get") [.ref a,u,r]) (EP X ag σ Q) X.xe s
theorem FF {o e f:Expr}{apos cpos:Pos}{td ty tx:TE}(ho:PE X o td)(he:PE X e ty)(hf:PE X f tx)(m:M2 X o "get" apos e f cpos):PE X (.Call (.Attribute o "get" apos) [e,f] [] cpos) (JY X td ty tx):=by
 intro ag s σ H Q I h;refine wpAny_Call_method m.base m.few m.line PySem.F.plainAttrs_dict PySem.F.slot_dict_get PySem.F.type_dict_get (fj (ho ag s σ H _ I h) λu D ⟨x,H1,j,C,a,ex,d,v⟩=>?_);subst ex;obtain rfl:u=Value.ref a:=C;obtain⟨_,o',i,c⟩:=Dr j d;refine⟨⟨o',i,c.1⟩,λb l=>by cases l;exact⟨o',i,c.2.1⟩,?_⟩;rw[m.trees];refine Calls.callWith_builtin O (Calls.evalArgs_plain (Calls.spliced_cons (fj (he ag D σ H1 _ j v) λn B ⟨y,H2,w,q,A⟩=>
  Calls.spliced_cons (fj (hf ag B σ H2 _ w A) λk r ⟨z,E,t,p,g⟩=>Calls.spliced_nil ?_))))
 exact g ag r n k t q p
noncomputable def yz(S:Sto)(n:Nat):Option (List (TK×D)):=match S[n]? with
 |some (.dcT kvs)=>Z kvs
 |some (.dct [])=>Z []
 |_=>Y
theorem w5{H:Hp}{mu:List dF}{S:Sto}{n:Nat}{a:dF}{kvs:List (TK×D)}(hs:Sim X.K H mu S)(hn:mu[n]? = some a)(h:yz S n=some kvs):
  Hm H a /\ ∃xs,KT X.K H mu kvs xs /\ ∀ag σ s,Inv X ag σ H s->(a == sysModules)=J/\s.heap.DictOfH (fR X.prog X.w) a xs:=by
 unfold yz at h;split at h
 ·rename_i ks d;cases h;obtain⟨xs,h1,h2,l⟩:=hs.dcT d hn;exact⟨.inr ⟨xs,h1⟩,xs,h2,λag σ s I=>tY I h1 h2⟩
 ·rename_i d;cases h;obtain⟨ws,h1,h2⟩:=hs.dct d hn;cases h2;refine⟨.inl ⟨[],h1⟩,[],.nil,λag σ s I=>?_⟩;obtain⟨_,b,vs,f,o,es,ep,g,e,i,j⟩:=I.hok a _ h1;cases f;have c:es.toList=[]:=cm.mp (by have:=j.2.1.length;simpa using this);exact⟨b,o,es,ep,g,e,i,c,λx k=>(by cases k),bo⟩
 ·cases h
noncomputable def rE(m a b:FE):FE:=λr S=>(m r S).bind λp=>match p.1 with
 | .ref n=>(yz p.2 n).bind λ_=>(a r p.2).bind λq=>(b r q.2).bind λt=>(yz t.2 n).bind λkvs=>(keyT q.1).map λk=>((d3 kvs k).getD t.1,t.2)
 |_=>Y
theorem xr {o e f:Expr}{apos cpos:Pos}{m a b:FE}(hu:X.A.units+64<cLine)(ho:XE X o m)(he:XE X e a)(hf:XE X f b)(hm:M2 X o "get" apos e f cpos:=by exact⟨O,O,O,O⟩):XE X (.Call (.Attribute o "get" apos) [e,f] [] cpos) (rE m a b):=
 ⟨eV (FF ho.h he.h hf.h hm) <| by
  rintro σ H Q ⟨r,mu,S,d,S',he,hs,hm,hc⟩;obtain⟨⟨L,E⟩,aq,hm⟩:=oB1.mp hm;refine⟨r,mu,S,L,E,he,hs,aq,λv1 H1 mu1 j au K=>?_⟩;dsimp only at hm;split at hm
  ·rename_i n;obtain⟨N,t,hm⟩:=oB1.mp hm;cases au with
   | @ref _ C G=>
    refine⟨C,O,(w5 K G t).1,?_⟩;obtain⟨⟨d2,D⟩,T,hm⟩:=oB1.mp hm;obtain⟨⟨P,R⟩,U,hm⟩:=oB1.mp hm;refine⟨r,mu1,E,d2,D,he.ext j,K,T,λv2 H2 y i r2 V=>?_⟩;refine⟨r,y,D,P,R,(he.ext j).ext i,V,U,λv3 h g l r3 x=>?_⟩;obtain⟨kvs,ao,hm⟩:=oB1.mp hm;obtain⟨k,ek,hm⟩:=oM1.mp hm;cases hm;intro ag s u w I ru B;obtain⟨_,xs,F,W⟩:=w5 x (l.at (i.at G)) ao;obtain⟨A,am⟩:=W ag σ s I;obtain⟨b,rfl,rfl,_,_,hi⟩:=jj I (r2.ext l) ru ek;refine call_meetsIn PySem.F.slot_dict_get am.typeIs PySem.F.entry_dict_get (PySem.F.args_dict_get_3 _ _ _) (meetsH_dict_get_default (fR X.prog X.w) C b A w) ⟨iO hu,k,xs,hi,am,?_⟩;show EP X ag σ Q (((atKey xs k).map (·.2)).getD w) _;cases ez:d3 kvs k with
    |none=>
     have c:=(F.look (k:=k)).2;rw[ez]at c hc;have q:atKey xs k=Y:=by
      cases q:atKey xs k with
      |none=>rfl
      |some _=>rw[q]at c;cases c
     rw[q];exact⟨v3,h,I.tok _,B,hc _ h g ((j.trans i).trans l) r3 x⟩
    |some z=>
     obtain⟨p,v,e4,wq,rd⟩:=F.look.1 z ez;rw[ez]at hc;rw[e4];exact⟨v,h,I.tok _,wq,hc _ h g ((j.trans i).trans l) rd x⟩
  ·cases hm⟩
end
def NF(X:Cx)(a:dF):Prop:=(∀xs,X.H₀ a≠Z (.tup xs))/\(∀o v,X.H₀ a≠Z (.frz o v)) /\ ∀ps,X.H₀ a≠Z (.tbl ps)
section
variable{X:Cx}{ag:List (dF×Obj)}{σ:L2.St}{H:Hp}{s:dE}{a:dF}{u v:HO}
theorem tF(I:Inv X ag σ H s)(e:H a=Z u)(d:NF X a)(h1:∀c,u ≠ .own c)(h2:∀xs,u ≠ .tup xs)(new:eJ X.prog X.w H s.heap a v):Inv X ag σ (upd H a v) s:=by
 have ne:∀{b:dF},H b=Y->b≠a:=λ{b} z=>by rintro rfl;rw[e]at z;cases z
 have f:∀b c,H b=Z (.own c)->upd H a v b=Z (.own c):=λb c z=>by
  rw[dZ (by rintro rfl;rw[e]at z;cases z;exact h1 _ O)];exact z
 have h:∀b xs,H b=Z (.tup xs)->upd H a v b=Z (.tup xs):=λb xs z=>by
  rw[dZ (by rintro rfl;rw[e]at z;cases z;exact h2 _ O)];exact z
 refine⟨I.ok,I.os,I.bare,⟨I.base.keep,I.base.slot,λb o q n l=>?_,I.base.there,λb xs q=>?_,λb o w q=>?_,λb ps q=>?_⟩,I.loc,I.cell,?_,λx c q=>?_,λp j=>?_,λb w q=>?_,I.len⟩
 ·have z:=I.base.free b o q n l;rw[dZ (ne z)];exact z
 ·rw[dZ (by rintro rfl;exact d.1 _ q)];exact I.base.tups b xs q
 ·rw[dZ (by rintro rfl;exact d.2.1 _ _ q)];exact I.base.frzs b o w q
 ·rw[dZ (by rintro rfl;exact d.2.2 _ q)];exact I.base.tbls b ps q
 ·rw[dZ (ne I.free)];exact I.free
 ·rw[dZ (ne (I.freeC x c q))];exact I.freeC x c q
 ·obtain⟨i,p2,k⟩:=I.pin p j;exact⟨i,by rw[dZ (ne p2)];exact p2,k⟩
 ·by_cases g:b=a
  ·subst g;rw[d9]at q;cases q;exact new.stay (λc o _ z=>z) (λc z=>f c _ z) λc xs z=>h c xs z
  ·rw[dZ g]at q;exact(I.hok b w q).stay (λc o _ z=>z) (λc z=>f c _ z) λc xs z=>h c xs z
end
inductive yP (a:dF):List (TK×dF×dD)->HO->Prop
 |ext (xs:List (TK×dF×dD)):yP a xs (.ext (gh a xs))
 |dK:yP a [] (.dK [])
noncomputable def ItD(a:dF)(o:Obj)(xs:List (TK×dF×dD)):It:=
 ⟨λi H=>(∃u,H a=Z (.frz o u))/\i<xs.length,λi H x H'=>H'=H /\ ∃q,xs[i]?=Z q/\x = .ref q.2.1,λi H=>(∃u,H a=Z (.frz o u))/\xs.length<=i⟩
theorem xz{P:dG}{w:dI}{K:Fg1}{tg:Expr}{a it:dF}{o:Obj}{xs:List (TK×dF×dD)}{es:Array DictEntry}{ep:Nat}(hd:o.data = .dict es ep)(c:es.toList=xs.map fun x=>(⟨x.1.hash,.ref x.2.1,x.2.2⟩:DictEntry)):
  vH P w K tg (ItD a o xs) [it] it (λi h=>uk h it a i es.size ep) where
 mem:=by simp
 obj:=λi h st b d=>by
  have e:b=it:=by simpa using d
  subst e;exact⟨_,st,λv z=>by cases z⟩
 keep:=λi h h' st k=>k it (by simp) _ st
 item:=by
  intro X B j p hc i ag s σ H E I f st g;subst B j p;obtain⟨⟨u,t⟩,hi⟩:=g;obtain⟨q,_⟩:=(show eJ X.prog X.w H s.heap a (.frz o u)from I.hok a _ t);have l:es.size=xs.length:=by rw[<- aJ,c,lM1]
  obtain⟨m,A,F,y,n,r⟩:=f it (by simp);refine wF st q hd (by omega) λh' st' C=>?_;have D:Inv X ag σ H {s with heap:=h'}:=I.turned (t':=s.toks) (λb o d e=>(C.2 b d).trans e) m A y n r;have G:es[i].key = .ref (xs[i]).2.1:=by
   have:es.toList[i]?=(xs.map λx=>(⟨x.1.hash,.ref x.2.1,x.2.2⟩:DictEntry))[i]?:=by rw[c]
   rw[aT1,aG1 (by omega),gP1,gG1 hi]at this;have:=Option.some.inj this;rw[this]
  refine⟨_,O,wQ (s:={s with heap:=h'}) st' O O (by decide) ⟨.ref (xs[i]).2.1,H,D,G,⟨O,_,gG1 hi,O⟩,st',λb d=>(f b d).1⟩⟩
 done:=by
  intro X B j p hc i ag s σ H E I f st g;subst B j p;obtain⟨⟨u,t⟩,hi⟩:=g;obtain⟨q,_⟩:=(show eJ X.prog X.w H s.heap a (.frz o u)from I.hok a _ t);have l:es.size=xs.length:=by rw[<- aJ,c,lM1]
  obtain⟨m,A,F,y,n,r⟩:=f it (by simp);exact AF (I.ok.hd hc) st q hd (by omega) λh' am=>⟨O,I.turned (t':=s.toks) (λb o d e=>am b o d e) m A y n r⟩
 self:=λ_ _ _ _ _ st h=>wpAny_pyIter_keyiter ⟨_,st,O,O⟩ h
noncomputable def IN(X:Cx)(tl:TE):TI:=fun σ H R=>tl σ H λx H1=>∃a xs u,x = .ref a/\H1 a=Z u/\yP a xs u/\xs.length<=dM /\ ∀o,xm a xs o->NF X a->R (ItD a o xs) (upd H1 a (.frz o u))
theorem GX{X:Cx}{ag:List (dF×Obj)}{σ:L2.St}{H:Hp}{s:dE}{a:dF}{u:HO}{xs:List (TK×dF×dD)}(I:Inv X ag σ H s)(e:H a=Z u)(h:yP a xs u):∃o,s.heap.get? a=Z o/\xm a xs o:=by
 cases h with
 |ext xs=>
  obtain⟨⟨h1,h2,o,es,ep,b,f,c,d⟩,_⟩:=(show eJ X.prog X.w H s.heap a (.ext (gh a xs))from I.hok a _ e);exact⟨o,b,h1,h2,f,es,ep,c,d⟩
 |dK=>
  obtain⟨_,h1,vs,h2,b⟩:=(show eJ X.prog X.w H s.heap a (.dK [])from I.hok a _ e);cases h2;obtain⟨o,es,ep,b,f,c,d,_⟩:=oz b;exact⟨o,b,h1,bo,f,es,ep,c,d⟩
theorem GW{X:Cx}{ag:List (dF×Obj)}{σ:L2.St}{H:Hp}{s:dE}{a:dF}{u:HO}{xs:List (TK×dF×dD)}(I:Inv X ag σ H s)(e:H a=Z u)(h:yP a xs u):NF X a:=by
 refine⟨λys q=>?_,λo v q=>?_,λps q=>?_⟩
 ·have:=I.base.tups a ys q;rw[e]at this;cases this;cases h
 ·have:=I.base.frzs a o v q;rw[e]at this;cases this;cases h
 ·obtain⟨m,z⟩:=I.base.tbls a ps q;rw[e]at z;cases z;cases h
theorem Fq{X:Cx}{tg l:Expr}{tl:TE}(B:PE X l tl):PI X tg l (IN X tl):=by
 intro ag s σ H R I h;refine fj (B ag s σ H _ I h) λv s1 ⟨x,H1,d,t,A⟩=>?_;obtain⟨a,xs,u,e,g,f,D,q⟩:=A;subst e;cases t;obtain⟨o,i,j⟩:=GX d g f;have k:=GW d g f;have q:=q o j k;obtain⟨C,E,r,es,ep,m,p⟩:=j;have y:es.size=xs.length:=by rw[<- aJ,p,lM1]
 refine wH C i r.1 m (by lia) ?_;have n:Inv X ag σ (upd H1 a (.frz o u)) s1:=tF d g k (λc z=>by subst z;cases f) (λc z=>by subst z;cases f) ⟨i,d.hok a _ g⟩;refine⟨s1.heap.objs.size,[s1.heap.objs.size],_,_,_,O,n.kept (t':=s1.toks) λb o e=>hP1 _ e,xz m p,hS1 _ O,λb w=>?_,q⟩;have e:b=s1.heap.objs.size:=by simpa using w
 subst e;exact d.fpOk (nR1 _) (n.hok.fresh (nR1 _))
noncomputable def AG:Ob->Option (List (TK×D))
 | .dcT kvs=>Z kvs
 | .dct []=>Z []
 |_=>Y
noncomputable def l0(k:Nat)(keep:List Nat)(m:FE)(g:FG)(t:FT)(b:FV):FE:=λr S=>(m r S).bind λp=>match p.1 with
 | .ref n=>(p.2[n]?).bind fun ob=>(AG ob).bind fun kvs=>(fM [] g t b (kvs.map fun q=>tkD q.1) (rL k keep r) (p.2.set n (.dcF kvs))).bind fun q=>
   if q.1.length<=dM then Z (.ref q.2.2.length,q.2.2.set n ob++[.lst q.1])else Y
 |_=>Y
section
variable{K:Fg1}{H H':Hp}{mu mu':List dF}{S:Sto}{n:Nat}{a:dF}{o:Obj}{u:HO}
theorem kl.exv{b:dF}(e:yV mu mu' H H')(h:∀o,H b=Z o->H' b=Z o):∀{o:Ob},kl K H mu b o->kl K H' mu' b o
 | .lst _,⟨vs,q,r⟩=>⟨vs,h _ q,r.exv e⟩
 | .dct _,⟨ws,q,r⟩=>⟨ws,h _ q,Paired.mapP r λ_ _ z=>⟨z.1,z.2.exv e⟩⟩
 | .dcT _,⟨ws,q,r,l⟩=>⟨ws,h _ q,Paired.mapP r λ_ _ ⟨z,d,k,v,a,r⟩=>⟨z,d,k.exv e,v,a,r.exv e⟩,l⟩
 | .iset _,q=>⟨h _ q.1,q.2⟩
 | .dcF _,⟨ws,⟨o,u,f,c⟩,r,l⟩=>⟨ws,⟨o,u,h _ f,c⟩,Paired.mapP r λ_ _ ⟨z,d,k,v,a,r⟩=>⟨z,d,k.exv e,v,a,r.exv e⟩,l⟩
 | .tst _,⟨ws,q,r⟩=>⟨ws,h _ q,Paired.mapP r λ_ _ ⟨z,d,k,v,a,r⟩=>⟨z,d,k.exv e,v,a,r.exv e⟩⟩
theorem sm(e:H a=Z (.frz o u))(h1:∀xs,u ≠ .tup xs)(h2:∀xs,u ≠ .lst xs):yV mu mu H (upd H a u) where
 pre:=bn
 tup:=λb xs h=>by
  have ne:b≠a:=by
   rintro rfl;rcases h with h|⟨_,h⟩<;>(rw[e]at h;cases h)
   exact h1 _ O
  rcases h with h|⟨c,h⟩
  ·exact .inl (by rw[dZ ne];exact h)
  ·exact .inr ⟨c,by rw[dZ ne];exact h⟩
 frl:=λb c xs h=>by
  rw[dZ (by rintro rfl;rw[e]at h;cases h;exact h2 _ O)];exact h
theorem Sim.thaw(s:Sim K H mu S){c:Ob}(hn:mu[n]?=Z a)(x:yV mu mu H (upd H a u))(ho:kl K (upd H a u) mu a c):Sim K (upd H a u) mu (S.set n c):=by
 refine⟨by rw[aW];exact s.len,s.nd,λk o' b h1 h2=>?_⟩;by_cases d:n=k
 ·subst d;have h:n<S.length:=by
   have:=(gE1.mp h1).1
   rwa [aW]at this
  rw[aI h]at h1;cases h1;rw[hn]at h2;cases h2;exact ho
 ·rw [gS1 d] at h1;have ne:b≠a:=fun e=>by
   subst e;obtain⟨j,f⟩:=gE1.mp hn;obtain⟨i,g⟩:=gE1.mp h2;exact d ((List.getElem_inj s.nd).mp (f.trans g.symm))
  exact(s.ob k o' b h1 h2).exv x λc e=>by rw[dZ ne];exact e
theorem Dl(s:Sim K H mu S){ob:Ob}{kvs:List (TK×D)}(h:S[n]? = some ob)(hk:AG ob=some kvs)(hn:mu[n]? = some a):
  ∃xs u,H a=Z u/\yP a xs u/\KT K H mu kvs xs/\xs.length<=dM /\ ∀H' mu',yV mu mu' H H'->H' a=Z u->kl K H' mu' a ob:=by
 cases ob with
 |dcT ks=>
  cases hk;obtain⟨xs,e,r,l⟩:=s.dcT h hn;exact⟨xs,_,e,.ext xs,r,l,λH' mu' x b=>⟨xs,b,Paired.mapP r λ_ _ ⟨z,d,k,v,c,r⟩=>⟨z,d,k.exv x,v,c,r.exv x⟩,l⟩⟩
 |dct ks=>
  cases ks with
  |nil=>
   cases hk;obtain⟨ws,e,r⟩:=s.dct h hn;cases r;exact⟨[],_,e,.dK,.nil,bi _,λH' mu' x b=>⟨[],b,.nil⟩⟩
  |cons _ _=>cases hk
 |_=>cases hk
end
theorem KT.keyOf{K:Fg1}{H:Hp}{mu:List dF}{ks:List (TK×D)}{ws:List (TK×dF×dD)}(h:KT K H mu ks ws){i:Nat}{d:D}(e:(ks.map λq=>tkD q.1)[i]?=Z d){q:TK×dF×dD}(b:ws[i]?=Z q):eK K H mu d (.ref q.2.1):=by
 obtain⟨v,a,c⟩:=h.keys.get e;rw[gP1,b]at a;cases a;exact c
theorem Bh{X:Cx}{K:Fg1}{k:Nat}{keep:List Nat}{m:FE}{g:FG}{t:FT}{b:FV}{tb:dF->TS}(hb:∀ a E σ H,EQ K a b E σ H->tb a E σ H){σ:L2.St}{H:Hp}{Q:VK}(h:tM K (l0 k keep m g t b) σ H Q):
  vW k keep (IN X (tM K m)) (Ca K g) (xA K t) tb σ H (λv H'=>∃a o u,H' a=Z (.frz o u)/\(∀xs,u ≠ .tup xs)/\NF X a/\Q v (upd H' a u)):=by
 obtain⟨r,mu,S,d,S',he,hs,s,hc⟩:=h;obtain⟨⟨d1,S1⟩,e1,s⟩:=oB1.mp s;cases d1 with
 |ref n=>
  obtain⟨x,eo,s⟩:=oB1.mp s;obtain⟨kvs,ek,s⟩:=oB1.mp s;obtain⟨⟨ys,r2,I⟩,e2,s⟩:=oB1.mp s;dsimp only at s;split at s
  ·rename_i hl;cases s;refine⟨r,mu,S,.ref n,S1,he,hs,e1,λv H1 mu1 x1 r1 s1=>?_⟩;cases r1 with
   | @ref _ a C=>
   obtain⟨xs,u,au,A,B,hz,back⟩:=Dl s1 eo ek C;refine⟨a,xs,u,O,au,A,hz,λo hO nf p f=>?_⟩;have mt:Mut (Z u):=by cases A<;>trivial
   have put:Ext mu1 mu1 H1 (upd H1 a (.frz o u)):=Ext.put au mt (gM1 C);have sf:Sim K (upd H1 a (.frz o u)) mu1 (S1.set n (.dcF kvs)):=s1.put C au mt ⟨xs,⟨o,u,d9,hO⟩,KT.ext put B,hz⟩;have l:p≠a:=by rintro rfl;rw[d9]at f;cases f
   have R:Ext mu1 mu1 (upd H1 a (.frz o u)) (upd (upd H1 a (.frz o u)) p (.lst [])):=Ext.fresh f;have hlen:kvs.length=xs.length:=by have:=B.keys.length;simpa using this
   have J1:ItR K (ItD a o xs) ⟨kvs.map λq=>tkD q.1,[]⟩ mu1 (upd H1 a (.frz o u)):=by
    intro i H2 mu2 I x2 s2 _;have hf:=x2.frz a o u d9;refine⟨λd A=>?_,λh=>⟨⟨u,hf⟩,by rw[lM1]at h;lia⟩⟩;have hi:i<xs.length:=by have:=(gE1.mp A).1;rw[lM1]at this;lia
    refine⟨⟨⟨u,hf⟩,hi⟩,?_⟩;rintro y H3 ⟨rfl,q,eq,rfl⟩;exact⟨.refl _ _,s2,((KT.ext put B).keyOf A eq).exw x2⟩
   refine n6 (hb p) J1 R.w d9 (sf.notin f) .nil ((Eh k keep (he.ext (x1.trans put))).ext R) (sf.fresh f) e2 (by simpa using hl) fun σ' H' mu' D am V aq U he' s'=>?_;have F:H' a=Z (.frz o u):=am.frz a o u (by rw[dZ l.symm];exact d9);have h1:∀xs,u ≠ .tup xs:=λxs z=>by subst z;cases A
   have h2:∀xs,u ≠ .lst xs:=λxs z=>by subst z;cases A
   refine⟨a,o,u,F,h1,nf,?_⟩;have G:=(bW.mp am.pre).2;have na:mu'[n]?=Z a:=by
    obtain⟨t,rfl⟩:=G;rw[gL1 (gE1.mp C).1];exact C
   have ne1:∀{b:dF},H1 b=Y->b≠a:=λ{b} z=>by rintro rfl;rw[au]at z;cases z
   have y:Ext mu1 (mu'++[p]) H1 (upd H' a u):=by
    refine⟨G.trans (bv _ _),λb w e nb=>?_,λb ys e=>?_,λb x w e=>?_,λb W=>?_⟩
    ·have T:b≠a:=λz=>nb (by rw[z];exact gM1 C);have bp:b≠p:=by rintro rfl;rw[dZ l,e]at f;cases f
     rw[dZ T];exact am.old b w (by rw[dZ bp,dZ T];exact e) λz=>by
      rcases aF.mp z with z|z
      ·exact bp z
      ·exact nb z
    ·exact(sm (mu:=mu') F h1 h2).tup b ys (am.tup b ys (R.tup b ys (put.tup b ys e)))
    ·have T:b≠a:=by rintro rfl;rw[au]at e;cases e;cases A
     rw[dZ T];exact am.frz b x w (R.frz b x w (put.frz b x w e))
    ·rcases aG.mp W with z|z
     ·rcases am.new b (mC1 _ z)with q|q
      ·rcases aF.mp q with q|q
       ·exact .inr (by rw[q];rw[dZ l]at f;exact f)
       ·exact .inl q
      ·by_cases P:b=p
       ·exact .inr (by rw[P];rw[dZ l]at f;exact f)
       ·rw[dZ P]at q;by_cases ao:b=a
        ·exact .inl (by rw[ao];exact gM1 C)
        ·rw[dZ ao]at q;exact .inr q
     ·have:b=p:=by simpa using z
      exact .inr (by rw[this];rw[dZ l]at f;exact f)
   have tx:=sm (mu:=mu') F h1 h2;have L:Sim K (upd H' a u) mu' (I.set n x):=s'.thaw na tx (back _ _ ⟨G,y.tup,λb x w e=>y.frz b x _ e⟩ d9);have N:upd H' a u p=Z (.lst D):=by rw[dZ l];exact V
   refine hc _ _ (mu'++[p]) (x1.trans y) (by rw[show I.length=(I.set n x).length by simp];exact .ref (fS L.len p)) ⟨by rw[lA1,lA1,L.len];rfl,?_,λj w b h1 h2=>?_⟩
   ·rw[bA];refine⟨L.nd,by simp,λb hb c hc e=>?_⟩;have:c=p:=by simpa using hc
    subst this;subst e;exact aq hb
   ·by_cases B:j<(I.set n x).length
    ·rw[gL1 B]at h1;rw[gL1 (by rw[L.len];exact B)]at h2;exact(L.ob j w b h1 h2).mor [p]
    ·have wq:j=(I.set n x).length:=by
      have:=(gE1.mp h1).1;rw[lA1]at this;simp at this B;simp;lia
     subst wq;rw[gR1 (nR1 _)]at h1;rw[<- L.len,gR1 (nR1 _)]at h2;simp at h1 h2;subst h1;subst h2;exact⟨D,N,((by simpa using U:d4 K H' mu' ys D).exv tx).mor [p]⟩
  ·cases s
 |_=>cases s
theorem pk{X:Cx}{elt tg iter:Expr}{ifs:List Expr}{scope:dU}{pos:Pos}{T:List Str}{keep:List Nat}{l:List (Str×dF)}{m:FE}{g:FG}{t:FT}{e:FE}(hc:X.calm=M)(C:Hn X scope T keep)(d:i0 X.env.cells scope.names []=Z l)(hi:XE X iter m)(hb:∀s H b,JL (cxC X scope l T keep s H b) X.K tg ifs elt g t e)(hs:∀x,foldedSetIterable iter X.env x=pure x:=by intro _;rfl):XE X (.ListComp elt [⟨tg,iter,ifs,0⟩] scope pos) (l0 T.length keep m g t (eG e)):=by
 refine⟨λag s σ H Q I h=>?_⟩;have r:=wg (g:=Ca X.K g) (ti:=xA X.K t) (emit:=mE elt) (tb:=λp=>px p (tM X.K e)) hc (λit i f=>uH elt tg iter ifs scope pos it i f) C d (Fq (tg:=tg) hi.h) (λs H b p=>⟨(hb s H b).g.h,(hb s H b).t.h,m6 (hb s H b).e.h p⟩) hs;refine wpAny_mono (r ag s σ H _ I (Bh (λa E σ H q=>lm q) h)) ?_ λ_ _ x=>x;rintro v y ⟨x,H2,k,r2,a,o,u,j,w,n,q⟩;exact⟨x,upd H2 a u,tF k j n (λc z=>by cases z) (λc z=>by cases z) (k.hok a _ j).2,r2,q⟩
theorem vJ.lt{xs:Array Nat}(h:vJ xs){a b u v:Nat}(e:a<b)(d:xs[a]?=Z u)(c:xs[b]?=Z v):u<v:=by
 rw[<- aT1]at d c;obtain⟨f,d⟩:=gE1.mp d;obtain⟨g,c⟩:=gE1.mp c;have:=cw.mp h a b f g e;rw[d,c]at this;exact this
structure Bs (xs:Array Nat)(j i:Nat):Prop where
 le:i<=xs.size
 lo:∀k v,xs[k]?=some v->k<i->v<j
 hi:∀k v,xs[k]?=some v->i<=k->j<=v
theorem Bs.uniq{xs:Array Nat}{j i i':Nat}(h:Bs xs j i)(h':Bs xs j i'):i=i':=by
 rcases Nat.lt_trichotomy i i' with z|z|z
 ·have a:i<xs.size:=nL1 z h'.le;have e:=aG1 a;have:=h.hi _ _ e (nR1 _);have:=h'.lo _ _ e z;lia
 ·exact z
 ·have a:i'<xs.size:=nL1 z h.le;have e:=aG1 a;have:=h'.hi _ _ e (nR1 _);have:=h.lo _ _ e z;lia
theorem Bp{xs:Array Nat}{j:Nat}(hr:vJ xs):∀n lo hi:Nat,lo<=hi->hi<=xs.size->hi-lo<=n->(∀k v,xs[k]?=Z v->k<lo->v<j)->(∀k v,xs[k]?=Z v->hi<=k->j<=v)->Bs xs j (SetTable.below.go xs j n lo hi)
 |0,lo,hi,h1,h2,g,c,b=>by
  have:lo=hi:=by lia
  subst this;exact⟨h2,c,b⟩
 |n + 1,lo,hi,h1,h2,g,c,b=>by
  rw[SetTable.below.go];by_cases f:lo<hi
  ·rw[ak f];have d:(lo+hi)/2<xs.size:=by lia
   have a:=aG1 d;have h:xs.getD ((lo+hi)/2) j=xs[(lo+hi)/2]:=by simp[Array.getD,d]
   dsimp only;rw[h];by_cases hc:xs[(lo+hi)/2]<j
   ·rw[ak hc];refine Bp hr n _ _ (by lia) h2 (by lia) (λk v e i=>?_) b;rcases bV k ((lo+hi)/2)with z|z
    ·have:=hr.lt z e a;lia
    ·have:k=(lo+hi)/2:=by lia
     subst this;rw[a]at e;cases e;exact hc
   ·rw[aj hc];refine Bp hr n _ _ (by lia) (by lia) (by lia) c λk v e i=>?_;rcases bV ((lo+hi)/2) k with z|z
    ·have:=hr.lt z a e;lia
    ·have:k=(lo+hi)/2:=by lia
     subst this;rw[a]at e;cases e;lia
  ·rw[aj f];have:lo=hi:=by lia
   subst this;exact⟨h2,c,b⟩
theorem oE{xs:Array Nat}(hr:vJ xs)(j:Nat):Bs xs j (SetTable.below xs j):=
 Bp hr _ 0 _ (bi _) (nR1 _) (by lia) (λ_ _ _ h=>absurd h (bw _)) λk v e h=>by
  have:=(Array.getElem?_eq_some_iff.mp e).1;lia
theorem tH{α:Type}(xs:Array α)(p:Nat)(x:α):(SetTable.insertAt xs p x).toList=xs.toList.take p++x::xs.toList.drop p:=by
 unfold SetTable.insertAt;rw[cy,cq,cA,cA];simp[List.extract_eq_drop_take];rw[b8 (by simp)]
theorem Ci{xs:Array Nat}(hr:vJ xs){j:Nat}(hn:xs[SetTable.below xs j]? ≠ Z j):vJ (SetTable.insertAt xs (SetTable.below xs j) j):=by
 have b:=oE hr j;unfold vJ;rw[tH,cB,ca];have lo:∀v∈xs.toList.take (SetTable.below xs j),v<j:=λv g=>by
  obtain⟨k,d⟩:=bq g;rw[List.getElem?_take]at d;split at d
  ·rename_i h;exact b.lo k v (by rw[<- aT1];exact d) h
  ·cases d
 have hi:∀v∈xs.toList.drop (SetTable.below xs j),j<v:=λv g=>by
  obtain⟨k,d⟩:=bq g;rw[cC,aT1]at d;have h1:=b.hi _ v d (br _ _);rcases bV j v with z|z
  ·exact z
  ·exfalso;have f:v=j:=by lia
   subst f;cases k with
   |zero=>exact hn d
   |succ k=>
    have l:SetTable.below xs v<xs.size:=by have:=(Array.getElem?_eq_some_iff.mp d).1;lia
    have e:=aG1 l;have:=b.hi _ _ e (nR1 _);have:=hr.lt (by lia) e d;lia
 refine⟨hr.sublist (aU _ _),⟨hi,hr.sublist (cD _ _)⟩,λa i c hc=>?_⟩;rcases aF.mp hc with z|z
 ·rw[z];exact lo a i
 ·exact bh (lo a i) (hi c z)
structure TS (l:Bool)(t:SetTable):Prop where
 up:vJ t.place
 du:t.dummies = #[]
 ld:t.led=l
theorem s7{t:SetTable}(hd:t.dummies = #[])(j:Nat):SetTable.has t.dummies j=J:=by rw[hd];rfl
theorem pz{t:SetTable}(hd:t.dummies = #[]){f:Nat->Int}{h:Int}:∀(n:Nat) (p:SetTable.Probe) (j:Nat) (d:Option Nat),p.dummy=Y->SetTable.probe.go t f h n p=Z (.empty j d)->d=Y/\t.place[SetTable.below t.place j]? ≠ Z j
 |0,p,j,d,_,e=>by rw[SetTable.probe.go]at e;cases e
 |n+1,p,j,d,hp,e=>by
  have a:(t.advance p).dummy=Y:=by
   unfold SetTable.advance;split
   ·exact hp
   ·dsimp only;exact hp
  rw[SetTable.probe.go]at e;unfold SetTable.slot at e;dsimp only at e;rw[s7 hd]at e;by_cases hc:(t.place[SetTable.below t.place p.j]? == Z p.j)=M
  ·rw[ak hc]at e;dsimp only at e;split at e
   ·cases e
   ·exact pz hd n _ j d a e
  ·rw[aj hc,aj (by decide)]at e;dsimp only at e;cases e;refine⟨hp,λz=>hc ?_⟩;rw[z];simp
theorem DG{t:SetTable}(hd:t.dummies = #[]){h:Int}{j:Nat}{b:Bool}(e:t.freeSlot h=Z (j,b)):t.place[SetTable.below t.place j]? ≠ Z j:=by
 unfold SetTable.freeSlot at e;split at e
 ·rename_i c d ep;obtain⟨rfl,a⟩:=pz hd _ _ _ _ O ep;cases e;exact a
 ·cases e
theorem kA{l:Bool}{t:SetTable}(h:TS l t)(n:Nat):TS l (t.standIn n):=by
 refine⟨?_,O,h.ld⟩;show(Array.range n).toList.Pairwise (· < ·);rw[Array.toList_range];exact cE
theorem Hz{l:Bool}{t:SetTable}(h:TS l t)(n:Nat):TS l (t.orStandIn n):=by
 unfold SetTable.orStandIn;split
 ·exact h
 ·exact kA h n
theorem EK{l:Bool}{t:SetTable}(ht:TS l t)(es:Array (Int×dD))(h:Int)(x:dD):TS l (layNew t es h x).2.1:=by
 unfold layNew;split
 ·rename_i j b e;show TS l ((t.put j).1.orStandIn _);refine Hz (t:=(t.put j).1) ⟨?_,?_,ht.ld⟩ _
  ·exact Ci ht.up (DG ht.du e)
  ·show(if SetTable.has t.dummies j=M then _ else t.dummies) = #[];rw[s7 ht.du,aj (by decide)];exact ht.du
 ·exact kA ht _
theorem rP{α:Type}(f:Nat->Option α):∀l:List Nat,((l.filterMap λj=>(f j).map (j,·)).map (·.1)).Sublist l
 |[]=>.slnil
 |a::l=>by
  rw[aE];cases f a with
  |none=>exact(rP f l).cons a
  |some x=>exact(rP f l).cons₂ a
theorem B7{l p:Bool}{m c b:Nat}{hs:Array Int}{t:SetTable}{a:Array Nat}(e:SetTable.laid m c b l p hs=Z (t,a)):TS l t:=by
 unfold SetTable.laid at e;obtain⟨d,_,e⟩:=oB1.mp e;cases e;refine⟨?_,O,O⟩;unfold vJ;dsimp only;exact List.pairwise_lt_range.sublist (by simpa using rP (λj=>d.getD j Y) (af (m+1)))
theorem y8{l:Bool}{t:SetTable}(ht:TS l t)(es:Array (Int×dD))(n:Nat):TS l (relayAll t es n).2.1:=by
 unfold relayAll;split
 ·rename_i b a e;dsimp only;split
  ·have:=B7 e;rw[ht.ld]at this;exact this
  ·exact kA ht _
 ·exact kA ht _
theorem y9(l:Bool):TS l (SetTable.fresh 0 0 l):=⟨List.Pairwise.nil,O,O⟩
theorem DV{xs:Array Nat}(hr:vJ xs){i:Nat}(hi:i<xs.size):SetTable.below xs (xs[i]+1)=i+1:=by
 refine(oE hr _).uniq ⟨hi,λk v e a=>?_,λk v e a=>?_⟩
 ·rcases bV k i with z|z
  ·have:=hr.lt z e (aG1 hi);lia
  ·have:k=i:=by lia
   subst this;rw[aG1 hi]at e;cases e;lia
 ·have:=hr.lt (show i<k by lia) (aG1 hi) e;lia
theorem Bo{xs:Array Nat}(hr:vJ xs):SetTable.below xs 0=0:=
 (oE hr _).uniq ⟨bi _,λk v e a=>absurd a (bw _),λk v e a=>bi _⟩
noncomputable def Kp(e:Int×dD):Int:=match e.2 with
 | .int k _=>k
 |_=>0
structure Els (es:Array (Int×dD))(ns:List Int):Prop where
 el:∀e∈es.toList,∃k t,e=(hashInt k,Value.int k t)
 pm:(es.toList.map Kp).Perm ns
theorem Els.of{P:dG}{w:dI}{es:Array (Int×dD)}{ns:List Int}(h:Els es ns):ElemsOf (intKind P w) es.toList:=λe a=>by
 obtain⟨k,t,rfl⟩:=h.el e a;exact⟨⟨k,intKind_is _ _ _ _,O⟩,O⟩
theorem Els.size{es:Array (Int×dD)}{ns:List Int}(h:Els es ns):es.size=ns.length:=by
 have:=h.pm.length_eq;rw[lM1,aJ]at this;exact this
theorem Els.perm{es fs:Array (Int×dD)}{ns:List Int}(h:Els es ns)(p:fs.toList.Perm es.toList):Els fs ns:=
 ⟨λe a=>h.el e (p.mem_iff.mp a),(p.map _).trans h.pm⟩
theorem Els.add{es fs:Array (Int×dD)}{ns:List Int}(h:Els es ns){k:Int}{t:Tok}(p:fs.toList.Perm (es.push (hashInt k,.int k t)).toList):Els fs (ns++[k]):=by
 rw[cq]at p;refine⟨λe a=>?_,?_⟩
 ·rcases aG.mp (p.mem_iff.mp a)with z|z
  ·exact h.el e z
  ·simp at z;exact⟨k,t,z⟩
 ·refine(p.map _).trans ?_;rw[cu];exact h.pm.append (.refl _)
def jw(b:Bool)(p:dF)(ns:List Int)(h:dQ):Prop:=∃es ep t l,h.get? p=Z (stO es ep t)/\Els es ns/\es.size<scanBound/\t.fits es.size=M/\TS l t/\(b=J->l=M)
section
variable{P:dG}{w:dI}{A:dH}{E:dD->dE->Prop}{s:dE}{b:Bool}{p:dF}{ns:List Int}
theorem zD{es fs:Array (Int×dD)}{ep:Nat}{t u:SetTable}{h:dQ}(e:h.get? p=Z (stO es ep t)):(h.update p (Obj.putSet fs u)).get? p=Z (stO fs (ep+1) u):=by
 have:=hW1 (Obj.putSet fs u) e (by rw[putSet_of fs u O];rfl);rw[putSet_of fs u O]at this;exact this
theorem gw{c:Bool}{Q:Unit->dE->Prop}(q:Q () s):dN (model P w) A (match c with
  |true=>rule "set.scan.the-table-gave-way"
  |false=>pure ()) Q E s:=by cases c<;>first|exact wP1 q|exact wpAny_rule q
theorem Kx{k:Int}{tk:Tok}{Q:Bool->dE->Prop}(W:jw b p ns s.heap)(hr:ns.length+1<scanBound)(q:∀c h',Heap.SameBut p s.heap h'->jw b p (step_dedup ns k) h'->Q c {s with heap:=h'}):dN (model P w) A (setAddHashed p (.int k tk) (hashInt k)) Q E s:=by
 obtain⟨es,ep,t,l,h,a,N,I,S,G⟩:=W;have hz:=a.size;have U:ElemsOf (intKind P w) es.toList:=a.of;unfold setAddHashed setAddHashedIn;refine wpAny_holding (wB1 (wpAny_setState_of h O I ?_));dsimp only;rw[byScan_of (knd:=intKind P w) O N U,ak O];unfold setAddByScan;refine wB1 (wB1 (wpAny_rule (wB1 (wpAny_setScan_of (knd:=intKind P w) (k:=k) (intKind_is _ _ _ _) h O I U ?_))));cases hx:List.findIdx? (λe=>(intKind P w).is k e.2) es.toList with
 |some j=>
  obtain⟨V,m,_⟩:=b6.mp hx;have C:k∈ns:=by
   refine a.pm.mem_iff.mp (cc.mpr ⟨_,bS V,?_⟩);obtain⟨k',X,e⟩:=a.el _ (bS V);rw[e]at m ⊢;exact((intKind P w).inj _ _ _ m (intKind_is P w k' X)).symm
  have H:step_dedup ns k=ns:=by unfold step_dedup;rw[ak (bR.mpr ⟨k,C,by simp⟩)]
  rw[H]at q;exact wP1 (wP1 (q _ s.heap (Heap.SameBut.refl p s.heap) ⟨es,ep,t,l,h,a,N,I,S,G⟩))
 |none=>
  have H:step_dedup ns k=ns++[k]:=by
   unfold step_dedup;rw[aj λz=>?_];obtain⟨k',C,e⟩:=bR.mp z;have e:=beq_iff_eq.mp e;subst e;obtain⟨x,g,f⟩:=cc.mp (a.pm.mem_iff.mpr C);obtain⟨y,i,rfl⟩:=a.el x g;have f:y=k':=f;subst f;have:=List.findIdx?_eq_none_iff.mp hx _ g;rw[show(intKind P w).is y (hashInt y,Value.int y i).2=M from intKind_is _ _ _ _]at this;cases this
  rw[H]at q;have D:=layNew_perm t es (hashInt k) (.int k tk);have am:=layNew_fits t es (hashInt k) (.int k tk);have n:=EK S es (hashInt k) (.int k tk);dsimp only;generalize layNew t es (hashInt k) (.int k tk)=L at D am n ⊢;obtain⟨fs,u,aq,gv⟩:=L;dsimp only at D am n ⊢;have o:Els fs (ns++[k]):=a.add D;have F:fs.size<scanBound:=by rw[o.size,lA1];exact hr
  refine wB1 (gw ?_);have tail:∀ (c:Bool),dN (model P w) A (do
    storeSet p fs u
    if (!aq&&u.tooFull)=true then do
      (match (relayAll u fs (SetTable.grown fs.size)).2.2 with
       |true=>rule "set.scan.the-table-gave-way"
       |false=>pure ())
      storeSet p (relayAll u fs (SetTable.grown fs.size)).1 (relayAll u fs (SetTable.grown fs.size)).2.1
      pure (Z M)
     else pure (Z M)) (λr s'=>dN (model P w) A (match r with
      |some d=>pure d
      |none=>setAddHashedIn p (.int k tk) (hashInt k) 99999) Q E s') E s:=λ_=>by
   refine wB1 (wpAny_storeSet_of h O ?_ (fits_of_scanBound F));have K:=zD (fs:=fs) (u:=u) h;have ao:=Heap.SameBut.update s.heap p (Obj.putSet fs u);split
   ·have p2:=relayAll_perm u fs (SetTable.grown fs.size);have B:=relayAll_fits u fs (SetTable.grown fs.size);have i:=y8 n fs (SetTable.grown fs.size);generalize relayAll u fs (SetTable.grown fs.size)=L2 at p2 B i ⊢;obtain⟨T,v,wq⟩:=L2;dsimp only at p2 B i ⊢;have R:=o.perm p2;have au:T.size<scanBound:=by rw[R.size,<- o.size];exact F
    refine wB1 (gw (wB1 (wpAny_storeSet_of K O ?_ (fits_of_scanBound au))));exact wP1 (wP1 (q _ _ (ao.trans (Heap.SameBut.update _ p _)) ⟨T,_,v,l,zD K,R,au,B,i,G⟩))
   ·exact wP1 (wP1 (q _ _ ao ⟨fs,_,u,l,K,o,F,am,n,G⟩))
  split
  ·refine wB1 (wP1 ?_);exact tail M
  ·refine wB1 (wP1 ?_);exact tail M
end
section
variable{P:dG}{w:dI}{A:dH}{E:dD->dE->Prop}{s:dE}
noncomputable def byT(w:dI):Bool:=w.params.followText "set-order"
theorem CO(x:dD){G:dD->dE->Prop}(q:G (.ref s.heap.objs.size) {s with heap:=s.heap.push (stO #[] 0 (.fresh 0 0 (!byT w)))}):
  dP (model P w) A (.call (.builtin "set.__new__") ⟨[.type "set",x],[]⟩) (wants G E) s:=by
 refine codeAny_of_tree (?_:dN _ A.in1 (do checkBuiltinCall "set.__new__" ⟨[.type "set",x],[]⟩;again (.builtin "set.__new__" ⟨[.type "set",x],[]⟩)) _ _ s);refine wB1 (wpAny_of_eq (PySem.F.newCall_set_1 x) (wP1 ⟨plainId_quiet PySem.F.plain_set_new _,wD1 PySem.F.entry_set_new (?_:_)⟩));rw[Around.under_plainId PySem.F.plain_set_new _];unfold Builtin.«set.__new__» Builtin.Frozenset.newClass;have a:=sub_set_self;obtain⟨c,g,d,tk,b⟩:=s;dsimp only
 wp_walk
 refine wpAny_askSetting (wP1 (?_:_));dsimp only;simp only[newObj];exact wB1 (wpAny_alloc (wP1 (wP1 q)))
end
section
variable{P:dG}{w:dI}{A:dH}{E:dD->dE->Prop}{b:Bool}
theorem jw.old{p:dF}{ns:List Int}{h h':dQ}(x:jw b p ns h)(k:∀o,h.get? p=Z o->h'.get? p=Z o):jw b p ns h':=by
 obtain⟨es,ep,t,l,e,r⟩:=x;exact⟨es,ep,t,l,k _ e,r⟩
theorem ou:∀(ns acc:List Int),(ns.foldl step_dedup acc).length<=acc.length+ns.length
 |[],acc=>by simp
 |n::ns,acc=>by
  rw[b9];have h1:=ou ns (step_dedup acc n);have h2:(step_dedup acc n).length<=acc.length+1:=by unfold step_dedup;split<;>simp
  rw[lC1];lia
end
theorem i6:Slot "set_iterator" "__next__" "set_iterator.__next__":=
 .of (owner:="set_iterator") (n:="__next__") (by rw[typeLookup_type,builtinLookup_eq_fast];kernel_rfl) (by decide+kernel) (by decide+kernel) (by decide+kernel) (by first|exact .inl (by decide+kernel)|exact .inr (by decide+kernel)) (by rw[isSubtype_type];kernel_rfl)
theorem qf:entryFor table "set_iterator.__next__"=Z Builtin.«set_iterator.__next__» :=entryFor_of_tree (by kernel_rfl)
theorem ud(x:dD):argsOk "set_iterator.__next__" ⟨[x],[]⟩:=by unfold argsOk;kernel_rfl
theorem tR:entryFor table "set.__iter__"=Z Builtin.«frozenset.__iter__» :=entryFor_alias (id':="frozenset.__iter__") (by kernel_rfl) O (by decide+kernel) (by kernel_rfl)
abbrev Hg(h:dQ)(it a:dF)(f:dD)(i n ep:Nat):Prop:=h.get? it=Z {cls:=.type "set_iterator",dict:=Y,data:=.fields #[f,.int i 0,.ref a,.int n 0,.int ep 0],slots:= #[]}
noncomputable def lN(t:SetTable)(i:Nat):Nat:=match i with
 |0=>0
 |i+1=>t.place.getD i 0+1
inductive uf (w:dI)(h:dQ)(a:dF)(es:Array (Int×dD))(ep:Nat)(t:SetTable):dD->Nat->List dD->Prop
 |txt (b:byT w=true) (i:Nat) (sl:Nat):uf w h a es ep t (.int sl 0) i ((pickOrder (w.params.setOrder a ep) es).toList.map (·.2))
 |drw (b:byT w=false) (d:(!t.plain&&decide (es.size>1))=true) (i:Nat) (tp:dF) (ps:List Nat) (e:h.get? tp=some {cls:=.type "tuple",data:=.seq (ps.map λj=>Value.int (j:Nat) 0).toArray}) (pm:ps.Perm (af es.size)):uf w h a es ep t (.ref tp) i (ps.map λj=>(es[j]?.map (·.2)).getD .none)
 |plc (b:byT w=false) (d:(!t.plain&&decide (es.size>1))=false) (ld:t.led=true) (up:vJ t.place) (i:Nat):uf w h a es ep t (.int (lN t i) 0) i (es.toList.map (·.2))
theorem pI{α:Type}(f:Nat->Nat):∀(n k:Nat) (l:List α) (out:Array α),l.length=n->(pickOrder.go f n k l out).toList.Perm (out.toList++l)
 |0,k,l,out,h=>by
  rw[pickOrder.go,cm.mp h,aN]
 |n+1,k,l,out,h=>by
  have b:f k%l.length<l.length:=Nat.mod_lt _ (by lia);rw[pickOrder.go,gG1 b];refine(pI f n (k+1) _ _ (by rw[cF b];lia)).trans ?_;rw[cq,bH];refine List.Perm.append_left _ ?_;have c:l=l.take (f k%l.length)++l[f k%l.length]::l.drop (f k%l.length+1):=by rw[List.getElem_cons_drop,cG]
  rw[cH];refine List.Perm.trans ?_ (List.Perm.of_eq c.symm);exact(List.perm_middle (l₁:=l.take (f k%l.length)) (l₂:=l.drop (f k%l.length+1)) (a:=l[f k%l.length])).symm
theorem uf.perm{w:dI}{h:dQ}{a:dF}{es:Array (Int×dD)}{ep:Nat}{t:SetTable}{f:dD}{i:Nat}{pl:List dD}(y:uf w h a es ep t f i pl):pl.Perm (es.toList.map (·.2)):=by
 cases y with
 |txt=>exact(pI _ _ _ _ _ O).map _
 |drw _ _ _ d ps e c=>
  refine(c.map _).trans ?_;have:(af es.size).map (λj=>(es[j]?.map (·.2)).getD .none)=es.toList.map (·.2):=by
   apply bZ;intro j;rw[gP1,gP1,aT1 (xs:=es)];by_cases b:j<es.size
   ·rw[cI b,oP1,aG1 b];rfl
   ·rw[b4 (by simpa using b),cp (by lia)];rfl
  rw[this]
 |plc=>exact .refl _
theorem uf.len{w:dI}{h:dQ}{a:dF}{es:Array (Int×dD)}{ep:Nat}{t:SetTable}{f:dD}{i:Nat}{pl:List dD}(y:uf w h a es ep t f i pl):pl.length=es.size:=by
 rw[y.perm.length_eq,lM1,aJ]
section
variable{P:dG}{w:dI}{A:dH}{E:dD->dE->Prop}{s:dE}{it a:dF}{f:dD}{i ep:Nat}{es:Array (Int×dD)}{t:SetTable}{pl:List dD}
theorem qx{Q:Bool->dE->Prop}(q:Q (byT w) s):dN (model P w) A setsByText Q E s:=by unfold setsByText;exact wB1 (wpAny_askSetting (wP1 q))
theorem zq{sl:Nat}{Q:Option (dD×Nat)->dE->Prop}(b:byT w=M)(ho:s.heap.get? a=Z (stO es ep t))(hf:t.fits es.size=M)(q:Q (((pickOrder (w.params.setOrder a ep) es)[i]?).map λe=>(e.2,sl)) s):dN (model P w) A (setNext a sl i ep) Q E s:=by
 unfold setNext;refine wB1 (wpAny_setState_of ho O hf (wB1 (qx ?_)));rw[b,ak O,aj (by simp)];refine wB1 ?_;unfold setWalk;refine wB1 (wpAny_setState_of ho O hf (wB1 (qx ?_)));rw[b,ak O];exact wB1 (wpAny_askSetting (wP1 (wP1 q)))
theorem DW(a:vJ t.place)(hi:i<=t.place.size):SetTable.below t.place (lN t i)=i:=by
 cases i with
 |zero=>exact Bo a
 |succ j=>
  have b:j<t.place.size:=hi;show SetTable.below t.place (t.place.getD j 0+1)=j+1;rw[show t.place.getD j 0=t.place[j]from by simp[Array.getD,b]];exact DV a b
theorem zr{Q:Option (dD×Nat)->dE->Prop}(b:byT w=J)(d:(!t.plain&&decide (es.size>1))=J)(h:t.led=M)(j:vJ t.place)(ho:s.heap.get? a=Z (stO es ep t))(hf:t.fits es.size=M)(hi:i<=es.size)(q:Q ((es[i]?).map λe=>(e.2,lN t (i+1))) s):dN (model P w) A (setNext a (lN t i) i ep) Q E s:=by
 have k:t.place.size=es.size:=by
  unfold SetTable.fits at hf;rw[bA1,beq_iff_eq]at hf;exact hf.1
 unfold setNext;refine wB1 (wpAny_setState_of ho O hf (wB1 (qx ?_)));rw[b,aj (by decide)];rw[aj (λz=>by have f:(!t.plain&&decide (es.size>1))=M:=z;rw[d]at f;cases f)];refine wB1 ?_;show dN _ _ (if(!t.led && !es.isEmpty)=M then _ else _) _ _ _;rw[aj (by rw[h];simp)];refine wP1 ?_;dsimp only;rw[DW j (by omega)];by_cases c:i<es.size
 ·rw [aG1 c] at q ⊢;rw [aG1 (show i<t.place.size by omega)];have g:lN t (i+1)=t.place[i]+1:=by
   show t.place.getD i 0+1=_;rw[show t.place.getD i 0=t.place[i]from by simp[Array.getD,show i<t.place.size by omega]]
  rw[g]at q;exact wP1 q
 ·rw[cp (by omega)]at q ⊢;exact wP1 q
theorem B0{Q:Option dD->dE->Prop}(k:Hg s.heap it a f i es.size ep)(ho:s.heap.get? a=Z (stO es ep t))(hf:t.fits es.size=M)(y:uf w s.heap a es ep t f i pl){x:dD}(hx:pl[i]? = Z x)(au:∀ g,f = .ref g->g≠it)(q:∀h' h,Hg h' it a h (i+1) es.size ep->(∀c o,c≠it->s.heap.get? c=Z o->h'.get? c=Z o)->uf w h' a es ep t h (i+1) pl->(∀g,h = .ref g->f = .ref g)->Q (Z x) {s with heap:=h'}):dN (model P w) A (pyNext (.ref it)) Q E s:=by
 have am:s.TypeIs (.ref it) "set_iterator":=⟨_,k,O⟩;unfold pyNext;refine wB1 (wpAny_attempt (wpAny_callSpecial?_slot (name:=Str.ofString "__next__") am i6 (wE1 i6 am qf ?_ (ud _))));refine wB1 (wP1 (wB1 (wpAny_fieldsOf k O ?_)));dsimp only;refine wB1 (wpAny_setEntries_of ho O hf ?_);rw[aj (by simp)];have R:i<es.size:=by have:=(gE1.mp hx).1;rw[y.len]at this;exact this
 have two:∀ (h:dD),(∀ g,h = .ref g->f = .ref g)->(∀ h',(∀ c o,c≠it->s.heap.get? c=some o->h'.get? c=some o)->uf w h' a es ep t h (i+1) pl) ->
   dN (model P w) A.in1 (setField (.ref it) 0 h >>= fun _=>setField (.ref it) 1 (rawInt ((i:Int)+1)) >>= fun _=>ret x) (fun C s'=>∃ v,C=Fin.done (Flow.ret v)/\dN (model P w) A (pure (some v)) Q E s') (fun e s'=>dN (model P w) A (do
     let y<-isInstance e (.type "StopIteration")
     if y=M then pure Y else throw e) Q E s') s:=λh N L=>by
  refine wB1 (wS1 k (by simp) λh1 ao r=>wB1 (wS1 (s:={s with heap:=h1}) ao (by simp) λh2 B l=>wP1 ⟨_,O,wP1 ?_⟩));have m:∀c o,c≠it->s.heap.get? c=Z o->h2.get? c=Z o:=λc o hc e=>l.extBut c o hc (r.extBut c o hc e);refine q h2 h ?_ m (L h2 m) N;have e:((i+1:Nat):Int)=(i:Int)+1:=by lia
  unfold Hg;rw[e];simpa[rawInt]using B
 cases y with
 |txt b _ u=>
  refine wB1 (zq (i:=i) (sl:=u) (ep:=ep) b ho hf ?_);rw[gP1,aT1]at hx;obtain⟨e,D,rfl⟩:=oM1.mp hx;rw[D];exact two (.int u 0) (λg z=>by cases z) λh' _=>.txt b _ u
 |plc b d I G _=>
  refine wB1 (zr (i:=i) b d I G ho hf (by lia) ?_);rw[gP1,aT1]at hx;obtain⟨e,D,rfl⟩:=oM1.mp hx;rw[D];exact two (.int (lN t (i+1)) 0) (λg z=>by cases z) λh' _=>.plc b d I G _
 |drw b d _ g ps e F=>
  rw[gP1]at hx;obtain⟨j,H,rfl⟩:=oM1.mp hx;have n:j<es.size:=by have:=F.mem_iff.mp (gM1 H);simpa using this
  refine wB1 (wpAny_seqItems e O ?_);have p:((ps.map λj=>Value.int (j:Nat) 0).toArray)[((i:Int)).toNat]?=Z (.int (j:Nat) 0):=by
   rw[Int.toNat_natCast,cg,gP1,H];rfl
  dsimp only;rw[p];dsimp only;refine wB1 ?_;unfold setNextDrawn;refine wB1 (wpAny_setState_of ho O hf ?_);dsimp only;rw[aj (by simp),Int.toNat_natCast,aG1 n];refine wP1 (wB1 (wS1 k (by simp) λh2 B l=>wP1 ⟨_,O,wP1 ?_⟩));have m:∀c o,c≠it->s.heap.get? c=Z o->h2.get? c=Z o:=λc o hc e=>l.extBut c o hc e;have K:=q h2 (.ref g) ?_ m (.drw b d _ g ps (m g _ (au g O) e) F) λ_ z=>z
  ·rw[aG1 n]at K;exact K
  ·have e:((i+1:Nat):Int)=(i:Int)+1:=by lia
   unfold Hg;rw[e];simpa[rawInt]using B
theorem uI{Q:Option dD->dE->Prop}{G:Fin->dE->Prop}(d:A.handled=none)(q:∀ h',(∀ c o,s.heap.get? c=some o->h'.get? c=some o)->Q none {s with heap:=h'}):
  dN (model P w) A.in1 (newExc (.type "StopIteration") [] >>= fun e=>raiseNew e) G (fun e s'=>dN (model P w) A (do
     let y<-isInstance e (.type "StopIteration")
     if y=M then pure Y else throw e) Q E s') s:=by
 refine wB1 ?_;simp only[newExc,newTuple];refine wB1 (wO1 ?_ (by size_fits));refine wB1 (m:=firstArgMember _ _) (wpAny_of_eq (a:=Value.none) (by first|rfl|(simp only[firstArgMember];rfl)) ?_);refine wO1 ?_ (by size_fits);simp only[raiseNew];refine wB1 (wpAny_handled ?_);rw[show A.in1.handled=Y from d];refine wB1 (wP1 (wpAny_throw (?_:_)));refine wB1 (wpAny_isInstance (b:=M) (T:="StopIteration") ⟨_,hS1 _ O,O⟩ isSubtype_stop (?_:_));exact wP1 (q _ λb o e=>hP1 _ (hP1 _ e))
theorem Ez{Q:Option dD->dE->Prop}(n:A.handled=Y)(h:Hg s.heap it a f es.size es.size ep)(ho:s.heap.get? a=Z (stO es ep t))(hf:t.fits es.size=M)(y:uf w s.heap a es ep t f es.size pl)(q:∀h',(∀c o,c≠it->s.heap.get? c=Z o->h'.get? c=Z o)->Q Y {s with heap:=h'}):dN (model P w) A (pyNext (.ref it)) Q E s:=by
 have u:s.TypeIs (.ref it) "set_iterator":=⟨_,h,O⟩;unfold pyNext;refine wB1 (wpAny_attempt (wpAny_callSpecial?_slot (name:=Str.ofString "__next__") u i6 (wE1 i6 u qf ?_ (ud _))));refine wB1 (wP1 (wB1 (wpAny_fieldsOf h O ?_)));dsimp only;refine wB1 (wpAny_setEntries_of ho O hf ?_);rw[aj (by simp)];have l:=y.len;cases y with
 |txt b _ z=>
  refine wB1 (zq (i:=es.size) (sl:=z) (ep:=ep) b ho hf ?_);rw[cp (by rw[lM1,aJ]at l;lia)];refine wB1 (wS1 h (by simp) λh1 r g=>?_);exact uI (s:={s with heap:=h1}) n λh' k=>q h' λc o hc e=>k c o (g.extBut c o hc e)
 |plc b d v x _=>
  refine wB1 (zr (i:=es.size) (ep:=ep) b d v x ho hf (nR1 _) ?_);rw[cp (nR1 _)];refine wB1 (wS1 h (by simp) λh1 r g=>?_);exact uI (s:={s with heap:=h1}) n λh' k=>q h' λc o hc e=>k c o (g.extBut c o hc e)
 |drw b d _ D ps e C=>
  refine wB1 (wpAny_seqItems e O ?_);have m:((ps.map λj=>Value.int (j:Nat) 0).toArray)[((es.size:Int)).toNat]?=Y:=by
   rw[Int.toNat_natCast,cg,b4 (by rw[lM1]at l ⊢;lia)]
  dsimp only;rw[m];dsimp only;refine wB1 (wS1 h (by simp) λh1 r g=>?_);refine wB1 (wS1 (s:={s with heap:=h1}) r (by simp) λh2 B p=>?_);exact uI (s:={s with heap:=h2}) n λh' k=>q h' λc o hc e=>k c o (p.extBut c o hc (g.extBut c o hc e))
theorem Bj{b:Source}{n:Nat}{Q:Nat->dE->Prop}(hn:n≠0)(q:∀i c,i<n->Q i {s with drawn:=c}):dN (model P w) A (choose b n) Q E s:=fun Γ p a=>by
 unfold choose;rw[Sem.wp_choose];refine⟨hn,?_⟩;exact wP1 (A:=A) (E:=E) (q _ _ (Nat.mod_lt _ (Nat.pos_of_ne_zero hn))) Γ p a
theorem Bb{α:Type}:∀(n:Nat) (xs:List α) (s:dE) (Q:List α->dE->Prop),xs.length=n->(∀ys b,ys.Perm xs->Q ys {s with drawn:=b})->dN (model P w) A (drawOrder n xs) Q E s
 |0,xs,s,Q,h,q=>by
  have:=cm.mp h;subst this;exact wP1 (q [] s.drawn (.refl _))
 |n+1,[],s,Q,h,q=>by simp at h
 |n+1,x::xs,s,Q,h,q=>by
  rw[drawOrder];refine wB1 (Bj (by simp) λi b hi=>?_);rw[gG1 hi];dsimp only;refine wB1 (Bb n _ _ _ (by rw[cF hi];lia) λys a d=>wP1 (q _ a ?_));refine(d.cons _).trans ?_;have c:x::xs=(x::xs).take i++(x::xs)[i]::(x::xs).drop (i+1):=by rw[List.getElem_cons_drop,cG]
  rw[cH];refine List.Perm.trans ?_ (List.Perm.of_eq c.symm);exact List.perm_middle.symm
  all_goals simp
theorem B2{l:Bool}{Q:dD->dE->Prop}(ho:s.heap.get? a=some (stO es ep t))(hf:t.fits es.size=true)(hz:es.size<scanBound)(D:TS l t)(F:byT w=false->l=true)(q:∀it h' n f pl,(∀c o,s.heap.get? c=some o->h'.get? c=some o)->s.heap.objs.size<=it->Hg h' it a f 0 es.size ep->uf w h' a es ep t f 0 pl->(∀b,f = .ref b->b≠it/\s.heap.objs.size<=b)->Q (.ref it) {s with heap:=h',drawn:=n}):
  dN (model P w) A (pyIter (.ref a)) Q E s:=by
 have C:s.TypeIs (.ref a) "set":=⟨_,ho,rfl⟩;refine wpAny_pyIter_slot C PySem.F.slot_set_iter (wE1 PySem.F.slot_set_iter C tR ?_ (PySem.F.args_set_iter_1 _));unfold Builtin.«frozenset.__iter__»;refine wB1 (m:=Builtin.Frozenset.slot0 _ _) (wP1 ?_);unfold Builtin.Frozenset.sizeOf;refine wB1 (wB1 (wpAny_setEntries_of ho rfl hf (wP1 ?_)));unfold setDrawn;refine wB1 (wB1 (wpAny_setState_of ho rfl hf (wB1 (qx (wP1 ?_)))));show dN _ _ (if (!byT w&&(!t.plain&&decide (es.size>1)))=true then _ else _) _ _ _;have d:∀ (h1:dQ) (n:Drawn) (f:dD) (pl:List dD),(∀ c o,s.heap.get? c=some o->h1.get? c=some o)->s.heap.objs.size<=h1.objs.size->(∀ b,f = .ref b->b<h1.objs.size/\s.heap.objs.size<=b)->(∀ h',(∀ c o,h1.get? c=some o->h'.get? c=some o)->uf w h' a es ep t f 0 pl) ->
   dN (model P w) A.in1 (setEpoch a >>= λe=>newFields "set_iterator" [f,rawInt 0,.ref a,rawInt es.size,rawInt e] >>= λr=>ret r) (λd s'=>∃r,d=Fin.done (Flow.ret r) /\ ∃T g,s'.TypeIs r T/\typeLookup (.type T) "__next__"=pure (Z g)/\Q r s') E {s with heap:=h1,drawn:=n}:=by
  intro h1 n f pl y v u G;refine wB1 (wpAny_setEpoch_of (y a _ ho) O hf (wB1 (wO1 (wP1 ⟨_,O,"set_iterator",_,⟨_,hS1 _ O,O⟩,i6.lookup,?_⟩) (by size_fits))));refine q h1.objs.size _ n f pl (λc o e=>hP1 _ (y c o e)) v ?_ (G _ λc o e=>hP1 _ e) λb e=>⟨nN1 (u b e).1,(u b e).2⟩;have:=hS1 h1 (o:={cls:=.type "set_iterator",data:=.fields #[f,.int 0 0,.ref a,.int es.size 0,.int ep 0]}) O;exact this
 by_cases h:byT w=M
 ·rw[aj (by rw[h];simp)];refine wB1 (wP1 ?_);exact d s.heap s.drawn _ _ (λ_ _ e=>e) (nR1 _) (λb z=>by cases z) λh' _=>.txt h 0 0
 ·have h:byT w=J:=by simpa using h
  by_cases p:(!t.plain&&decide (es.size>1))=M
  ·rw[ak (by rw[h,p];rfl)];refine wB1 (Bb es.size (af es.size) s _ (by simp) λys n B=>?_);refine wB1 (m:=newTuple _) (wO1 (s:={s with drawn:=n}) ?_ ?_)
   ·refine d (s.heap.push {cls:=.type "tuple",data:=.seq (ys.map λ(i:Nat)=>rawInt i).toArray}) n (.ref s.heap.objs.size) (ys.map λj=>(es[j]?.map (·.2)).getD .none) (λc o e=>hP1 _ e) (by rw[hZ1];exact aX _) (λb z=>by cases z;exact⟨by rw[hZ1];exact bD _,nR1 _⟩) λh' k=>?_;exact .drw h p 0 _ ys (k _ _ (hS1 _ O)) B
   ·have:=B.length_eq;have x:=fits_of_scanBound hz;simp[sizeOk,this,x]
  ·have p:(!t.plain&&decide (es.size>1))=J:=by simpa using p
   rw[aj (by rw[p];simp)];refine wB1 (wP1 ?_);exact d s.heap s.drawn _ _ (λ_ _ e=>e) (nR1 _) (λb z=>by cases z) λh' _=>.plc h p (by rw[D.ld];exact F h) D.up 0
end
theorem uf.keep{w:dI}{h h':dQ}{a:dF}{es:Array (Int×dD)}{ep:Nat}{t:SetTable}{f:dD}{i:Nat}{pl:List dD}(y:uf w h a es ep t f i pl)(k:∀c o,f = .ref c->h.get? c=Z o->h'.get? c=Z o):uf w h' a es ep t f i pl:=by
 cases y with
 |txt b _ m=>exact .txt b _ m
 |drw b d _ c ps e j=>exact .drw b d _ c ps (k c _ O e) j
 |plc b d g l _=>exact .plc b d g l _
section
variable{P:dG}{w:dI}{A:dH}{E:dD->dE->Prop}
theorem B1{it a S:dF}{ep:Nat}{es:Array (Int×dD)}{t:SetTable}{pl:List dD}{z:dD}{R:Result->dE->Prop}(Q:A.handled=none)(hf:t.fits es.size=true)(h1:it≠a)(h2:S≠a)(am:S≠it)(hn:es.size<=dM):
  ∀(k i:Nat) (s:dE) (f:dD) (acc:Array dD) (c:Nat),es.size-i=k->i<=es.size->Hg s.heap it a f i es.size ep->s.heap.get? a=Z (stO es ep t)->uf w s.heap a es ep t f i pl->(∀g,f = .ref g->g≠it/\g≠S) ->
  s.heap.get? S=Z {cls:=.type "list",dict:=Y,data:=.seq acc c,slots:= #[]}->acc.toList=pl.take i ->
  (∀h' d L,(∀b u,b≠it->b≠S->s.heap.get? b=Z u->h'.get? b=Z u)->h'.get? S=Z {cls:=.type "list",dict:=Y,data:=.seq d L,slots:= #[]}->d.toList=pl->R (.ok (.ret z)) {s with heap:=h'}) ->
  dP (model P w) A (.builtin "list.extend.loop" ⟨[.ref S,.ref it,z],[]⟩) R s:=by
 intro k
 induction k with
 |zero=>
  intro i s f acc c U hi m E y D F C K;have e:i=es.size:=by lia
  subst e;have j:=y.len;refine wD1 PySem.F.entry_extend_loop (?_:_);rw[Around.under_plainId PySem.F.plain_extend_loop _];show dN _ A.in1 (pyNext (.ref it) >>= _) _ _ s;refine wB1 (Ez Q m E hf y λh' keep=>wP1 ?_);exact K h' acc c (λb u n _ e=>keep b u n e) (keep S _ am F) (by rw[C,<- j,bY])
 |succ k ih=>
  intro i s f acc c U hi m E y D F C K;have I:i<es.size:=by lia
  have j:=y.len;obtain⟨x,N⟩:∃x,pl[i]?=some x:=⟨_,gG1 (by lia)⟩;have r:acc.size=i:=by rw[<- aJ,C,aR];lia
  refine wD1 PySem.F.entry_extend_loop (?_:_);rw[Around.under_plainId PySem.F.plain_extend_loop _];show dN _ A.in1 (pyNext (.ref it) >>= _) _ _ s;refine wB1 (B0 m E hf y N (λg e=>(D g e).1) λh' T v keep V au=>?_);have p:=keep S _ am F;show dN _ A.in1 (updateSeq S (·.push x) >>= _) _ _ _;refine wB1 (wpAny_updateSeq (s:={s with heap:=h'}) p O ?_ (by rw[r];lia) (by show(acc.push _).size<=dM+1;rw[Array.size_push,r];lia));have h:∀b u,b≠S->h'.get? b=Z u->(h'.update S (Obj.mapSeq (·.push x))).get? b=Z u:=λb u n e=>by rw[hU1 _ _ _ _ n];exact e
  refine wP1 ⟨plainId_quiet PySem.F.plain_extend_loop _,ih (i+1) {s with heap:=h'.update S (Obj.mapSeq (·.push x))} T (acc.push x) _ (by lia) I (h it _ (Ne.symm am) v) (h a _ (Ne.symm h2) (keep a _ (Ne.symm h1) E)) (V.keep λg o e q=>h g o (D g (au g e)).2 q) (λg e=>D g (au g e)) (hW1 _ p O) ?_ ?_⟩
  ·rw[cq,C,cr,N];rfl
  ·intro H d L l G ao;exact K H d L (λb u n B e=>l b u n B (h b u B (keep b u n e))) G ao
theorem zv:typeLookup (.type "set") "__len__"=pure (Z (.builtin "set.__len__")):=by rw[typeLookup_type,builtinLookup_eq_fast];kernel_rfl
theorem B3 {s:dE}{v:dF}{Q:Bool->dE->Prop}(c:s.TypeIs (.ref v) "set")(q:Q J s):dN (model P w) A (Builtin.List.listLengthHint (.ref v)) Q E s:=by
 unfold Builtin.List.listLengthHint;refine wB1 (wpAny_specialOf c zv (?_:_));generalize a:("set.__len__":String)=id0
 wp_delta
 rw[show splitId id0=Z ("set","__len__")from by subst a;decide+kernel];subst a;refine wB1 (wpAny_isInstance (b:=M) c (by rw[isSubtype_type];kernel_rfl) (?_:_));rw[aj (by decide)];dsimp only;rw[ak (by decide+kernel)];exact wB1 (wpAny_typeOf c (wP1 q))
theorem uC{s:dE}{a:dF}{ns:List Int}{Q:List dD->dE->Prop}(V:A.handled=Y)(hx:jw (byT w) a ns s.heap)(q:∀h' p vs R,(∀b u,s.heap.get? b=Z u->h'.get? b=Z u)->s.heap.objs.size<=h'.objs.size->IntsAre vs R->R.Perm ns->Q vs {s with heap:=h',drawn:=p}):dN (model P w) A (collect (.ref a)) Q E s:=by
 obtain⟨es,ep,t,l,I,au,ao,S,aq,W⟩:=hx;have m:a<s.heap.objs.size:=hL1 I;unfold collect;refine wB1 (wpAny_runValue (wD1 PySem.F.entry_proto_collect (?_:_)));rw[Around.under_plainId PySem.F.plain_proto_collect _];show dN _ A.in1 (newList [] >>= λl=>again (.builtin "list.__iadd__" ⟨[l,.ref a],[]⟩)) _ _ s;refine wB1 (wO1 (?_:_));refine wP1 ⟨plainId_quiet PySem.F.plain_list_iadd _,wD1 PySem.F.entry_list_iadd (?_:_)⟩;rw[Around.under_plainId PySem.F.plain_list_iadd _];have z:(s.heap.push {cls:=.type "list",data:=.seq ([]:List dD).toArray}).get? s.heap.objs.size=Z {cls:=.type "list",data:=.seq ([]:List dD).toArray}:=hS1 _ O;have g:∀b u,s.heap.get? b=Z u->(s.heap.push {cls:=.type "list",data:=.seq ([]:List dD).toArray}).get? b=Z u:=λb u e=>hP1 _ e;have x:(s.heap.push {cls:=.type "list",data:=.seq ([]:List dD).toArray}).objs.size=s.heap.objs.size+1:=by rw[hZ1]
 have K:s.heap.objs.size≠a:=nG1 m;have h1:Builtin.List.listSameRef (.ref s.heap.objs.size) (.ref a)=J:=by simp[Builtin.List.listSameRef,K]
 show dN _ A.in1 (Builtin.List.listExtendWith (.ref s.heap.objs.size) (.ref a) (.ref s.heap.objs.size)) _ _ {s with heap:=s.heap.push {cls:=.type "list",data:=.seq ([]:List dD).toArray}};generalize s.heap.push {cls:=.type "list",data:=.seq ([]:List dD).toArray}=h₁ at *
 unfold Builtin.List.listExtendWith;refine wB1 (wpAny_typeOf (T:="set") ⟨_,g a _ I,O⟩ ?_);rw[aj (by rw[h1];decide)];refine wB1 (B2 (s:={s with heap:=h₁}) (g a _ I) S ao aq W λit d p f pl h c L y H=>?_);dsimp only at h c H;have j:=h _ _ z;have B:Shared.TypeIs {s with heap:=d,drawn:=p} (.ref a) "set":=⟨_,h _ _ (g a _ I),O⟩;refine wB1 (wpAny_holding (B3 B ?_));rw[ak (by decide+kernel)];refine wB1 (wpAny_rule (wB1 ?_));show dN _ A.in1 (updateSeq s.heap.objs.size (·.push .none) >>= λ_=>updateSeq s.heap.objs.size (·.pop)) _ _ _;refine wB1 (wpAny_updateSeq (s:={s with heap:=d,drawn:=p}) j O ?_);have i:=hW1 (Obj.mapSeq (·.push Value.none)) j O;refine wpAny_updateSeq (s:={s with heap:=d.update s.heap.objs.size (Obj.mapSeq (·.push Value.none)),drawn:=p}) i O ?_;have r:=hW1 (Obj.mapSeq (·.pop)) i O;have n:∀b u,b≠s.heap.objs.size->d.get? b=Z u->((d.update s.heap.objs.size (Obj.mapSeq (·.push Value.none))).update s.heap.objs.size (Obj.mapSeq (·.pop))).get? b=Z u:=λb u C e=>by
  rw[hU1 _ _ _ _ C,hU1 _ _ _ _ C];exact e
 rw[x]at c H;have N:=y.perm;refine wP1 ⟨plainId_quiet PySem.F.plain_extend_loop _,B1 (it:=it) (pl:=pl) V S (nG1 (bh m c)) (nG1 m) (nN1 c) (fits_of_scanBound ao) es.size 0
  {s with heap:=(d.update s.heap.objs.size (Obj.mapSeq (·.push Value.none))).update s.heap.objs.size (Obj.mapSeq (·.pop)),drawn:=p} f _ _ O (bi _) (n _ _ (nG1 c) L) (n a _ (nN1 m) (h _ _ (g a _ I))) (y.keep λF o e q=>n F o (nG1 (H F e).2) q) (λF e=>⟨(H F e).1,nG1 (H F e).2⟩) r O λh' G c' keep D U=>?_⟩
 show dN _ A (load s.heap.objs.size >>= _) _ _ {s with heap:=h',drawn:=p};refine wB1 (wpAny_load D ?_);have X:∀v∈pl,∃k t,v=Value.int k t:=λv am=>by
  obtain⟨e,he,rfl⟩:=cc.mp (N.mem_iff.mp am);obtain⟨k,t,rfl⟩:=au.el e he;exact⟨k,t,O⟩
 have all:∀vs:List dD,(∀v∈vs,∃k t,v=Value.int k t)->IntsAre vs (vs.map λv=>Kp (0,v)):=by
  intro vs
  induction vs with
  |nil=>intro _;exact .nil
  |cons v vs ih=>
   intro am;obtain⟨k,t,rfl⟩:=am v mS1;exact .cons k t (ih λu wq=>am u (mC1 _ wq))
 refine wP1 (q h' p G.toList (pl.map λv=>Kp (0,v)) (λb u e=>?_) (aD (hL1 D)) (by rw[U];exact all pl X) ?_)
 ·have C:=hL1 e;exact keep b u (nN1 (bh C c)) (nN1 C) (n b u (nN1 C) (h _ _ (g b u e)))
 ·refine(N.map _).trans ?_;rw[bu];exact au.pm
theorem ss {s:dE}{a:dF}{ns:List Int}{Q:dD->dE->Prop}(p:A.handled=none)(hx:jw (byT w) a ns s.heap)(i:ns.length<64)
  (q:∀h' d L n out,(∀b u,s.heap.get? b=Z u->h'.get? b=Z u)->s.heap.objs.size<=L->h'.get? L=Z (seqObj "list" out n)->IntsAre out.toList (kE ns)->Q (.ref L) {s with heap:=h',drawn:=d}):
  dN (model P w) A (call (.builtin "sorted") [.ref a]) Q E s:=by
 refine Calls.call_function_entry kind_sorted plain_sorted entry_sorted (args_sorted1 _) (?_:_);unfold Builtin.«sorted»;refine wB1 (m:=checkCount "sorted" 1 1 _) (wP1 (wB1 (uC p hx λh' d vs t keep o l k=>?_)));have f:vs.length<64:=by rw[l.length,k.length_eq];exact i
 refine wB1 (wpAny_newList (hsz:=by rw[sizeLine_eq];lia) ?_);have c:(h'.push (seqObj "list" vs.toArray 0)).get? h'.objs.size=Z (seqObj "list" vs.toArray 0):=hS1 _ O;show dN _ _ _ _ _ {s with heap:=h'.push (seqObj "list" vs.toArray 0),drawn:=d};refine wB1 (wpAny_holding (wE1 slot_list_sort ⟨_,c,O⟩ entry_list_sort (list_sort_tree (s:={s with heap:=h'.push (seqObj "list" vs.toArray 0),drawn:=d}) c l f λout h a1 a2 a3=>⟨_,O,?_⟩) (args_list_sort _)));have r:h=kE ns:=ri (a2.trans (k.trans (iL ns).symm)) a3 (nD ns);subst r;obtain⟨n,j⟩:=sortedHeap_at (out:=out) c;refine wP1 ⟨_,O,q _ d h'.objs.size n out (λb u e=>?_) o j a1⟩;have g:=keep b u e;show(sortedHeap (h'.push (seqObj "list" vs.toArray 0)) h'.objs.size vs out).get? b=Z u;rw[sortedHeap_old (nN1 (hL1 g)) (by rw[hZ1];exact cv (hL1 g))];exact hP1 _ g
end
section
variable{X:Cx}
def E9(X:Cx)(vs:List V)(H:Hp)(Q:VK):Prop:=∃a ns,vs=[.ref a]/\H a=Z (.ext (jw (byT X.w) a ns))/\ns.length<64 /\ ∀p,H p=Y->Q (.ref p) (upd H p (.lst ((kE ns).map V.int)))
theorem yf{ag:List (dF×Obj)}{σ:L2.St}{H:Hp}{s:dE}(I:Inv X ag σ H s)(d:Drawn):Inv X ag σ H {s with drawn:=d}:=⟨I.ok,I.os,I.bare,I.base,I.loc,I.cell,I.free,I.freeC,I.pin,I.hok,I.len⟩
theorem DQ(hc:X.calm=M):e9 X (.builtin "sorted") (E9 X):=by
 intro ag s σ H xs k Q I r h;obtain⟨a,ns,rfl,e,j,q⟩:=h;obtain⟨u,rfl,r2⟩:=hA r;cases r2;obtain⟨g,_⟩:=(show eJ X.prog X.w H s.heap a (.ext (jw (byT X.w) a ns))from I.hok a _ e);refine ss (I.ok.hd hc) g j λh' f L n out keep d c i=>?_;have b:=I.hok.fresh d;refine⟨.ref L,_,yf (I.laid (t':=s.toks) (o:=.lst ((kE ns).map V.int)) keep d ⟨?_,out.toList,n,yg i,by rw[Array.toArray_toList];exact c⟩) f,O,q _ b⟩;rw[lM1,(iL ns).length_eq,sizeLine_eq];lia
theorem I3(ns:List Int):(ddI ns).length<=ns.length:=by
 have:=ou ns [];unfold ddI;simpa using this
end
section
variable{X:Cx}{ag:List (dF×Obj)}{σ:L2.St}{H:Hp}{s:dE}{a:dF}{kvs:List (Key×V)}{k:Key}{v:V}{u r:dD}{A:dH}{E:dD->dE->Prop}
end
section
variable{X:Cx}
end
open AutoSeq1 (wpAny_loadPart')
section
variable{prog:dG}{w:dI}{A:dH}{E:dD->dE->Prop}{s:dE}
end
section
variable{X:Cx}
end
section
variable{P:dG}{w:dI}{A:dH}{E:dD->dE->Prop}{s:dE}
set_option maxHeartbeats 3200000 in
theorem yI {l:dF}{its:Array dD}{Q:dD->dE->Prop}(C:s.heap.IsTuple l its)
  (g:∀p:dH,p.handled=A.handled -> ∀R:Result->dE->Prop,(∀s',Q (.ref s.heap.objs.size) s'->R (.ok (.ret .none)) s') ->
   dP (model P w) p (.builtin "set.update.loop" ⟨[.ref s.heap.objs.size,.ref (s.heap.objs.size+1)],[]⟩) R {s with heap:=(s.heap.push (stO #[] 0 (.fresh 0 0 (!byT w)))).push {cls:=.type "tuple_iterator",data:=.fields #[.ref l,.int 0 0]}}):
  dN (model P w) A (call (.type "set") [.ref l]) Q E s:=by
 obtain⟨U,N,n⟩:=PySem.F.called_set.mro;have d:=PySem.F.called_set.made;have m:=PySem.F.called_set.sub
 refine wpAny_call (codeAny_of_tree (?_:dN _ _ (callAny (.type "set") _) _ _ _));refine wP1 ⟨Code.quiet_builtin _ (by decide+kernel),wD1 PySem.F.entry_type_call (?_:_)⟩;rw[Around.under_plain (weight_type_call_type "set" [.ref l] []) O];have au:=PySem.F.called_set.notType;have am:=PySem.F.called_set.canCreate;have X:=PySem.F.typeCall_set_1 (.ref l)
 repeat(any_goals (first|wp_step|assumption))
 refine codeAny_mono (CO (.ref l) (E:=E) (G:=λx t=>x = .ref s.heap.objs.size/\t={s with heap:=s.heap.push (stO #[] 0 (.fresh 0 0 (!byT w)))}) ⟨O,O⟩) λr t f=>?_;cases r with
 |error e=>exact f
 |ok H=>
  cases H with
  |ret x=>
   obtain⟨rfl,rfl⟩:=f;have j:(s.heap.push (stO #[] 0 (.fresh 0 0 (!byT w)))).get? s.heap.objs.size=Z (stO #[] 0 (.fresh 0 0 (!byT w))):=hS1 _ O;have I:Shared.TypeIs {s with heap:=s.heap.push (stO #[] 0 (.fresh 0 0 (!byT w)))} (.ref s.heap.objs.size) "set":=⟨_,j,O⟩;have L:=PySem.F.called_set.init.lookup;have K:=PySem.F.called_set.init.bind (.ref s.heap.objs.size)
   repeat(any_goals (first|wp_step|assumption))
   refine codeAny_mono (codeAny_call_builtin (R:=wants (λr o=>r = .none/\Q (.ref s.heap.objs.size) o) E) PySem.F.called_set.init.plain PySem.F.entry_set_init (check_set_init_1 I (?_:_))) λr2 o a=>?_
   ·obtain⟨y,i,c,k,b⟩:=C;obtain⟨W,z,S,F⟩:=y;simp only at c b;subst c;subst b;have D:(s.heap.push (stO #[] 0 (.fresh 0 0 (!byT w)))).get? l=Z {cls:=.type "tuple",dict:=z,data:=.seq its k,slots:=F}:=hP1 _ i;have V:=PySem.F.sub_tuple_set;have T:=PySem.F.sub_tuple_frozenset;have ao:(Value.type "tuple" == Value.type "dict")=J:=by decide
    have B:(s.heap.push (stO #[] 0 (.fresh 0 0 (!byT w)))).IsTuple l its:=⟨_,D,O,k,O⟩;have u:(s.heap.push (stO #[] 0 (.fresh 0 0 (!byT w)))).get? s.heap.objs.size=Z {cls:=.type "set",dict:=Y,data:=.set #[] 0 (.fresh 0 0 (!byT w)),slots:= #[]}:=j;unfold Builtin.«set.__init__» noKeywords Builtin.Frozenset.updateFrom;generalize h:pyIter=PI
    wp_walk
    subst h;refine wpAny_pyIter_tuple B (wB1 (wpAny_runValue (?_:_)));dsimp only;rw[show(s.heap.push (stO #[] 0 (.fresh 0 0 (!byT w)))).objs.size=s.heap.objs.size+1 from by rw[hZ1]];refine g A.in1.in1 (by simp) _ λs' q=>?_;exact wP1 (wP1 ⟨O,q⟩)
   ·cases r2 with
    |error e=>exact a
    |ok v=>
     cases v with
     |ret r=>
      obtain⟨rfl,q⟩:=a
      repeat(any_goals (first|wp_step|assumption))
     |_=>exact a.elim
  |_=>exact f.elim
end
section
variable{X:Cx}
end
section
variable{X:Cx}{a b:Expr}{rest:List Expr}{pos:Pos}{ta tb:TE}{f g:FE}
theorem Fw(ha:PE X a ta)(hb:PE X (.BoolOp .Or (b::rest) pos) tb):PE X (.BoolOp .Or (a::b::rest) pos) (fun σ H Q=>ta σ H λx H'=>∃k,BF X.K x H' k/\if k=M then Q x H' else tb σ H' Q):=by
 intro ag s σ H Q I h;refine BoolOp_or (fj (ha ag s σ H _ I h) λv m ⟨x,H1,i,f,e⟩=>?_);obtain⟨k,tk,e⟩:=e;refine fj (za ag m σ H1 x v (λj H'=>if j=M then Q x H' else tb σ H' Q) i f ⟨k,tk,e⟩) λc l ⟨H2,g,d⟩=>?_;cases c with
 |false=>rw[aj (by decide)]at d ⊢;exact hb ag l σ H2 Q g d
 |true=>rw[ak O]at d ⊢;exact⟨x,H2,g,f,d⟩
noncomputable def Db(a b:FE):FE:=λr S=>(a r S).bind λp=>(qB p.2 p.1).bind λk=>if k=M then Z p else b r p.2
theorem BX(ha:XE X a f)(hb:XE X (.BoolOp .Or (b::rest) pos) g):XE X (.BoolOp .Or (a::b::rest) pos) (Db f g):=
 ⟨eV (Fw ha.h hb.h) <| by
  rintro σ H Q ⟨r,mu,S,d,n,m,t,c,hc⟩;obtain⟨⟨q,l⟩,o,c⟩:=oB1.mp c;obtain⟨k,s,c⟩:=oB1.mp c;refine⟨r,mu,S,q,l,m,t,o,λv H1 mu1 e j h=>⟨k,zb j h s,?_⟩⟩;cases k with
  |true=>rw[ak O]at c ⊢;cases c;exact hc _ H1 mu1 e j h
  |false=>rw[aj (by decide)]at c ⊢;exact⟨r,mu1,l,d,n,m.ext e,h,c,λp H2 i u r2 w=>hc p H2 i (e.trans u) r2 w⟩⟩
end
section
variable{X:Cx}
noncomputable def Ei:G1:=λd S=>match d with
 | .ref n=>match S[n]? with
  |some (.dct kvs)=>Z (.int kvs.length,S)
  |_=>fv d S
 |_=>fv d S
end
section
variable{P:dG}{w:dI}{A:dH}{E:dD->dE->Prop}{b:Bool}
theorem xK{p l it:dF}{its:Array dD}{ns:List Int}{R:Result->dE->Prop}(E:A.handled=none)(z:IntsAre its.toList ns)(hb:ns.length+1<scanBound)(G:p≠l)(j:p≠it)(ao:it≠l):
  ∀(k i:Nat) (s:dE),its.size-i=k->i<=its.size->s.heap.IsTupleIter it l i->s.heap.IsTuple l its->jw b p ((ns.take i).foldl step_dedup []) s.heap ->
  (∀h' tk,(∀c o,c≠p->c≠it->s.heap.get? c=Z o->h'.get? c=Z o)->jw b p (ddI ns) h'->R (.ok (.ret .none)) {s with heap:=h',toks:=tk})->dP (model P w) A (.builtin "set.update.loop" ⟨[.ref p,.ref it],[]⟩) R s:=by
 have g:its.size=ns.length:=by rw[<- aJ];exact z.length
 intro k
 induction k with
 |zero=>
  intro i s F hi st h n q;have e:i=its.size:=by lia
  subst e;refine wD1 PyProof.Rows.F.entry_set_update_loop (?_:_);rw[Around.under_plainId PyProof.Rows.F.plain_set_update_loop _];show dN _ A.in1 (pyNext (.ref it) >>= _) _ _ s;refine wB1 (wpAny_pyNext_tuple_end (by simpa using E) st h (by simp) λh' D=>wP1 ?_);refine q h' s.toks (λc o _ hc e=>D c o hc e) ?_;have:=n.old (h':=h') λo e=>D p o j e;rw[g,bY]at this;exact this
 |succ k ih=>
  intro i s F hi st h n q;have f:i<its.size:=by lia
  have B:=aG1 f;obtain⟨t,K⟩:=PyProof.Rows.IntsAre.int_at z i its[i] (by rw[aT1];exact B);refine wD1 PyProof.Rows.F.entry_set_update_loop (?_:_);rw[Around.under_plainId PyProof.Rows.F.plain_set_update_loop _];show dN _ A.in1 (pyNext (.ref it) >>= _) _ _ s;refine wB1 (wpAny_pyNext_tuple_item st h B λh' st' y=>?_);rw[K];show dN _ A.in1 (holding [Value.int (ns.getD i 0) t] (setAdd p (.int (ns.getD i 0) t)) >>= _) _ _ _;refine wB1 (wpAny_holding ?_);unfold setAdd;refine wpAny_holding (wB1 (wpAny_pyHash_int ?_));have m:jw b p ((ns.take i).foldl step_dedup []) h':=n.old λo e=>by rw[y.2 p j];exact e
  have v:=ou (ns.take i) [];refine Kx (s:={s with heap:=h',toks:=s.toks+1}) (k:=ns.getD i 0) m (by rw[aR,bf]at v;lia) λc h2 a d=>?_;have H:ns[i]?=Z (ns.getD i 0):=by rw[gG1 (by lia)];simp[List.getD,show i<ns.length by lia]
  have I:step_dedup ((ns.take i).foldl step_dedup []) (ns.getD i 0)=(ns.take (i+1)).foldl step_dedup []:=by
   rw[cr,H,List.foldl_append];rfl
  rw[I]at d;have x:∀c o,c≠p->c≠it->s.heap.get? c=Z o->h2.get? c=Z o:=λc o h1 u e=>by rw[a.2 c h1];show h'.get? c=_;rw[y.2 c u];exact e
  have keepIt:∀o,h'.get? it=Z o->h2.get? it=Z o:=λo e=>by rw[a.2 it (Ne.symm j)];exact e
  refine wP1 ⟨plainId_quiet PyProof.Rows.F.plain_set_update_loop _,ih (i+1) {s with heap:=h2,toks:=s.toks+1} (by lia) f (st'.at keepIt) ?_ d λu tk am L=>?_⟩
  ·obtain⟨o,e,r⟩:=h;exact⟨o,x l o (Ne.symm G) (Ne.symm ao) e,r⟩
  ·exact q u tk (λc o h1 C e=>am c o h1 C (x c o h1 C e)) L
theorem vz{s:dE}{l:dF}{its:Array dD}{ns:List Int}{Q:dD->dE->Prop}(f:A.handled=Y)(d:s.heap.IsTuple l its)(n:IntsAre its.toList ns)(hb:ns.length+1<scanBound)(q:∀h' tk,(∀c o,s.heap.get? c=Z o->h'.get? c=Z o)->jw (byT w) s.heap.objs.size (ddI ns) h'->Q (.ref s.heap.objs.size) {s with heap:=h',toks:=tk}):dN (model P w) A (call (.type "set") [.ref l]) Q E s:=by
 have a:l<s.heap.objs.size:=by obtain⟨o,e,_⟩:=d;exact hL1 e
 refine yI d λt m R j=>?_;have i:(s.heap.push (stO #[] 0 (.fresh 0 0 (!byT w)))).objs.size=s.heap.objs.size+1:=by rw[hZ1]
 have p:(s.heap.push (stO #[] 0 (.fresh 0 0 (!byT w)))).get? s.heap.objs.size=Z (stO #[] 0 (.fresh 0 0 (!byT w))):=hS1 _ O;refine xK (its:=its) (ns:=ns) (b:=byT w) (m.trans f) n hb (nG1 a) (nN1 (bD _)) (nG1 (cv a)) _ 0 _ O (bi _) ?_ ?_ ?_ λh' tk k x=>j _ (q h' tk (λc o e=>k c o (nN1 (hL1 e)) (nN1 (cv (hL1 e))) (hP1 _ (hP1 _ e))) x)
 ·refine⟨{cls:=.type "tuple_iterator",data:=.fields #[.ref l,.int 0 0]},?_,O,O⟩;have this:((s.heap.push (stO #[] 0 (.fresh 0 0 (!byT w)))).push {cls:=.type "tuple_iterator",data:=.fields #[.ref l,.int 0 0]}).get? (s.heap.push (stO #[] 0 (.fresh 0 0 (!byT w)))).objs.size=Z {cls:=.type "tuple_iterator",data:=.fields #[.ref l,.int 0 0]}:=hS1 _ O;rw[i]at this;exact this
 ·obtain⟨o,e,r⟩:=d;exact⟨o,hP1 _ (hP1 _ e),r⟩
 ·refine⟨#[],0,_,!byT w,hP1 _ p,⟨λe g=>by simp at g,.refl _⟩,by decide,O,y9 _,λh=>by rw[h];rfl⟩
end
noncomputable def iC:G1:=λd S=>match d5 S d with
 |some (J,xs)=>(oi xs).bind λns=>if ns.length<64 then Z (.ref S.length,S++[.lst ((kE (ddI ns)).map D.int)])else Y
 |_=>Y
section
variable{X:Cx}
def Fa(X:Cx)(vs:List V)(H:Hp)(Q:VK):Prop:=∃a xs ns,vs=[.ref a]/\j6 X.K H a xs/\(∀us,ei xs us->IntsAre us ns)/\ns.length+1<scanBound /\ ∀p,H p=Y->Q (.ref p) (upd H p (.ext (jw (byT X.w) p (ddI ns))))
theorem DS(hc:X.calm=M):e9 X (.type "set") (Fa X):=by
 intro ag s σ H xs n Q I r h;obtain⟨a,vs,ns,rfl,g,hi,f,q⟩:=h;obtain⟨u,rfl,r2⟩:=hA r;cases r2;obtain⟨b,i,p,m⟩:=I.tuple g;have j:=hi b i;refine vz (I.ok.hd hc) p (by simpa using j) f λh' tk keep d=>?_;have c:=I.hok.fresh (nR1 s.heap.objs.size);refine⟨.ref s.heap.objs.size,_,I.laid (t':=tk) (o:=.ext (jw (byT X.w) s.heap.objs.size (ddI ns))) keep (nR1 _) ⟨d,?_,λh1 h2 x k=>x.old k⟩,O,q _ c⟩;obtain⟨es,ep,t,l,e,_⟩:=d;exact⟨_,e⟩
theorem uz (hc:X.calm=true){o:Expr}{m:FE}{p p2 pos b:Pos}(hg:Gl X "sorted")(hm:X.mg "sorted"=none)(hg2:Gl X "set")(hm2:X.mg "set"=none)(ho:XE X o m)
  (he:dL [.Call (.Name "set" p2) [o] [] b] X.env=[(J,eval (.Call (.Name "set" p2) [o] [] b) X.env)]:=by rfl) (c:dL [o] X.env=[(J,eval o X.env)]:=by rfl):XE X (.Call (.Name "sorted" p) [.Call (.Name "set" p2) [o] [] b] [] pos) (mN (b1 iC) (dV m dW)):=
 ⟨eV (nU (DQ hc) hg hm (by decide+kernel) (jD (lQ (DS hc) hg2 hm2 (by decide+kernel) (jD ho.h nW c) (he:=c)) nW he) (he:=he)) <| by
  rintro σ H Q ⟨r,mu,S,d,F,he,A,hm,f⟩;obtain⟨⟨ds,D⟩,g,hm⟩:=oB1.mp hm;obtain⟨⟨l,C⟩,x,g⟩:=oB1.mp g;cases g;dsimp only[b1,iC]at hm;split at hm
  ·rename_i xs n;obtain⟨ns,B,hm⟩:=oB1.mp hm;split at hm
   ·rename_i j;cases hm;refine⟨r,mu,S,l,_,he,A,x,λv H1 mu1 y s k=>?_⟩;obtain⟨a,vs,rfl,q,t⟩:=d7 s k n;refine⟨a,vs,ns,O,q,λE w=>(yh t w B).1,bh (Nat.succ_lt_succ j) (by decide),λp h=>?_⟩;refine⟨p,ddI ns,O,d9,bI (I3 ns) j,λp2 e=>?_⟩;have z:Ext mu1 mu1 H1 (upd H1 p (.ext (jw (byT X.w) p (ddI ns)))):=Ext.fresh h;have i:=k.fresh (u:=.ext (jw (byT X.w) p (ddI ns))) h;exact f _ _ (mu1++[p2]) (y.trans (z.trans (Ext.new_ e))) (.ref (fS i.len _)) (i.newL (lP _) e)
   ·cases hm
  ·cases hm⟩
end
section
variable{prog:dG}{w:dI}{A:dH}{E:dD->dE->Prop}{s:dE}
theorem GD{a b:dF}{k l:Int}{t u:Tok}{g zs:List dD}{Q:Bool->dE->Prop}(ha:IsTup s.heap a (Value.int k t::g).toArray)(hb:IsTup s.heap b (Value.int l u::zs).toArray)(c:k≠l)(h:Q (decide (k<l)) s):
  dN (model prog w) A (keyLt' (tuples' M) (.ref a) (.ref b)) Q E s:=by
 rw[iU];obtain⟨o,d,m,_,e⟩:=ha;obtain⟨n,f,j,_,i⟩:=hb;refine wB1 (listItems_at d e (wB1 (listItems_at f i ?_)));rw[bT,bL,bF];refine wB1 (wB1 ?_);dsimp only;refine wB1 (wpAny_eqBool_int ?_);rw[beq_false_of_ne c];simp only[ci,if_true];exact wB1 (oneLt_int (wP1 (wP1 (wP1 h))))
theorem GF{vs:List dD}{Q:SortKind->dE->Prop}(j:vs≠[])(h:∀ v∈vs,∃ a k t ps,v = .ref a/\IsTup s.heap a (Value.int k t::ps).toArray)(q:Q (tuples' true) s):
  dN (model prog w) A (keyKind' vs.toArray) Q E s:=by
 rw[keyKind'_eq,cj,<- bind_pure_comp];refine wB1 (wB1 (k0 (P:=λ_ r=>∃k t,r=Z (Value.int k t)) (λv g=>?_) λrs F f=>wP1 ?_))
 ·obtain⟨a,k,t,ps,rfl,⟨o,l,B,_,u⟩⟩:=h v g;refine⟨Z (.int k t),⟨k,t,O⟩,λQ q=>?_⟩;rw[tO];refine wB1 (wpAny_typeOf (T:="tuple") ⟨o,l,B⟩ ?_);rw[aj (by decide)];refine wB1 (listItems_at l u (wP1 ?_));simpa using q
 ·have D:rs.toArray.all (·.isSome)=true:=by
   rw[ck,bC];intro r i;obtain⟨v,_,k,t,e⟩:=f r i;rw[e];rfl
  rw[ak D];refine wB1 (wpAny_rule ?_);rw[oneTypeOnly'_eq];have y:rs.toArray.filterMap id=(rs.filterMap id).toArray:=by simp
  rw[y,cj,<- bind_pure_comp];refine wB1 (wB1 (wB1 (k0 (P:=λ_ t=>t=Value.type "int") (λv g=>?_) λc b C=>wP1 ?_)))
  ·obtain⟨r,i,e⟩:=aL.mp g;obtain⟨G,_,k,t,p⟩:=f r i;rw[p]at e;cases e;exact⟨_,O,λQ q=>wpAny_typeOf (T:="int") (typeIs_int s k t) q⟩
  ·cases c with
   |nil=>
    exfalso;cases rs with
    |nil=>exact j (cm.mp F.symm)
    |cons r rs=>
     obtain⟨_,_,k,t,e⟩:=f r mS1;rw[e]at b;simp at b
   |cons t c=>
    have all:∀x∈t::c,x=Value.type "int":=λx d=>by obtain⟨_,_,z⟩:=C x d;exact z
    have n:=all t mS1;subst n;have m:((Value.type "int"::c).toArray.all λx=>x == Value.type "int")=M:=by
     rw[ck,bC];intro x d;rw[all x d];rfl
    show dN _ _ (pure (if((Value.type "int"::c).toArray.all λx=>x == Value.type "int")=M then Z (Value.type "int")else Y)) _ _ _;rw[ak m];exact wP1 (wP1 q)
end
section
variable{X:Cx}{ag:List (dF×Obj)}{σ:L2.St}{H:Hp}{s:dE}{mu:List dF}
end
section
variable{X:Cx}
end
section
variable{X:Cx}{f:dF}{fd:dR}{ps:List Str}{k n:Nat}{sp:Sp}{dvs:List V}{ds:List dD}{CX:yR}{E:XK}{t:TA}{e:Expr}{es:List Expr}{p pos:Pos}{i:Nat}{v x:Str}
end
section
variable{prog:dG}{w:dI}{K:Type} [DecidableEq K] {knd:HeapKind prog w K}{A:dH}{E:dD->dE->Prop}{s:dE}
end
section
variable{X:Cx}
noncomputable def KU:G1:=λd S=>match d with
 | .ref n=>match S[n]? with
  |some (.dcT kvs)=>Z (.int kvs.length,S)
  |_=>Ei d S
 |_=>Ei d S
noncomputable def jJ:G2:=λd e S=>match e with
 | .ref n=>match S[n]? with
  |some (.dct [])=>match keyT d with
   |some _=>Z (.bl M,S)
   |none=>gt d e S
  |_=>gt d e S
 |_=>gt d e S
theorem z0(o:X.A.units+64<cLine):fX X (compareOp .NotIn) (r2 X.K (b2 jJ)):=by
 intro ag s σ H x y u w Q I p l h;obtain⟨mu,S,d,e,r,m,j,c,i,a,hc⟩:=pE h;have back:gt d e S=Z (r,m)->dN (model X.prog X.w) X.A (compareOp .NotIn u w) (EP X ag σ Q) X.xe s:=λa=>sX o ag s σ H x y u w Q I p l ⟨mu,S,[d,e],r,m,.cons j (.cons c .nil),i,a,hc⟩;unfold jJ at a;split at a
 ·rename_i n;split at a
  ·rename_i B;split at a
   ·rename_i k A;cases a;cases c with
    |ref t=>
     cases l;obtain⟨ws,q,D⟩:=i.dct B t;cases D;obtain⟨z,C,vs,g,v⟩:=w4 I.hok q;cases g;obtain⟨b,rfl,rfl,rk,E,hi⟩:=jj I j p A;have f:s.heap.DictOfH (fR X.prog X.w) _ []:=oz v;refine wpAny_notIn_heap (iO o) hi C f ?_;exact⟨.bl M,H,I.tok _,O,hc.now (.bl _) i⟩
   ·exact back a
  ·exact back a
 ·exact back a
end
theorem J7.fits{es:Array (Int×dD)}{t:SetTable}(h:J7 es t):t.fits es.size=M:=by
 unfold SetTable.fits SetTable.fill;rw[h.du,h.sz];have:=h.fl;simp;exact this
theorem mem_ins{α:Type}(a:Array α)(p:Nat)(x y:α):y∈(SetTable.insertAt a p x).toList↔y=x\/y∈a.toList:=by
 rw[tH,aG,aF];have:=cG p a.toList;constructor
 ·rintro(h|h|h)
  ·exact .inr (cJ h)
  ·exact .inl h
  ·exact .inr (cK h)
 ·rintro(h|h)
  ·exact .inr (.inl h)
  ·rw[<- this,aG]at h;rcases h with h|h
   ·exact .inl h
   ·exact .inr (.inr h)
theorem ow{α β:Type}{f g:α->Option β}:∀l:List α,(∀a∈l,f a=g a)->l.filterMap f=l.filterMap g
 |[],_=>rfl
 |a::l,h=>by rw[aE,aE,h a mS1,ow l λb c=>h b (mC1 _ c)]
theorem live_len:∀(l:List (Option Nat)) (s:Nat),((List.range' s l.length).filterMap λj=>(l.getD (j-s) Y).map (j,·)).length=l.countP (·.isSome)
 |[],s=>rfl
 |x::l,s=>by
  rw[lC1,List.range'_succ,aE,List.countP_cons];have ih:=live_len l (s+1);have e:(List.filterMap (λj=>Option.map (λx=>(j,x)) ((x::l).getD (j-s) Y)) (List.range' (s+1) l.length))=List.filterMap (λj=>(l.getD (j-(s+1)) Y).map (j,·)) (List.range' (s+1) l.length):=by
   refine ow _ λj a=>?_;rw[List.mem_range'_1]at a;rw[show j-s=(j-(s+1))+1 by lia];rfl
  rw[e,cM];cases x with
  |none=>simpa using ih
  |some q=>simpa using ih
section
variable{prog:dG}{w:dI}{A:dH}{E:dD->dE->Prop}{s:dE}
end
theorem gI.grows{h h':dQ}(hs:∀ a o,h.get? a=some o->h'.get? a=some o):∀ {k:TK} {v:dD},gI h k v->gI h' k v:=fun e=>e.rec (motive_1:=fun k v _=>gI h' k v) (motive_2:=fun k v _=>gX h' k v) .non .int
  (λ{a} _ _ _ _ f c d _ ih=>.tup (hs a _ f) c d ih) .nil (λ_ _ a b=>.cons a b)
section
variable{P:dG}{w:dI}{A:dH}{E:dD->dE->Prop}{s:dE}{p:dF}{xs:List (TK×dF×dD)}
end
section
variable{P:dG}{w:dI}{A:dH}{E:dD->dE->Prop}
end
section
variable{X:Cx}
end
section
variable{X:Cx}{pos:Pos}
theorem ce{op:CmpOp}{x y:Expr}{f:FN}{a b:FE}(ho:fX X (compareOp op) (r2 X.K f))(hx:XE X x a)(hy:XE X y b)(hm:behindInMarks op y=J:=by exact Ab _):XE X (.Compare x [op] [y] pos) (m2 f a b):=BZ ho hx hy hm
theorem ct{op:CmpOp}{x y:Expr}{f:FN}{a b:FE}(ho:fX X (compareOp op) (r2 X.K f))(hx:XE X x a)(hy:XE X y b)(hm:behindInMarks op y=J:=by exact Ab _):XT X (.Compare x [op] [y] pos) (mB (m2 f a b)):=qX ho hx hy hm
theorem kc{a:dU}{i:Nat}{l:List Nat}(x:Str)(r:∀i∈l,∃x,X.N[i]?=Z x/\a.names.lookup x=Z .free/\(X.env.kindOf x=Z .cell\/X.env.kindOf x=Z .free)/\(x,NameKind.cell)∉a.names)(h1:X.N[i]?=Z x:=by rfl)(h2:a.names.lookup x=Z .free:=by rfl)(c:X.env.kindOf x=Z .cell\/X.env.kindOf x=Z .free:=by first|exact Or.inl rfl|exact Or.inr rfl)(b:(x,NameKind.cell)∉a.names:=by decide+kernel):∀j∈i::l,∃x,X.N[j]?=Z x/\a.names.lookup x=Z .free/\(X.env.kindOf x=Z .cell\/X.env.kindOf x=Z .free)/\(x,NameKind.cell)∉a.names:=List.forall_mem_cons.mpr ⟨⟨x,h1,h2,c,b⟩,r⟩
end
structure eF (K:Fg1)(x:Str)(st:dS)(f:dF):Prop where
 ns:wN1 K dJ x=some (some (.ref f))
 fn:∃fd,yU K x x st f fd
theorem IW{K:Fg1}{x:Str}{st:dS}{f:dF}{g:dD}{h j:Option dF}{e:Array (Option dD)}{kV d i b ct:dD}(a:wN1 K dJ x=Z (Z (.ref f)))(l:K.lookup f=Z ⟨g,h,.func (wF1 x x (hG st) (fy st) (ea st) .none kV d i j b ct),e⟩)(c:wC1 K b x=M)(k:wK1 K (.ref f)=M):eF K x st f:=⟨a,_,AZ l c k⟩
theorem xo{P:dG}{w:dI}{K:Fg1}{mg:Str->Option dD}{base h:dQ}{x:Str}{st:dS}{f:dF}{N ps:List Str}{k n:Nat}{b:FS}(X:K.In h)(G:h.Ns dJ mg)(F:eF K x st f)(S:gy N ps (ea st))(hb:∀(kV g j:dD) (l:Option dF) (a ct:dD) (e:List dD),e.length=ps.length->bindArgs (wF1 x x (hG st) (fy st) (ea st) .none kV g j l a ct) ⟨e,[]⟩=pure (ps.zip e))(d:∀(f:dF) (a:dD) (A:dH) (c:List Env) (s:dE) (H:Hp) (E:XK),fP k (A.deeper (envOfC x (ea st) s.heap.objs.size f a)) ->
   vG (mU ul P w K mg base N x (ea st) f a A c s H E).nox (fy st) b)(hn:ps.length=n:=by rfl):fi P w K mg base (k+1) x n (gY N.length b):=by
 obtain⟨fd,i⟩:=F.fn;exact BV i (i.binds hb) (wM1 X G F.ns) S hn (d f)
section
variable{X:Cx}{ag:List (dF×Obj)}{σ:L2.St}{H:Hp}{s:dE}{mu:List dF}
end
section
variable{P:dG}{w:dI}{A:dH}{E:dD->dE->Prop}{s:dE}{a x:dF}{xs:List (TK×dF×dD)}{k:TK}
end
section
variable{X:Cx}
end
section
variable{X:Cx}{o e:Expr}{es:List Expr}{to:TE}{t:TA}{name:Str}{apos cpos:Pos}{id:String}{r:V->List V->Hp->VK->Prop}
end
section
variable{X:Cx}
end
section
variable{X:Cx}{x y z u:Expr}{pos:Pos}{f g k:FN}{a b c d:FE}{op op' op'':CmpOp}{ta tb tc td:TE}
end
structure Blt (L:List Str)(mg:Str->Option dD):Prop where
 h:∀x∈L,mg x=none
theorem bz{L:List Str}{mg:Str->Option dD}{x:Str}(B:Blt L mg)(h:x∈L:=by decide):mg x=Y:=B.h x h
theorem sk{N P:List Str}{sc:dU}(h1:sc.kind = .function:=by rfl)(h2:sc.isCoroutine=J:=by rfl)(a:sc.isGenerator=J:=by rfl)(c:N.Nodup:=by decide+kernel)(b:N.take P.length=P:=by rfl)(d:∀x∈P,sc.names.lookup x=Z .local\/sc.names.lookup x=Z .cell:=by decide+kernel)(e:∀y∈sc.names,y.2 ≠ .free:=by decide+kernel):gy N P sc:=⟨h1,h2,a,c,b,d,e⟩
def Jn(K:Fg1):List Str->Prop
 |[]=>True
 |x::l=>wN1 K dJ x=Z Y/\Jn K l
theorem Jn.blt{K:Fg1}{mg:Str->Option dD}{h:dQ}(X:K.In h)(G:h.Ns dJ mg):∀{L:List Str},Jn K L->Blt L mg
 |[],_=>⟨λ_ m=>nomatch m⟩
 |_::_,z=>⟨λ_ m=>match m with
  | .head _=>PySem.W.mg_none_of X G z.1
  | .tail _ m=>(Jn.blt X G z.2).h _ m⟩
noncomputable def JA:List Str->Bool
 |[]=>M
 |x::l=> !l.contains x&&JA l
theorem jd:∀{l:List Str},JA l=M->l.Nodup
 |[],_=>bo
 |x::l,h=>by
  obtain⟨a,b⟩:=(bA1 _ _).mp h;exact aO.mpr ⟨λm=>(by rw[cN.mpr m]at a;cases a),jd b⟩
section
variable{X:Cx}{pos:Pos}{k:Nat}{x:Str}{i:Nat}{e y:Expr}{es:List Expr}{m b:FE}{a:FA}{p:Pos}
theorem xv (hN:X.N[i]?=Z x:=by rfl)(hv:He X.env.scope x:=by first|exact Or.inl rfl|exact Or.inr (Or.inl rfl)|exact Or.inr (Or.inr rfl))(hd:(x == ("__debug__":Str))=J:=by decide)(hcd:(x == ("__classdict__":Str))=J:=by decide):XE X (.Name x pos) (mV i):=K6 i hN hv hd hcd
theorem gq(hN:JA X.N=M:=by rfl)(hi:X.N[i]?=Z x:=by rfl)(hx:yO X.env.scope x:=by first|exact Or.inl rfl|exact Or.inr rfl)(hf:X.fn x=M\/X.env.scope.names.lookup x=Z .local:=by first|exact .inl rfl|exact .inr rfl|assumption):XG X (.Name x pos) (gN i):=qO i (jd hN) hi hx hf
theorem sq(he:XE X e m)(hN:JA X.N=M:=by rfl)(hi:X.N[i]?=Z x:=by rfl)(hx:yO X.env.scope x:=by first|exact Or.inl rfl|exact Or.inr rfl)(hs:swapsWith e (Z (.Name x p)) pos.line X.env=pure J:=by rfl)(hf:X.fn x=M\/X.env.scope.names.lookup x=Z .local:=by first|exact .inl rfl|exact .inr rfl|assumption):XS X (.Assign [.Name x p] e pos) (eE m (gN i)):=qY i (jd hN) hi hx he hs hf
theorem jq(hx:XE X e m)(hy:XE X y b)(hr:fP k X.A:=by assumption)(hs:nl y:=by intro _ _;rfl):XE X (.Subscript e y pos) (m2 (b2 d0) m b):=qJ (qP hr.units) hx hy hs
theorem oq{au:Prop}(o:X.A.units+64<cLine->au)(hr:fP k X.A:=by assumption):au:=o hr.units
theorem wn {k' n:Nat}{f:FN}(h:fi X.prog X.w X.K X.mg X.base k x n f)(ha:XA X (e::es) a)(hr:fP k' X.A:=by assumption)(hk:k<=k':=by first|decide|omega)(hg:Gl X x:=by rfl)(hdb:(x == ("__debug__":Str))=J:=by decide)(he:dL (e::es) X.env=(J,eval e X.env)::dL es X.env:=by rfl)(hpl:(backTo pos (dL es X.env)).any (·.1)=J:=by rfl):XE X (.Call (.Name x p) (e::es) [] pos) (mN (dX n f) a):=qH h hr hk hg ha hdb he hpl
theorem cn {id:String}{f:FN}(hc:e9 X (.builtin id) (rN X.K f))(ha:XA X (e::es) a)(hm:X.mg x=Y:=by exact bz (by assumption))(hg:Gl X x:=by rfl)(hv:bootBuiltins x=Z (.builtin id):=by decide+kernel)(hn:x≠"__name__":=by decide)(hdb:(x == ("__debug__":Str))=J:=by decide)(he:dL (e::es) X.env=(J,eval e X.env)::dL es X.env:=by rfl)(hpl:(backTo pos (dL es X.env)).any (·.1)=J:=by rfl):XE X (.Call (.Name x p) (e::es) [] pos) (mN f a):=qD hc hg hm hv ha hn hdb he hpl
theorem cz {T:String}{f:FN}(hc:e9 X (.type T) (rN X.K f))(ha:XA X (e::es) a)(hm:X.mg x=Y:=by exact bz (by assumption))(hg:Gl X x:=by rfl)(hv:bootBuiltins x=Z (.type T):=by decide+kernel)(hn:x≠"__name__":=by decide)(hdb:(x == ("__debug__":Str))=J:=by decide)(he:dL (e::es) X.env=(J,eval e X.env)::dL es X.env:=by rfl)(hpl:(backTo pos (dL es X.env)).any (·.1)=J:=by rfl):XE X (.Call (.Name x p) (e::es) [] pos) (mN f a):=qE hc hg hm hv ha hn hdb he hpl
theorem a1(h:XE X e m)(hs:dL [e] X.env=(J,eval e X.env)::dL [] X.env:=by rfl):XA X [e] (dV m dW):=qA h qN hs
theorem a2(h:XE X e m)(g:XE X y b)(hs:dL [e,y] X.env=(J,eval e X.env)::dL [y] X.env:=by rfl)(hs2:dL [y] X.env=(J,eval y X.env)::dL [] X.env:=by rfl):XA X [e,y] (dV m (dV b dW)):=qA h (a1 g hs2) hs
theorem a3{z:Expr}{c:FE}(h:XE X e m)(g:XE X y b)(l:XE X z c)(hs:dL [e,y,z] X.env=(J,eval e X.env)::dL [y,z] X.env:=by rfl)(hs2:dL [y,z] X.env=(J,eval y X.env)::dL [z] X.env:=by rfl)(a:dL [z] X.env=(J,eval z X.env)::dL [] X.env:=by rfl):XA X [e,y,z] (dV m (dV b (dV c dW))):=qA h (a2 g l hs2 a) hs
theorem ir (ha:XA X [e] a)(hm:X.mg "range"=Y:=by exact bz (by assumption))(hg:Gl X "range":=by rfl)(hs:dL [e] X.env=[(J,eval e X.env)]:=by rfl):XI X y (.Call (.Name "range" p) [e] [] pos) (vg a):=uy hg hm ha hs
theorem ii {T:Ty}{p2:Pos}(h:XE X e m)(hm:X.mg "isinstance"=Y:=by exact bz (by assumption))(hm2:X.mg x=Y:=by exact bz (by assumption))(hg:Gl X "isinstance":=by rfl)(hg2:Gl X x:=by rfl)(hv2:bootBuiltins x=Z (.type T.nm):=by decide+kernel)(hn:x≠"__name__":=by decide)(hd:(x == ("__debug__":Str))=J:=by decide)(hs1:dL [e,.Name x p2] X.env=(J,eval e X.env)::dL [.Name x p2] X.env:=by rfl)(hs2:dL [.Name x p2] X.env=(J,eval (.Name x p2) X.env)::dL [] X.env:=by rfl)(hpl:(backTo pos (dL [.Name x p2] X.env)).any (·.1)=J:=by rfl):XE X (.Call (.Name "isinstance" p) [e,.Name x p2] [] pos) (ka T m):=uA T hg hm hg2 hm2 hv2 h hn hd hs1 hs2 hpl
structure Lm (X:Cx)(name:Str)(id:String)(f:FN):Prop where
 s:Slot "list" name id
 t:typeOf (.builtin id)=pure (.type "method_descriptor")
 m:Eu X id (λx xs H Q=>rN X.K f (x::xs) H Q)
theorem ap:Lm X "append" "list.append" (b2 lZ):=⟨PySem.F.slot_list_append,PySem.F.type_list_append,HC⟩
theorem lq{f:FN}{name:Str}{apos:Pos}{id:String}(s:Lm X name id f)(ho:XE X y m)(ha:XA X (e::es) a)(hbase:attributeBase y name X.env (eval y X.env)=eval y X.env:=by rfl)(hfew:((backTo pos (dL (e::es) X.env)).all (λx=> !x.1)&&(backToKw pos (keywordEach [] X.env)).all (λx=>x.1.isSome)&&decide ((e::es).length+([]:List Keyword).length+(if([]:List Keyword).isEmpty then 0 else 1)<30))=M:=by rfl)(hline:(apos.endLine == pos.line)=M:=by rfl)(hs:dL (e::es) X.env=(J,eval e X.env)::dL es X.env:=by rfl)(hplain:(backTo pos (dL es X.env)).any (·.1)=J:=by rfl):XS X (.Expr (.Call (.Attribute y name apos) (e::es) [] pos) p) (fV (tm f m a)):=kq (qe s.s s.t s.m ho ha hbase hfew hline hs hplain)
theorem fo{tg iter:Expr}{a:List dS}{m:FI}{g:FG}{b:FS}(hi:XI X tg iter m)(hg:XG X tg g)(hb:vG X a b)(hp:PassesOwn (model X.prog X.w) X.A X.env X.xe:=by exact PassesOwn.never)(hc:X.calm=M:=by rfl)(hs:∀x,foldedSetIterable iter X.env x=pure x:=by intro _;rfl):XS X (.For tg iter a [] pos) (jg m g b):=qW hp hc hi hg hb hs
theorem tg2{d:Expr}{g h:FG}{a:Nat}(h1:XG X e g)(h2:XG X d h)(hc:X.calm=M:=by rfl)(hs:(assignEach [e,d] X.env).map (·.2)=assign e X.env::(assignEach [d] X.env).map (·.2):=by rfl)(hs2:(assignEach [d] X.env).map (·.2)=assign d X.env::(assignEach [] X.env).map (·.2):=by rfl)(hn:(assignEach [e,d] X.env).length=2:=by rfl)(hst:(assignEach [e,d] X.env).findIdx? (·.1)=Y:=by rfl):XG X (.Tuple [e,d] a pos) (gT 2 (gj g (gj h lG))):=jx hc (eH h1 (eH h2 il hs2) hs) hn hst
noncomputable def JB(x:Str):List (Str×NameKind)->Bool
 |[]=>M
 |(y,.cell)::l=> !(y == x)&&JB x l
 |_::l=>JB x l
omit k i in
theorem Af:∀{l:List (Str×NameKind)},JB x l=M->(x,NameKind.cell)∉l
 |[],_,m=>nomatch m
 |(y,c)::l,h,m=>by
  rcases aF.mp m with e|a
  ·cases e;have h:=((bA1 _ _).mp h).1;rw[beq_self_eq_true]at h;cases h
  ·cases c with
   |cell=>exact Af ((bA1 _ _).mp h).2 a
   |_=>exact Af (l:=l) h a
theorem kz{a:dU}{l:List Nat}(r:∀i∈l,∃x,X.N[i]?=Z x/\a.names.lookup x=Z .free/\(X.env.kindOf x=Z .cell\/X.env.kindOf x=Z .free)/\(x,NameKind.cell)∉a.names)(h1:X.N[i]?=Z x:=by rfl)(h2:a.names.lookup x=Z .free:=by rfl)(c:X.env.kindOf x=Z .cell\/X.env.kindOf x=Z .free:=by first|exact Or.inl rfl|exact Or.inr rfl)(b:JB x a.names=M:=by rfl):∀j∈i::l,∃x,X.N[j]?=Z x/\a.names.lookup x=Z .free/\(X.env.kindOf x=Z .cell\/X.env.kindOf x=Z .free)/\(x,NameKind.cell)∉a.names:=kc x r h1 h2 c (Af b)
noncomputable def KZ(X:Cx)(sc:dU):List (Str×dF):=(i0 X.env.cells sc.names []).getD []
theorem fk{elt tg iter:Expr}{ifs:List Expr}{scope:dU}(T:List Str){keep:List Nat}{m:FI}{g:FG}{t:FT}{e:FE}(hi:XI X tg iter m)(hb:∀ {s H f},JL (cxC X scope (KZ X scope) T keep s H f) X.K tg ifs elt g t e)(c:∀i∈keep,∃x,X.N[i]?=Z x/\scope.names.lookup x=Z .free/\(X.env.kindOf x=Z .cell\/X.env.kindOf x=Z .free)/\(x,NameKind.cell)∉scope.names:=by first|exact cO _|exact kz (cO _)|exact kz (kz (cO _))|exact kz (kz (kz (cO _)))|exact kz (kz (kz (kz (cO _)))))(hc:X.calm=M:=by rfl)(b:scope.kind = .function:=by rfl)(a:∀x∈scope.names,x.2 = .local->scope.names.lookup x.1=Z .local:=by decide+kernel)(d:i0 X.env.cells scope.names []=Z (KZ X scope):=by rfl)(hs:∀x,foldedSetIterable iter X.env x=pure x:=by intro _;rfl):XE X (.ListComp elt [⟨tg,iter,ifs,0⟩] scope pos) (eW T.length keep m g t (eG e)):=qZ hc ⟨b,a,c⟩ d hi (λ_ _ _=>hb) hs
end
theorem xq{P:dG}{w:dI}{K:Fg1}{mg:Str->Option dD}{base h:dQ}{x:Str}{st:dS}{f:dF}{k n:Nat}{b:FS}(N:List Str)(X:K.In h)(G:h.Ns dJ mg)(F:eF K x st f)(d:∀{f:dF} {a:dD} {A:dH} {c:List Env} {s:dE} {H:Hp} {E:XK},fP k (A.deeper (envOfC x (ea st) s.heap.objs.size f a)) ->
   vG (mU ul P w K mg base N x (ea st) f a A c s H E).nox (fy st) b)(S:gy N (N.take n) (ea st):=by exact sk)(hb:∀(kV i j:dD) (l:Option dF) (a ct:dD) (e:List dD),e.length=(N.take n).length->bindArgs (wF1 x x (hG st) (fy st) (ea st) .none kV i j l a ct) ⟨e,[]⟩=pure ((N.take n).zip e):=by
   intro _ _ _ _ _ _ e g;first|exact KS g λ_=>rfl|exact KQ g λ_ _=>rfl|exact KP g λ_ _ _=>rfl|exact KO g λ_ _ _ _=>rfl)(hn:(N.take n).length=n:=by rfl):fi P w K mg base (k+1) x n (gY N.length b):=xo X G F S hb (λ_ _ _ _ _ _ _ m=>d m) hn
open AutoSeq1 (wpAny_loadPart')
section
variable{X:Cx}
end
mutual
noncomputable def pl:D->Bool
 | .non=>M
 | .bl _=>M
 | .int _=>M
 | .str _=>M
 | .tup xs=>m7 xs
 |_=>J
noncomputable def m7:List D->Bool
 |[]=>M
 |x::xs=>pl x&&m7 xs
end
section
variable{X:Cx}{ag:List (dF×Obj)}{σ:L2.St}{H:Hp}{s:dE}{mu:List dF}{S:Sto}
mutual
theorem v8(I:Inv X ag σ H s):∀{d d':D} {v:V},pl d=M->pl d'=M->eK X.K H mu d v->eK X.K H mu d' v->d=d'
 | .non,d',_,_,h,.non,r=>by cases r;rfl
 | .bl b,d',_,_,h,.bl _,r=>by cases r;rfl
 | .int i,d',_,_,h,.int _,r=>by cases r;rfl
 | .str x,d',_,_,h,.str _,r=>by cases r;rfl
 | .tup xs,d',_,g,h,.tup q t,r=>by
  cases r with
  |tup a c=>
   have e:=I.tuple_inj q a;subst e;rw[pl]at g h;rw[sJ I g h t c]
  |rol _ _=>cases h
  |ref _=>cases h
  |fn _=>cases h
 | .rol _,_,_,g,_,_,_=>by cases g
 | .ref _,_,_,g,_,_,_=>by cases g
 | .fn _,_,_,g,_,_,_=>by cases g
theorem sJ(I:Inv X ag σ H s):∀{ds a:List D} {vs:List V},m7 ds=M->m7 a=M->d4 X.K H mu ds vs->d4 X.K H mu a vs->ds=a
 |[],_,_,_,_,.nil,r=>by cases r;rfl
 |d::ds,_,_,g,h,.cons r t,z=>by
  cases z with
  |cons c b=>
   rw[m7,bA1]at g h;rw[v8 I g.1 h.1 r c,sJ I g.2 h.2 t b]
end
end
noncomputable def jk:D->Option Bool
 | .tup (.int _::_)=>Z M
 | .tup (.tup _::_)=>Z J
 |_=>Y
noncomputable def Km(a b:D):Bool:=kb [] 51 a b == Z M
noncomputable def yn(a:D):List D->List D
 |[]=>[a]
 |b::l=>if Km a b=M then a::b::l else b::yn a l
noncomputable def kF:List D->List D
 |[]=>[]
 |a::l=>yn a (kF l)
noncomputable def pW(a b:D):Bool:=kb [] 51 a b == Z M&&kb [] 51 b a == Z J
noncomputable def mo:List D->Bool
 |[]=>M
 |a::l=>l.all (pW a)&&mo l
theorem kP:∀{l:List D} {i j:Nat} {a b:D},mo l=M->l[i]?=Z a->l[j]?=Z b->i<j->pW a b=M
 |[],i,j,a,b,_,h,_,_=>by simp at h
 |x::l,0,j+1,a,b,h,h1,h2,_=>by
  rw[mo,bA1,bC]at h;simp at h1 h2;subst h1;exact h.1 b (gM1 h2)
 |x::l,i+1,j+1,a,b,h,h1,h2,hij=>by
  rw[mo,bA1]at h;exact kP h.2 (by simpa using h1) (by simpa using h2) (by lia)
 |x::l,i,0,a,b,_,_,_,hij=>by lia
abbrev Tr:=D×V×dD
noncomputable def yk(a:Tr):List Tr->List Tr
 |[]=>[a]
 |b::l=>if Km a.1 b.1=M then a::b::l else b::yk a l
noncomputable def su:List Tr->List Tr
 |[]=>[]
 |a::l=>yk a (su l)
theorem p9(a:Tr):∀l:List Tr,(yk a l).Perm (a::l)
 |[]=>.refl _
 |b::l=>by
  rw[yk];split
  ·exact .refl _
  ·exact((p9 a l).cons b).trans (.swap _ _ _)
theorem nC:∀l:List Tr,(su l).Perm l
 |[]=>.refl _
 |a::l=>(p9 a _).trans ((nC l).cons a)
theorem tI(a:Tr):∀l:List Tr,(yk a l).map (·.1)=yn a.1 (l.map (·.1))
 |[]=>rfl
 |b::l=>by
  rw[yk,mP1,yn];split
  ·rfl
  ·rw[mP1,tI a l]
theorem py:∀l:List Tr,(su l).map (·.1)=kF (l.map (·.1))
 |[]=>rfl
 |a::l=>by rw[su,mP1,kF,tI,py l]
section
variable{prog:dG}{w:dI}{A:dH}{E:dD->dE->Prop}{s:dE}
theorem Df{a b:dF}{k l:Int}{t u:Tok}{g zs:List dD}{c:Bool}{Q:Bool->dE->Prop}(ha:IsTup s.heap a (Value.int k t::g).toArray)(hb:IsTup s.heap b (Value.int l u::zs).toArray)(f:k≠l/\c=decide (k<l)\/k=l/\uj A s g zs c)(h:Q c s):
  dN (model prog w) A (keyLt' (tuples' M) (.ref a) (.ref b)) Q E s:=by
 rcases f with⟨f,rfl⟩|⟨rfl,L⟩
 ·exact GD ha hb f h
 rw[iU];obtain⟨o,r,D,_,v⟩:=ha;obtain⟨F,y,C,_,B⟩:=hb;refine wB1 (listItems_at r v (wB1 (listItems_at y B ?_)));rw[bT,bL,bF];refine wB1 (wB1 ?_);dsimp only;refine wB1 (wpAny_eqBool_int ?_);simp only[beq_self_eq_true,b5,bF1,if_false];refine wP1 ?_;refine wpAny_mono (wpAny_forIn_list _ (λrest b s'=>s'=s/\b=(Y,()) /\ ∃(i:Nat) (vs ws:List dD),rest=(vs.zip ws).zipIdx (i+1)/\uj A s vs ws c/\vs.length+zs.length=ws.length+g.length)
  (λb s'=>s'=s/\(b=(Z c,())\/(b=(Y,())/\c=decide (g.length<zs.length)))) ?_ ?_ _ _ ⟨O,O,0,g,zs,O,L,by lia⟩) ?_ λ_ _ e=>e
 ·rintro x rest b s' ⟨rfl,rfl,i,vs,ws,d,m,j⟩;cases m with
  |nn=>simp at d
  |nc _ _=>simp at d
  |cn _ _=>simp at d
  | @eq p q ps n _ e t=>
   rw[bT,bL]at d;cases d;refine wB1 (e.of_in1 prog w E _ ?_);simp only[b5,bF1,if_false];exact wP1 ⟨O,O,i+1,ps,n,O,t,by simp at j;lia⟩
  | @lt p q ps n _ e t=>
   rw[bT,bL]at d;cases d;refine wB1 (e.of_in1 prog w E _ ?_);simp only[ci,if_true];rw[show(M&&(i+1 == 0))=J from rfl];exact wB1 (zX t (wP1 ⟨O,.inl O⟩))
 ·rintro b s' ⟨rfl,rfl,i,vs,ws,d,m,j⟩;refine⟨O,.inr ⟨O,?_⟩⟩;cases m with
  |nn=>simp at j;rw[ai (by lia)]
  |nc _ _=>simp at j;rw[ah (by lia)]
  |cn _ _=>simp at j;rw[ai (by lia)]
  |eq _ _=>simp at d
  |lt _ _=>simp at d
 ·rintro b s' ⟨rfl,z⟩;rcases z with rfl|⟨rfl,z⟩
  ·exact wP1 h
  ·refine wP1 ?_;rw[sT1,sT1,lC1,lC1,show decide (g.length+1<zs.length+1)=c by rw[z];congr 1;simp];exact h
end
section
variable{X:Cx}{ag:List (dF×Obj)}{σ:L2.St}{H:Hp}{s:dE}{mu:List dF}{S:Sto}
theorem GJ(I:Inv X ag σ H s)(hs:Sim X.K H mu S){A:dH}(P:A.units+60<cLine){f:Bool}{d e:D}{v w:V}{u z:dD}{b:Bool}(C:eK X.K H mu d v)(G:eK X.K H mu e w)(F:d6 v u)(B:d6 w z)(hd:jk d=Z f)(he:jk e=Z f)(h:kb S 51 d e=Z b){E:dD->dE->Prop}{Q:Bool->dE->Prop}(q:Q b s):dN (model X.prog X.w) A (keyLt' (tuples' f) u z) Q E s:=by
 have y:∀{xs ys:List D} {vs ws:List V} {us zs:List dD} {b:Bool},d4 X.K H mu xs vs->d4 X.K H mu ys ws->ei vs us->ei ws zs->oX (fW S 50) (kb S 50) xs ys=Z b->uj A s us zs b:=
  λa i c g h=>AB I hs (A:=A) (n:=50) (by lia) (λam r2 N L h=>va I hs 50 (A:=A.in1) (by show A.units+1+50<cLine;lia) am r2 N L h) a i c g h
 unfold jk at hd he;split at hd
 ·rename_i k _;cases hd;split at he
  ·rename_i l _;cases C with
   |tup x a=>
   cases G with
   |tup o i=>
   obtain⟨t,c,p,_⟩:=I.tuple x;obtain⟨m,g,r,_⟩:=I.tuple o;cases F;cases B;cases a with
   |cons a1 a=>
   cases i with
   |cons a2 i=>
   cases a1;cases a2;cases c with
   |cons ao c=>
   cases g with
   |cons K g=>
   obtain⟨tk,rfl⟩:=ao;obtain⟨au,rfl⟩:=K;refine Df p r ?_ q;have h:oX (fW S 50) (kb S 50) (.int k::_) (.int l::_)=Z b:=h;rw[oX]at h;by_cases j:k=l
   ·subst j;exact .inr ⟨rfl,y a i c g (by
     have e:fW S 50 (.int k) (.int k)=Z M:=by show Z (decide (k=k))=_;simp
     rw[e]at h;exact h)⟩
   ·refine .inl ⟨j,?_⟩;have e:fW S 50 (.int k) (.int l)=Z J:=by show Z (decide (k=l))=_;simp[j]
    rw[e]at h;have h:Z (decide (k<l))=Z b:=h;exact(Option.some.inj h).symm
  ·cases he
  ·cases he
 ·cases hd;split at he
  ·cases he
  ·cases C with
   |tup x a=>
   cases G with
   |tup o i=>
   obtain⟨t,c,p,_⟩:=I.tuple x;obtain⟨m,g,r,_⟩:=I.tuple o;cases F;cases B;exact GC p r (y a i c g h) q
  ·cases he
 ·cases hd
theorem EU(I:Inv X ag σ H s)(hs:Sim X.K H mu S){A:dH}(hu:A.units+60<cLine){f:Bool}{ds:List D}{vs:List V}{its:List dD}(r:d4 X.K H mu ds vs)(rv:ei vs its)(hp:m7 ds=true)(hk:∀d∈ds,jk d=some f)(hr:mo (kF ds)=true):
  ∃(K:List V) (ws:List dD),d4 X.K H mu (kF ds) K/\ei K ws/\its.Perm ws/\K.length=vs.length /\
   ∀c:dQ,(∀b o,s.heap.get? b=Z o->c.get? b=Z o)->md X.prog X.w A {s with heap:=c} (tuples' f) ws (pairsOf its) /\
    (its≠[] -> ∀(E:dD->dE->Prop) (Q:SortKind->dE->Prop),Q (tuples' f) {s with heap:=c}->dN (model X.prog X.w) A (keyKind' its.toArray) Q E {s with heap:=c}):=by
 have p:∀{l:List D},m7 l=M -> ∀d∈l,pl d=M:=by
  intro l
  induction l with
  |nil=>intro _ d h;cases h
  |cons x l ih=>
   intro h d ao;rw[m7,bA1]at h;rcases aF.mp ao with rfl|z
   ·exact h.1
   ·exact ih h.2 d z
 have und:∀n,(∀d:D,pl d=M->d.und n=M) /\ ∀l:List D,m7 l=M->D.unds n l=M:=λn=>by
  refine⟨λd=>?_,λl=>?_⟩
  ·exact D.rec (motive_1:=λd=>pl d=M->d.und n=M) (motive_2:=λl=>m7 l=M->D.unds n l=M) (λ_=>rfl) (λ_ _=>rfl) (λ_ _=>rfl) (λ_ _=>rfl) (λxs ih h=>by rw[pl]at h;rw[D.und];exact ih h) (λ_ _ h=>by cases h) (λ_ h=>by cases h) (λ_ h=>by cases h) (λ_=>rfl) (λx xs h1 h2 h=>by rw[m7,bA1]at h;rw[D.unds,h1 h.1,h2 h.2];rfl) d
  ·exact D.rec_1 (motive_1:=λd=>pl d=M->d.und n=M) (motive_2:=λl=>m7 l=M->D.unds n l=M) (λ_=>rfl) (λ_ _=>rfl) (λ_ _=>rfl) (λ_ _=>rfl) (λxs ih h=>by rw[pl]at h;rw[D.und];exact ih h) (λ_ _ h=>by cases h) (λ_ h=>by cases h) (λ_ h=>by cases h) (λ_=>rfl) (λx xs h1 h2 h=>by rw[m7,bA1]at h;rw[D.unds,h1 h.1,h2 h.2];rfl) l
 have tri:∃aq:List Tr,aq.map (·.1)=ds/\aq.map (·.2.1)=vs/\aq.map (·.2.2)=its /\ ∀y∈aq,eK X.K H mu y.1 y.2.1/\d6 y.2.1 y.2.2:=by
  clear hk hr hp
  induction ds generalizing vs its with
  |nil=>cases r;cases rv;exact⟨[],O,O,O,λy h=>by cases h⟩
  |cons d ds ih=>
   cases r with
   |cons B t=>
   cases rv with
   |cons N tt=>
   obtain⟨aq,am,G,w,ok⟩:=ih t tt;refine⟨(d,_,_)::aq,by rw[mP1,am],by rw[mP1,G],by rw[mP1,w],λy m=>?_⟩;rcases aF.mp m with rfl|z
   ·exact⟨B,N⟩
   ·exact ok y z
 obtain⟨aq,rfl,rfl,rfl,ok⟩:=tri;have L:=nC aq;have em:=py aq;rw[<- em]at hr ⊢;generalize hZ:su aq=wq at *
 have g:∀y∈wq,y∈aq:=λy m=>L.mem_iff.mp m;refine⟨wq.map (·.2.1),wq.map (·.2.2),?_,?_,(L.map _).symm,by rw[lM1,lM1,L.length_eq],λc keep=>⟨⟨?_,?_,?_⟩,λU E Q q=>?_⟩⟩
 ·clear hr hZ em L
  induction wq with
  |nil=>exact .nil
  |cons y wq ih=>exact .cons (ok y (g y mS1)).1 (ih λz hz=>g z (mC1 _ hz))
 ·clear hr hZ em L
  induction wq with
  |nil=>exact .nil
  |cons y wq ih=>exact .cons (ok y (g y mS1)).2 (ih λz hz=>g z (mC1 _ hz))
 ·refine cw.mpr fun i j hi hj au e=>?_;rw [lM1] at hi hj;rw [List.getElem_map,List.getElem_map] at e;have C:=g _ (bS hi);have F:=g _ (bS hj);have W:=kP hr (i:=i) (j:=j) (a:=wq[i].1) (b:=wq[j].1) (by rw [gP1,gG1 hi];rfl) (by rw [gP1,gG1 hj];rfl) au;obtain ⟨B,N⟩:=ok _ C;obtain ⟨r2,q2⟩:=ok _ F;have h1:=hk wq[i].1 (cc.mpr ⟨_,C,rfl⟩);have h2:=hk wq[j].1 (cc.mpr ⟨_,F,rfl⟩);have isT:∀ {d:D} {v:V} {u:dD},jk d=some f->eK X.K H mu d v->d6 v u -> ∃ a,v = .ref a/\u = .ref a:=fun {d v u} ao rd ru=>by
   cases rd with
   |tup _ _=>cases ru;exact⟨_,O,O⟩
   |_=>cases ao
  obtain⟨a1,am,G⟩:=isT h1 B N;obtain⟨a2,w,e4⟩:=isT h2 r2 q2;rw[G,e4]at e;cases e;rw[am]at B;rw[w]at r2;have e:=v8 I (p hp _ (cc.mpr ⟨_,C,O⟩)) (p hp _ (cc.mpr ⟨_,F,O⟩)) B r2;unfold pW at W;rw[e,bA1,beq_iff_eq,beq_iff_eq]at W;rw[W.1]at W;cases W.2
 ·rw[pairsOf_toList];have:(aq.map (·.2.2) |>.zip (aq.map (·.2.2))).map (·.1)=aq.map (·.2.2):=List.map_fst_zip (nR1 _);rw[this];exact(L.map _).symm
 ·intro x y i j hx m au E Q q;rw[gP1]at hx m;obtain⟨yi,hyi,rfl⟩:=oM1.mp hx;obtain⟨yj,R,rfl⟩:=oM1.mp m;have C:=g _ (gM1 hyi);have F:=g _ (gM1 R);have T:Inv X ag σ H {s with heap:=c}:=I.kept (t':=s.toks) keep;have ki:(wq.map (·.1))[i]?=Z yi.1:=by rw[gP1,hyi];rfl
  have kj:(wq.map (·.1))[j]?=Z yj.1:=by rw[gP1,R];rfl
  have pi:=(und 0).1 _ (p hp _ (cc.mpr ⟨_,C,O⟩));have pj:=(und 0).1 _ (p hp _ (cc.mpr ⟨_,F,O⟩));refine GJ T hs hu (ok _ C).1 (ok _ F).1 (ok _ C).2 (ok _ F).2 (hk _ (cc.mpr ⟨_,C,O⟩)) (hk _ (cc.mpr ⟨_,F,O⟩)) ?_ q;rw[wA pi pj];by_cases z:i<j
  ·have:=kP hr ki kj z;unfold pW at this;simp only[bA1,beq_iff_eq]at this;rw[ah z];exact this.1
  ·have:=kP hr kj ki (by lia);unfold pW at this;simp only[bA1,beq_iff_eq]at this;rw[ai z];exact this.2
 ·have T:Inv X ag σ H {s with heap:=c}:=I.kept (t':=s.toks) keep;have ao:∀ y∈aq,∃ a xs,y.2.2 = .ref a/\IsTup c a xs/\(if f=true then ∃ k t ps,xs=(Value.int k t::ps).toArray else ∃ b ps qs,xs=(Value.ref b::ps).toArray/\IsTup c b qs):=fun y m=>by
   have h1:=hk y.1 (cc.mpr ⟨_,m,O⟩);obtain⟨B,N⟩:=ok y m;obtain⟨d,v,u⟩:=y;dsimp only at *
   unfold jk at h1;split at h1
   ·cases h1;cases B with
    |tup q t=>
    obtain⟨is,P,i1,_⟩:=T.tuple q;cases t with
    |cons a1 t=>
    cases a1;cases P with
    |cons w1 P=>
    obtain⟨tk,rfl⟩:=w1;cases N;exact⟨_,_,O,i1,by rw[ak O];exact⟨_,_,_,O⟩⟩
   ·cases h1;cases B with
    |tup q t=>
    obtain⟨is,P,i1,_⟩:=T.tuple q;cases t with
    |cons a1 t=>
    cases a1 with
    |tup q2 t2=>
    obtain⟨is2,v2,i2,_⟩:=T.tuple q2;cases P with
    |cons w1 P=>
    cases w1;cases N;exact⟨_,_,O,i1,by rw[aj aK];exact⟨_,_,_,O,i2⟩⟩
   ·cases h1
  cases f with
  |true=>
   refine GF U (λv hv=>?_) q;obtain⟨y,m,rfl⟩:=cc.mp hv;obtain⟨a,xs,am,G,w⟩:=ao y m;rw[ak O]at w;obtain⟨k,t,ps,rfl⟩:=w;exact⟨a,k,t,ps,am,G⟩
  |false=>
   refine GE U (λv hv=>?_) q;obtain⟨y,m,rfl⟩:=cc.mp hv;obtain⟨a,xs,am,G,w⟩:=ao y m;rw[aj aK]at w;obtain⟨b,ps,qs,rfl,e4⟩:=w;exact⟨a,_,ps,b,qs,am,G,O,e4⟩
end
section
variable{prog:dG}{w:dI}{A:dH}{E:dD->dE->Prop}{s:dE}
end
noncomputable def oj(l:List D):Option Bool:=match l with
 |[]=>Z M
 |d::l=>match jk d with
  |some f=>if(l.all λe=>jk e == Z f)=M then Z f else Y
  |none=>Y
theorem vi:∀{l:List D} {f:Bool},oj l=Z f -> ∀d∈l,jk d=Z f
 |[],_,_,d,h=>by cases h
 |x :: l,f,h,d,hd=>by
  rw[oj]at h;cases hx:jk x with
  |none=>rw[hx]at h;cases h
  |some g=>
   rw[hx]at h;dsimp only at h;split at h
   ·rename_i a;cases h;rcases aF.mp hd with rfl|z
    ·exact hx
    ·have:=bC.mp a d z
     rwa [beq_iff_eq]at this
   ·cases h
mutual
theorem pl_tk:∀k:TK,pl (tkD k)=M
 | .non=>rfl
 | .int _=>rfl
 | .tup xs=>by rw[tkD,pl];exact zK xs
theorem zK:∀ks:List TK,m7 (ic ks)=M
 |[]=>rfl
 |k::ks=>by rw[ic,m7,pl_tk k,zK ks];rfl
end
section
variable{X:Cx}
end
noncomputable def Hq:Bool->Keyed->Array Keyed->Nat->Nat->Nat->StateT SortSt Sem (Option Nat):=sortPriv%PySem.Builtin.gallop
abbrev rk(ws:List dD)(p:Keyed):Nat:=rkV ws p.1
section
variable{prog:dG}{w:dI}{A:dH}{E:dD->dE->Prop}{s:dE}{κ:SortKind}{ws:List dD}{a₀:Array Keyed}
theorem md.lt2(C:md prog w A s κ ws a₀){st:SortSt}{p q:Keyed}{Q:Option Bool->SortSt->Prop}(hk:kindOf st=κ)(hp:p∈a₀)(b:q∈a₀)(a:rk ws p≠rk ws q)(h:Q (Z (decide (rk ws p<rk ws q))) st):wpS (model prog w) A E s (lt' p q) Q st:=by
 have at_:∀{p:Keyed},p∈a₀->ws[rk ws p]?=Z p.1:=λ{p} hp=>zy (C.keys.mem_iff.mp (cc.mpr ⟨_,aM.mpr hp,O⟩));rw[lt'_eq];refine wpS_bind (wpS_get ?_);rw[hk];exact wpS_bind (wpS_lift (wpAny_attempt (C.lt p.1 q.1 _ _ (at_ hp) (at_ b) a _ _ ⟨O,wpS_pure h⟩)))
noncomputable def bey(l:Bool)(key:Keyed)(arr:Array Keyed)(b i:Nat):StateT SortSt Sem (Option Bool):=elem' arr (b+i) >>= λx=>if l=M then lt' x key else lt' key x >>= λr=>pure (r.map λz=> !z)
theorem Jc(C:md prog w A s κ ws a₀){st:SortSt}{l:Bool}{key p:Keyed}{arr:Array Keyed}{b i:Nat}{Q:Option Bool->SortSt->Prop}(hk:kindOf st=κ)(a:key∈a₀)(hp:arr[b+i]?=Z p)(hm:p∈a₀)(c:rk ws p≠rk ws key)(q:Q (Z (decide (rk ws p<rk ws key))) st):wpS (model prog w) A E s (bey l key arr b i) Q st:=by
 unfold bey;rw[elem'_eq,hp];refine wpS_bind (wpS_pure ?_);cases l with
 |true=>exact C.lt2 hk hm a c q
 |false=>
  refine wpS_bind (C.lt2 hk a hm (Ne.symm c) (wpS_pure ?_));have e:(!decide (rk ws key<rk ws p))=decide (rk ws p<rk ws key):=by rw[bQ];simp;lia
  show Q (Z (!decide (rk ws key<rk ws p))) st;rw[e];exact q
theorem wR(C:md prog w A s κ ws a₀){st:SortSt}{l:Bool}{key:Keyed}{arr:Array Keyed}{b n h:Nat}{R:Nat->Nat}{Q:Option Nat->SortSt->Prop}(hk:kindOf st=κ)(K:key∈a₀)(P:h<n)(B:∀i,i<n -> ∃p,arr[b+i]?=Z p/\p∈a₀/\rk ws p=R i/\R i≠rk ws key)(d:∀i j,i<j->j<n->R i<R j)(q:∀k,k<=n->(∀i,i<k->R i<rk ws key)->(∀i,k<=i->i<n->rk ws key<R i)->Q (Z k) st):wpS (model prog w) A E s (Hq l key arr b n h) Q st:=by
 have N:∀i,i<n -> ∀{Q:Option Bool->SortSt->Prop},Q (Z (decide (R i<rk ws key))) st->wpS (model prog w) A E s (bey l key arr b i) Q st:=λi hi Q ao=>by
  obtain⟨p,h1,h2,H,y⟩:=B i hi;rw[<- H]at ao y;exact Jc C hk K h1 h2 y ao
 have ne:∀i,i<n->R i≠rk ws key:=λi hi=>by obtain⟨p,_,_,_,h⟩:=B i hi;exact h
 have L:∀ lo hi,lo<=hi->hi<=n->(∀ i,i<lo->R i<rk ws key)->(∀ i,hi<=i->i<n->rk ws key<R i) -> ∀ {f:Nat->Option (Option Nat)×Nat×Nat->StateT SortSt Sem (ForInStep (Option (Option Nat)×Nat×Nat))} {S:Option (Option Nat)×Nat×Nat->SortSt->Prop},
   (∀x c,f x c=(if c.2.1>=c.2.2 then pure (ForInStep.done (Y,c.2.1,c.2.2))else bey l key arr b (c.2.1+(c.2.2-c.2.1)/2) >>= λr=>match r with
    |some m=>if m=M then pure (ForInStep.yield (Y,c.2.1+(c.2.2-c.2.1)/2+1,c.2.2))else pure (ForInStep.yield (Y,c.2.1,c.2.1+(c.2.2-c.2.1)/2))
    |_=>pure (ForInStep.done (Z Y,c.2.1,c.2.2))))->(∀k c,k<=n->(∀i,i<k->R i<rk ws key)->(∀i,k<=i->i<n->rk ws key<R i)->c.1=Y->c.2.2=k->S c st)->wpS (model prog w) A E s (forIn [0:n] (Y,lo,hi) f) S st:=λlo hi h1 h2 H y f S X ao=>by
  refine wpS_forRange (λx c st'=>st'=st /\ ∃lo hi,c=(Y,lo,hi)/\lo<=hi/\hi<=n/\hi-lo<=n-x/\(∀i,i<lo->R i<rk ws key) /\ ∀i,hi<=i->i<n->rk ws key<R i) ?_ ?_ ⟨O,lo,hi,O,h1,h2,by lia,H,y⟩
  ·rintro x c st' _ T ⟨rfl,lo,hi,rfl,I,g,o,a,D⟩;rw[X];dsimp only;by_cases z:lo>=hi
   ·rw[ak z];have e:lo=hi:=by lia
    subst e;exact wpS_pure (ao lo _ g a D O O)
   ·rw[aj z];have hm:lo+(hi-lo)/2<hi:=by lia
    generalize U:lo+(hi-lo)/2=m at *
    refine wpS_bind (N m (by lia) ?_);by_cases u:R m<rk ws key
    ·simp only[u,decide_true,if_true];refine wpS_pure ⟨O,m+1,hi,O,by lia,g,by lia,λi W=>?_,D⟩;by_cases v:i=m
     ·rw[v];exact u
     ·exact bh (d i m (by lia) (by lia)) u
    ·simp only[u,decide_false,bF1,if_false];have F:rk ws key<R m:=by have:=ne m (by lia);lia
     refine wpS_pure ⟨O,lo,m,O,by lia,by lia,by lia,a,λi t G=>?_⟩;by_cases v:i=m
     ·rw[v];exact F
     ·exact bh F (d m i (by lia) G)
  ·rintro c st' ⟨rfl,lo,hi,rfl,I,g,o,a,D⟩;have e:lo=hi:=by lia
   subst e;exact ao lo _ g a D O O
 unfold Hq;refine wpS_bind (N h P ?_);by_cases z:R h<rk ws key
 ·simp only[z,decide_true,if_true];refine wpS_bind (wpS_mono (wpS_forRange (λx c st'=>st'=st /\ ∃lo of,c=(Y,lo,of)/\x+1<=of/\lo<of/\h+lo<n/\R (h+lo)<rk ws key) (Q:=λc st'=>st'=st /\ ∃lo of,c=(Y,lo,of)/\lo<of/\h+lo<n/\R (h+lo)<rk ws key /\ ∀i,h+min of (n-h)<=i->i<n->rk ws key<R i) ?_ ?_ ⟨O,0,1,O,by lia,by lia,P,z⟩) ?_)
  ·rintro x c st' _ T ⟨rfl,lo,of,rfl,I,g,o,a⟩;dsimp only;by_cases am:of>=n-h
   ·rw[ak am];exact wpS_pure ⟨O,lo,of,O,g,o,a,λi t G=>by lia⟩
   ·rw[aj am];refine wpS_bind (N (h+of) (by lia) ?_);by_cases u:R (h+of)<rk ws key
    ·simp only[u,decide_true,b5,bF1,if_false];exact wpS_pure ⟨O,of,2*of+1,O,by lia,by lia,by lia,u⟩
    ·simp only[u,decide_false,ci,if_true];have F:rk ws key<R (h+of):=by have:=ne (h+of) (by lia);lia
     refine wpS_pure ⟨O,lo,of,O,g,o,a,λi t G=>?_⟩;by_cases v:i=h+of
     ·rw[v];exact F
     ·exact bh F (d (h+of) i (by lia) G)
  ·rintro c st' ⟨rfl,lo,of,rfl,I,g,o,a⟩;exact⟨O,lo,of,O,g,o,a,λi t G=>by lia⟩
  ·rintro c st' ⟨rfl,lo,of,rfl,g,o,a,D⟩;dsimp only;refine wpS_bind (L (h+lo+1) (h+min of (n-h)) (by lia) (by lia) (λi hi=>?_) D (λx c=>rfl) λk c h1 h2 H y t=>?_)
   ·by_cases v:i=h+lo
    ·rw[v];exact a
    ·exact bh (d i (h+lo) (by lia) o) a
   ·obtain⟨aq,V,au⟩:=c;dsimp only at y t;subst y;subst t;exact wpS_pure (q au h1 h2 H)
 ·simp only[z,decide_false,bF1,if_false];have wq:rk ws key<R h:=by have:=ne h P;lia
  refine wpS_bind (wpS_mono (wpS_forRange (λx c st'=>st'=st /\ ∃lo of,c=(Y,lo,of)/\x+1<=of/\lo<of/\lo<=h/\rk ws key<R (h-lo)) (Q:=λc st'=>st'=st /\ ∃lo of,c=(Y,lo,of)/\lo<of/\lo<=h/\rk ws key<R (h-lo) /\ ∀i,i<h+1-min of (h+1)->R i<rk ws key) ?_ ?_ ⟨O,0,1,O,by lia,by lia,by lia,wq⟩) ?_)
  ·rintro x c st' _ T ⟨rfl,lo,of,rfl,I,g,o,a⟩;dsimp only;by_cases am:of>=h+1
   ·rw[ak am];exact wpS_pure ⟨O,lo,of,O,g,o,a,λi t=>by lia⟩
   ·rw[aj am];refine wpS_bind (N (h-of) (by lia) ?_);by_cases u:R (h-of)<rk ws key
    ·simp only[u,decide_true,if_true];refine wpS_pure ⟨O,lo,of,O,g,o,a,λi t=>?_⟩;by_cases v:i=h-of
     ·rw[v];exact u
     ·exact bh (d i (h-of) (by lia) (by lia)) u
    ·simp only[u,decide_false,bF1,if_false];have F:rk ws key<R (h-of):=by have:=ne (h-of) (by lia);lia
     exact wpS_pure ⟨O,of,2*of+1,O,by lia,by lia,by lia,F⟩
  ·rintro c st' ⟨rfl,lo,of,rfl,I,g,o,a⟩;exact⟨O,lo,of,O,g,o,a,λi t=>by lia⟩
  ·rintro c st' ⟨rfl,lo,of,rfl,g,o,a,D⟩;dsimp only;refine wpS_bind (L (h+1-min of (h+1)) (h-lo) (by lia) (by lia) D (λi t G=>?_) (λx c=>rfl) λk c h1 h2 H y t=>?_)
   ·by_cases v:i=h-lo
    ·rw[v];exact a
    ·exact bh a (d (h-lo) i (by lia) G)
   ·obtain⟨aq,V,au⟩:=c;dsimp only at y t;subst y;subst t;exact wpS_pure (q au h1 h2 H)
end
noncomputable def J3:Nat->StateT SortSt Sem Unit:=sortPriv%PySem.Builtin.setMinGallop
noncomputable def KM:Array Keyed->Array Keyed->StateT SortSt Sem (Array Keyed):=sortPriv%PySem.Builtin.mergeLo
noncomputable def KN:Array Keyed->Array Keyed->StateT SortSt Sem (Array Keyed):=sortPriv%PySem.Builtin.mergeHi
structure Sm (st st':SortSt):Prop where
 k:kindOf st'=kindOf st
 a:arrOf st'=arrOf st
 p:pendingOf st'=pendingOf st
 f:failedOf st'=failedOf st
theorem Sm.rfl{st:SortSt}:Sm st st:=⟨_root_.rfl,_root_.rfl,_root_.rfl,_root_.rfl⟩
theorem Sm.g{st st':SortSt}(h:Sm st st')(g:Nat):Sm st (SortSt.mk' (kindOf st') (arrOf st') (pendingOf st') g (failedOf st')):=⟨h.k,h.a,h.p,h.f⟩
def Srt(ws:List dD)(xs:List Keyed):Prop:=xs.Pairwise λp q=>rk ws p<rk ws q
def mL(ws:List dD)(xs ys:List Keyed):Prop:=∀x∈xs,∀y∈ys,rk ws x<rk ws y
section
variable{ws:List dD}{a b out xs ys zs:List Keyed}{i j k:Nat}
theorem Srt.app(h1:Srt ws xs)(h2:Srt ws ys)(h:mL ws xs ys):Srt ws (xs++ys):=cB.mpr ⟨h1,h2,h⟩
theorem mL.app(h1:mL ws xs zs)(h2:mL ws ys zs):mL ws (xs++ys) zs:=λx b y a=>(aG.mp b).elim (λh=>h1 x h y a) λh=>h2 x h y a
theorem mL.of(h:mL ws xs ys){a ys':List Keyed}(h1:∀x∈a,x∈xs)(h2:∀y∈ys',y∈ys):mL ws a ys':=λx c y b=>h x (h1 x c) y (h2 y b)
theorem Srt.split(h:Srt ws a)(i:Nat):mL ws (a.take i) (a.drop i):=by
 have:=h;unfold Srt at this;rw[<- cG i a]at this;exact(cB.mp this).2.2
structure J0 (ws:List dD)(a b out:List Keyed)(i j:Nat):Prop where
 la:i<=a.length
 lb:j<=b.length
 len:out.length=i+j
 pm:(out++(a.drop i++b.drop j)).Perm (a++b)
 so:Srt ws out
 ba:mL ws out (a.drop i)
 bb:mL ws out (b.drop j)
theorem J0.mvA(h:J0 ws a b out i j)(d:Srt ws a)(hk:i+k<=a.length)(hb:mL ws ((a.drop i).take k) (b.drop j)):J0 ws a b (out++(a.drop i).take k) (i+k) j:=by
 have e:a.drop i=(a.drop i).take k++a.drop (i+k):=by rw[<- bE,cG]
 have c:Srt ws (a.drop i):=d.sublist (cD _ _);refine⟨hk,h.lb,?_,?_,h.so.app (c.sublist (aU _ _)) (h.ba.of (λ_ h=>h) λ_ h=>cJ h),?_,h.bb.app hb⟩
 ·rw[lA1,h.len,aR,aV];lia
 ·have:=h.pm;rw[e,bH]at this;rw[bH];exact this
 ·refine mL.app (h.ba.of (λ_ h=>h) λy f=>?_) ?_
  ·rw[e];exact mA1 _ f
  ·have:=c.split k
   rwa [bE]at this
theorem J0.swap(h:J0 ws a b out i j):J0 ws b a out j i:=⟨h.lb,h.la,by rw[h.len,Nat.add_comm],(List.Perm.append_left _ cP).trans (h.pm.trans cP),h.so,h.bb,h.ba⟩
theorem J0.mvB(h:J0 ws a b out i j)(c:Srt ws b)(hk:j+k<=b.length)(hb:mL ws ((b.drop j).take k) (a.drop i)):J0 ws a b (out++(b.drop j).take k) i (j+k):=(h.swap.mvA c hk hb).swap
theorem vU{x:Keyed}(h:a[i]?=Z x):(a.drop i).take 1=[x]:=by
 have b:=(gE1.mp h).1;rw[bU b,cQ,cR,(gE1.mp h).2]
def Mgd(ws:List dD)(a b r:List Keyed):Prop:=r.Perm (a++b)/\Srt ws r
theorem J0.dn(h:J0 ws a b out i j)(c:Srt ws a)(d:j=b.length):Mgd ws a b (out++a.drop i++b.drop j):=by
 have e:b.drop j=[]:=by rw[d,List.drop_length]
 refine⟨by rw[bH];exact h.pm,?_⟩;rw[e,aN];exact h.so.app (c.sublist (cD _ _)) h.ba
theorem J0.ls(h:J0 ws a b out i j)(c:Srt ws a)(d:Srt ws b)(hb:mL ws (b.drop j) (a.drop i)):Mgd ws a b (out++b.drop j++a.drop i):=by
 refine⟨by rw[bH];exact(List.Perm.append_left _ cP).trans h.pm,?_⟩;exact(h.so.app (d.sublist (cD _ _)) h.bb).app (c.sublist (cD _ _)) (h.ba.app hb)
theorem Srt.drop_gt(h:Srt ws a){x:Keyed}(hx:a[i]?=Z x):∀y∈a.drop i,rk ws x<=rk ws y:=λy b=>by
 have c:=(gE1.mp hx).1;rw[bU c,(gE1.mp hx).2]at b;have d:Srt ws (a.drop i):=h.sublist (cD _ _);rw[bU c,(gE1.mp hx).2]at d;rcases aF.mp b with rfl|b
 ·exact nR1 _
 ·exact aD ((ca.mp d).1 y b)
end
section
variable{prog:dG}{w:dI}{A:dH}{E:dD->dE->Prop}{s:dE}{κ:SortKind}{ws:List dD}{a₀:Array Keyed}
theorem q9{st:SortSt}{g:Nat}{Q:Unit->SortSt->Prop}(h:Q () (SortSt.mk' (kindOf st) (arrOf st) (pendingOf st) g (failedOf st))):wpS (model prog w) A E s (J3 g) Q st:=wpS_modify h
theorem fu{st:SortSt}{arr:Array Keyed}{i:Nat}{p:Keyed}{Q:Keyed->SortSt->Prop}(h:arr[i]?=Z p)(q:Q p st):wpS (model prog w) A E s (elem' arr i) Q st:=by
 rw[elem'_eq,h];exact wpS_pure q
structure MC (ws:List dD)(a₀ a b:Array Keyed):Prop where
 ma:∀p∈a,p∈a₀
 mb:∀p∈b,p∈a₀
 sa:Srt ws a.toList
 sb:Srt ws b.toList
 ne:∀p∈a,∀q∈b,rk ws p≠rk ws q
 pa:0<a.size
 pb:0<b.size
 last:∀x,a[a.size-1]?=some x -> ∀q∈b,rk ws q<rk ws x
 head:∀x,b[0]?=some x -> ∀q∈a,rk ws x<rk ws q
theorem MC.galA(C:md prog w A s κ ws a₀){a b:Array Keyed}(ao:MC ws a₀ a b){st:SortSt}{l:Bool}{ia ib:Nat}{y:Keyed}{Q:Option Nat->SortSt->Prop}(hk:kindOf st=κ)(hy:b[ib]? = Z y)(n:ia<a.size)(q:∀k,ia+k<=a.size->(∀x∈(a.toList.drop ia).take k,rk ws x<rk ws y)->(∀x∈a.toList.drop (ia+k),rk ws y<rk ws x)->Q (Z k) st):wpS (model prog w) A E s (Hq l y a ia (a.size-ia) 0) Q st:=by
 have d:y∈b:=cf hy;refine wR (R:=λi=>(a[ia+i]?.map (rk ws)).getD 0) C hk (ao.mb y d) (by lia) (λi hi=>?_) (λi j h o=>?_) λk h1 h2 m=>q k (by lia) (λx g=>?_) λx g=>?_
 ·have c:ia+i<a.size:=by lia
  refine⟨a[ia+i],aG1 c,ao.ma _ (cS c),by rw[aG1 c];rfl,?_⟩;rw[aG1 c];exact ao.ne _ (cS c) _ d
 ·have c:ia+i<a.size:=by lia
  have e:ia+j<a.size:=by lia
  rw[aG1 c,aG1 e];have:=cw.mp ao.sa (ia+i) (ia+j) (by simpa using c) (by simpa using e) (by lia);simpa using this
 ·obtain⟨i,hi⟩:=bq g;have f:i<k:=by have:=(gE1.mp hi).1;rw[aR]at this;lia
  rw[aT f,cC,aT1]at hi;have:=h2 i f;rw[hi]at this;exact this
 ·obtain⟨i,hi⟩:=bq g;rw[cC,aT1]at hi;have c:=(Array.getElem?_eq_some_iff.mp hi).1;have:=m (k+i) (by lia) (by lia);rw[<- bm,hi]at this;exact this
theorem MC.galB(C:md prog w A s κ ws a₀){a b:Array Keyed}(ao:MC ws a₀ a b){st:SortSt}{l:Bool}{ia ib:Nat}{y:Keyed}{Q:Option Nat->SortSt->Prop}(hk:kindOf st=κ)(hy:a[ia]? = Z y)(m:ib<b.size)(q:∀k,ib+k<=b.size->(∀x∈(b.toList.drop ib).take k,rk ws x<rk ws y)->(∀x∈b.toList.drop (ib+k),rk ws y<rk ws x)->Q (Z k) st):wpS (model prog w) A E s (Hq l y b ib (b.size-ib) 0) Q st:=by
 have d:y∈a:=cf hy;refine wR (R:=λi=>(b[ib+i]?.map (rk ws)).getD 0) C hk (ao.ma y d) (by lia) (λi hi=>?_) (λi j h o=>?_) λk h1 h2 n=>q k (by lia) (λx g=>?_) λx g=>?_
 ·have c:ib+i<b.size:=by lia
  refine⟨b[ib+i],aG1 c,ao.mb _ (cS c),by rw[aG1 c];rfl,?_⟩;rw[aG1 c];exact(ao.ne _ d _ (cS c)).symm
 ·have c:ib+i<b.size:=by lia
  have e:ib+j<b.size:=by lia
  rw[aG1 c,aG1 e];have:=cw.mp ao.sb (ib+i) (ib+j) (by simpa using c) (by simpa using e) (by lia);simpa using this
 ·obtain⟨i,hi⟩:=bq g;have f:i<k:=by have:=(gE1.mp hi).1;rw[aR]at this;lia
  rw[aT f,cC,aT1]at hi;have:=h2 i f;rw[hi]at this;exact this
 ·obtain⟨i,hi⟩:=bq g;rw[cC,aT1]at hi;have c:=(Array.getElem?_eq_some_iff.mp hi).1;have:=n (k+i) (by lia) (by lia);rw[<- bm,hi]at this;exact this
end
theorem lj(a:Array Keyed)(i:Nat):(a.extract i a.size).toList=a.toList.drop i:=by
 rw[cA,cT,b8 (by simp)]
theorem tP(a:Array Keyed)(i k:Nat):(a.extract i (i+k)).toList=(a.toList.drop i).take k:=by
 rw[cA,cT,bt]
section
variable{prog:dG}{w:dI}{A:dH}{E:dD->dE->Prop}{s:dE}{κ:SortKind}{ws:List dD}{a₀:Array Keyed}
theorem IA(C:md prog w A s κ ws a₀){a b:Array Keyed}(ao:MC ws a₀ a b){st:SortSt}{Q:Array Keyed->SortSt->Prop}(hk:kindOf st=κ)(q:∀r st',Sm st st'->Mgd ws a.toList b.toList r.toList->Q r st'):wpS (model prog w) A E s (KM a b) Q st:=by
 have dn:∀{out:Array Keyed} {ia ib:Nat},J0 ws a.toList b.toList out.toList ia ib->ib=b.size->Mgd ws a.toList b.toList (out++a.extract ia a.size++b.extract ib b.size).toList:=λ{out ia ib} h e=>by
  rw[cy,cy,lj,lj];exact h.dn ao.sa (by rw[e];simp)
 have lastX:∀{ia:Nat},ia+1=a.size -> ∀y∈a.toList.drop ia,∀q∈b,rk ws q<rk ws y:=λ{ia} e y H q hq=>by
  have hl:ia<a.toList.length:=by rw[aJ];lia
  rw[bU hl,List.drop_of_length_le (by rw[aJ];lia)]at H;have:y=a.toList[ia]:=by simpa using H
  exact ao.last y (by rw[this,show a.size-1=ia by lia];simp) q hq
 have ls:∀{out:Array Keyed} {ia ib:Nat},J0 ws a.toList b.toList out.toList ia ib->ia+1=a.size->Mgd ws a.toList b.toList (out++b.extract ib b.size++a.extract ia a.size).toList:=λ{out ia ib} h e=>by
  rw[cy,cy,lj,lj];exact h.ls ao.sa ao.sb λx p y H=>lastX e y H x (aM.mp (cK p))
 have T:∀{i:Nat},i<a.size -> ∃x,a[i]?=Z x/\x∈a/\a.toList[i]?=Z x:=λ{i} h=>⟨a[i],aG1 h,cS h,by rw[aT1,aG1 h]⟩;have au:∀{i:Nat},i<b.size -> ∃x,b[i]?=Z x/\x∈b/\b.toList[i]?=Z x:=λ{i} h=>⟨b[i],aG1 h,cS h,by rw[aT1,aG1 h]⟩;have D:∀{out:Array Keyed} {ia ib:Nat} {y:Keyed},J0 ws a.toList b.toList out.toList ia ib->b.toList[ib]?=Z y->(∀x∈a.toList.drop ia,rk ws y<rk ws x)->J0 ws a.toList b.toList (out.push y).toList ia (ib+1):=λ{out ia ib y} h H hb=>by
  have:=h.mvB (k:=1) ao.sb (by have:=(gE1.mp H).1;lia) (by rw[vU H];intro x p z hz;rw[cU.mp p];exact hb z hz)
  rwa [vU H,<- cq]at this
 have S:∀{out:Array Keyed} {ia ib:Nat} {y:Keyed},J0 ws a.toList b.toList out.toList ia ib->a.toList[ia]?=Z y->(∀x∈b.toList.drop ib,rk ws y<rk ws x)->J0 ws a.toList b.toList (out.push y).toList (ia+1) ib:=λ{out ia ib y} h H hb=>by
  have:=h.mvA (k:=1) ao.sa (by have:=(gE1.mp H).1;lia) (by rw[vU H];intro x p z hz;rw[cU.mp p];exact hb z hz)
  rwa [vU H,<- cq]at this
 obtain⟨b0,hb0,mb0,lb0⟩:=au ao.pb;unfold KM;refine wpS_bind (wpS_lift (wpAny_rule ⟨O,?_⟩));refine wpS_bind (fu hb0 ?_);have j0:J0 ws a.toList b.toList (#[]:Array Keyed).toList 0 0:=⟨bi _,bi _,O,.refl _,.nil,λx p=>(by cases p),λx p=>(by cases p)⟩;have j1:J0 ws a.toList b.toList (#[b0]:Array Keyed).toList 0 (0+1):=D j0 lb0 λx p=>ao.head b0 hb0 x (aM.mp (cK p));clear j0;by_cases z:1=b.size
 ·rw[ak (by simpa using z)];exact wpS_pure (q _ _ .rfl (dn j1 z))
 rw[aj (by simpa using z)];by_cases z2:0+1=a.size
 ·rw[ak (by simpa using z2)];exact wpS_pure (q _ _ .rfl (ls j1 z2))
 rw[aj (by simpa using z2)];have hpa:=ao.pa;have hpb:=ao.pb;refine wpS_bind (wpS_get ?_);refine wpS_bind (wpS_mono (wpS_forRange (λx c st'=>Sm st st' /\ ∃out ia ib g,c=(Y,out,ia,ib,g)/\J0 ws a.toList b.toList out.toList ia ib/\ia+1<a.size/\ib<b.size/\x+1<=out.toList.length)
  (Q:=λc st'=>Sm st st' /\ ∃r,c.1=Z r/\Mgd ws a.toList b.toList r.toList) ?_ ?_ ⟨.rfl,_,_,_,_,O,j1,by lia,by lia,nR1 _⟩) ?_)
 ·rintro x c st' _ p ⟨hs,out,ia,ib,g,rfl,t,l,j,hn⟩;dsimp only;refine wpS_bind (wpS_mono (wpS_forRange (fun y c n=>Sm st n /\ ∃ d ia ib am K,c=(none,d,ia,ib,am,K)/\J0 ws a.toList b.toList d.toList ia ib/\ia+1<a.size/\ib<b.size/\out.toList.length+y<=d.toList.length)
   (Q:=λc n=>Sm st n/\((∃r,c.1=Z r/\Mgd ws a.toList b.toList r.toList) \/ ∃d ia ib am K,c=(Y,d,ia,ib,am,K)/\J0 ws a.toList b.toList d.toList ia ib/\ia+1<a.size/\ib<b.size/\out.toList.length+1<=d.toList.length)) ?_ ?_ ⟨hs,_,_,_,_,_,O,t,l,j,nR1 _⟩) ?_)
  ·rintro y c n _ H ⟨m,d,ia,ib,am,K,rfl,t,l,j,hn2⟩;dsimp only;obtain⟨u,hu,mu,lu⟩:=au j;obtain⟨v,V,mv,wq⟩:=T (show ia<a.size by lia);refine wpS_bind (fu hu (wpS_bind (fu V (wpS_bind (C.lt2 (m.k.trans hk) (ao.mb u mu) (ao.ma v mv) (ao.ne v mv u mu).symm ?_)))));by_cases z3:rk ws u<rk ws v
   ·simp only[z3,decide_true,if_true];refine wpS_bind (fu hu ?_);have G:=D t lu λx p=>nL1 z3 (ao.sa.drop_gt wq x p);have hl:(d.push u).toList.length=d.toList.length+1:=by simp
    by_cases B:ib+1=b.size
    ·rw[ak (by simpa using B)];exact wpS_pure ⟨m,.inl ⟨_,O,dn G B⟩⟩
    ·rw[aj (by simpa using B)];split
     ·exact wpS_pure ⟨m,.inr ⟨_,_,_,_,_,O,G,l,by lia,by lia⟩⟩
     ·exact wpS_pure ⟨m,_,_,_,_,_,O,G,l,by lia,by lia⟩
   ·simp only[z3,decide_false,bF1,if_false];have z5:rk ws v<rk ws u:=by have:=ao.ne v mv u mu;lia
    refine wpS_bind (fu V ?_);have G:=S t wq λx p=>nL1 z5 (ao.sb.drop_gt lu x p);have hl:(d.push v).toList.length=d.toList.length+1:=by simp
    by_cases B:ia+1+1=a.size
    ·rw[ak (by simpa using B)];exact wpS_pure ⟨m,.inl ⟨_,O,ls G B⟩⟩
    ·rw[aj (by simpa using B)];split
     ·exact wpS_pure ⟨m,.inr ⟨_,_,_,_,_,O,G,by lia,j,by lia⟩⟩
     ·exact wpS_pure ⟨m,_,_,_,_,_,O,G,by lia,j,by lia⟩
  ·rintro c n ⟨m,d,ia,ib,am,K,rfl,t,l,j,hn2⟩;exfalso;have:=t.len;lia
  ·rintro c n ⟨m,⟨r,U,hm⟩|⟨d,ia,ib,am,K,rfl,t,l,j,hn2⟩⟩
   ·obtain⟨c1,c2⟩:=c;dsimp only at U;subst U;exact wpS_pure ⟨m,r,O,hm⟩
   dsimp only;refine wpS_bind (wpS_lift (wpAny_rule ⟨O,?_⟩));refine wpS_bind (wpS_mono (wpS_forRange (λy c n=>Sm st n /\ ∃f ia ib g am K,c=(Y,f,ia,ib,g,am,K)/\J0 ws a.toList b.toList f.toList ia ib/\ia+1<a.size/\ib<b.size/\d.toList.length+y<=f.toList.length)
    (Q:=λc n=>Sm st n/\((∃r,c.1=Z r/\Mgd ws a.toList b.toList r.toList) \/ ∃f ia ib g am K,c=(Y,f,ia,ib,g,am,K)/\J0 ws a.toList b.toList f.toList ia ib/\ia+1<a.size/\ib<b.size/\d.toList.length<=f.toList.length)) ?_ ?_ ⟨m,_,_,_,_,_,_,O,t,l,j,nR1 _⟩) ?_)
   ·rintro y c I _ H ⟨L,f,ia,ib,g,am,K,rfl,t,l,j,hn3⟩;dsimp only;obtain⟨u,hu,mu,lu⟩:=au j;refine(λ(W:∀g':Nat,(?T:Nat->Prop) g')=>?go) ?mn
    case go=>
     by_cases hg:g>1
     ·rw[ak hg];generalize g-1=g';exact W g'
     ·rw[aj hg];exact W g
    intro g';refine wpS_bind (q9 (wpS_bind (fu hu (wpS_bind (ao.galA (ia:=ia) C (L.k.trans hk) hu (by lia) λk h1 h2 h3=>?_)))));have F:=L.g g';generalize SortSt.mk' (kindOf I) (arrOf I) (pendingOf I) g' (failedOf I)=st4 at *
    dsimp only;refine(λ(P:∀(o:Array Keyed) (i:Nat),J0 ws a.toList b.toList o.toList i ib->i+1<a.size->(∀x∈a.toList.drop i,rk ws u<rk ws x)->d.toList.length+y<=o.toList.length->(?T2:Array Keyed->Nat->Prop) o i)=>?go2) ?mn2
    case go2=>
     by_cases N:k>0
     ·rw [if_pos N];have G:=t.mvA (k:=k) ao.sa (by rw [aJ];exact h1) fun x p z hz=>nL1 (h2 x p) (ao.sb.drop_gt lu z hz);rw [<- tP,<- cy] at G;have hlt:ia+k≠a.size:=fun e=>by
       obtain⟨v,V,mv,wq⟩:=T (show a.size-1<a.size by lia);have h4:=ao.last v V u mu;have h5:=h2 v (gM1 (i:=a.size-1-ia) (by rw[aT (by lia),cC,show ia+(a.size-1-ia)=a.size-1 by lia];exact wq));lia
      have hl2:d.toList.length+y<=(f++a.extract ia (ia+k)).toList.length:=by rw[cy,lA1];lia
      by_cases B:ia+k+1=a.size
      ·rw[ak (by simpa using B)];exact wpS_pure ⟨F,.inl ⟨_,O,ls G B⟩⟩
      ·rw[aj (by simpa using B),aj (by simpa using hlt)];have h6:ia+k+1<a.size:=by lia
       generalize f++a.extract ia (ia+k)=o at G hl2 ⊢;have h8:=h3;generalize ia+k=i at G h6 h8 ⊢;exact P o i G h6 h8 hl2
     ·rw[aj N];have e:k=0:=by lia
      subst e;exact P f ia t l h3 hn3
    intro o i G hi hgt hlo;refine wpS_bind (fu hu ?_);have j2:=D G lu hgt;have hl2:(o.push u).toList.length=o.toList.length+1:=by simp
    by_cases B:ib+1=b.size
    ·rw[ak (by simpa using B)];exact wpS_pure ⟨F,.inl ⟨_,O,dn j2 B⟩⟩
    rw[aj (by simpa using B)];obtain⟨v,V,mv,wq⟩:=T (show i<a.size by lia);refine wpS_bind (fu V (wpS_bind (ao.galB (ib:=ib+1) C (F.k.trans hk) V (by lia) λaq e1 e2 e3=>?_)));dsimp only;generalize o.push u=o1 at *
    generalize ib+1=j1' at *
    refine(λ(R:∀(X:Array Keyed) (jb:Nat),J0 ws a.toList b.toList X.toList i jb->jb<b.size->(∀x∈b.toList.drop jb,rk ws v<rk ws x)->o1.toList.length<=X.toList.length->(?T3:Array Keyed->Nat->Prop) X jb)=>?go3) ?mn3
    case go3=>
     by_cases N:aq>0
     ·rw[ak N];have j3:=j2.mvB (k:=aq) ao.sb (by rw[aJ];exact e1) λx p z hz=>nL1 (e2 x p) (ao.sa.drop_gt wq z hz);rw[<- tP,<- cy]at j3;have hl3:o1.toList.length<=(o1++b.extract j1' (j1'+aq)).toList.length:=by rw[cy,lA1];lia
      by_cases z5:j1'+aq=b.size
      ·rw[ak (by simpa using z5)];exact wpS_pure ⟨F,.inl ⟨_,O,dn j3 z5⟩⟩
      ·rw[aj (by simpa using z5)];have h7:j1'+aq<b.size:=by lia
       generalize o1++b.extract j1' (j1'+aq)=X at j3 hl3 ⊢;have h8:=e3;generalize j1'+aq=jb at j3 h7 h8 ⊢;exact R X jb j3 h7 h8 hl3
     ·rw[aj N];have e:aq=0:=by lia
      subst e;exact R o1 j1' j2 (by have:=j2.lb;rw[aJ]at this;lia) e3 (nR1 _)
    intro X jb j3 hjb hgt3 hl3;refine wpS_bind (fu V ?_);have j4:=S j3 wq hgt3;have hl4:(X.push v).toList.length=X.toList.length+1:=by simp
    by_cases z6:i+1+1=a.size
    ·rw[ak (by simpa using z6)];exact wpS_pure ⟨F,.inl ⟨_,O,ls j4 z6⟩⟩
    rw[aj (by simpa using z6)];split
    ·exact wpS_pure ⟨F,.inr ⟨_,_,_,_,_,_,O,j4,by lia,hjb,by lia⟩⟩
    ·exact wpS_pure ⟨F,_,_,_,_,_,_,O,j4,by lia,hjb,by lia⟩
   ·rintro c I ⟨L,f,ia,ib,g,am,K,rfl,t,l,j,hn3⟩;exfalso;have:=t.len;lia
   ·rintro c I ⟨L,⟨r,U,hm⟩|⟨f,ia,ib,g,am,K,rfl,t,l,j,hn3⟩⟩
    ·obtain⟨c1,c2⟩:=c;dsimp only at U;subst U;exact wpS_pure ⟨L,r,O,hm⟩
    dsimp only;refine wpS_bind (q9 (wpS_pure ⟨L.g _,_,_,_,_,O,t,l,j,by lia⟩))
 ·rintro c st' ⟨hs,out,ia,ib,g,rfl,t,l,j,hn⟩;exfalso;have:=t.len;lia
 ·rintro c st' ⟨hs,r,U,hm⟩;obtain⟨c1,c2⟩:=c;dsimp only at U;subst U;exact wpS_pure (q r _ hs hm)
end
section
variable{ws:List dD}{a b out xs ys zs:List Keyed}{i j k t:Nat}
theorem mL.to(h1:mL ws xs ys)(h2:mL ws xs zs):mL ws xs (ys++zs):=λx a y b=>(aG.mp b).elim (λh=>h1 x a y h) λh=>h2 x a y h
structure K0 (ws:List dD)(a b out:List Keyed)(i j:Nat):Prop where
 la:i<=a.length
 lb:j<=b.length
 len:out.length+(i+j)=a.length+b.length
 pm:(a.take i++b.take j++out.reverse).Perm (a++b)
 so:Srt ws out.reverse
 ba:mL ws (a.take i) out
 bb:mL ws (b.take j) out
theorem K0.swap(h:K0 ws a b out i j):K0 ws b a out j i:=⟨h.lb,h.la,by have:=h.len;lia,((cP).append_right _).trans (h.pm.trans cP),h.so,h.bb,h.ba⟩
theorem K0.mvA(h:K0 ws a b out i j)(k:Srt ws a)(hk:t<=i)(hb:mL ws (b.take j) ((a.take i).drop t)):K0 ws a b (out++((a.take i).drop t).reverse) t j:=by
 have e:a.take i=a.take t++(a.take i).drop t:=by
  have:=(cG t (a.take i)).symm
  rwa [List.take_take,bB hk]at this
 have g:Srt ws (a.take i):=k.sublist (aU _ _);have l:=h.la;have len:=h.len;have sp:=g.split t;rw[List.take_take,bB hk]at sp;refine⟨by lia,h.lb,?_,?_,?_,?_,?_⟩
 ·rw[lA1,List.length_reverse,aV,aR];lia
 ·rw[List.reverse_append,List.reverse_reverse];refine List.Perm.trans ?_ h.pm;generalize (a.take i).drop t=c at e;rw[e,bH,bH,bH];refine List.Perm.append_left _ ?_;rw[<- bH,<- bH];exact List.perm_append_comm.append_right _
 ·rw[List.reverse_append,List.reverse_reverse];exact Srt.app (g.sublist (cD _ _)) h.so λx d y f=>h.ba x (cK d) y (cV.mp f)
 ·exact(h.ba.of (λx d=>by rw[e];exact aH _ d) λ_ h=>h).to λx d y f=>sp x d y (cV.mp f)
 ·exact h.bb.to λx d y f=>hb x d y (cV.mp f)
theorem K0.mvB(h:K0 ws a b out i j)(c:Srt ws b)(hk:t<=j)(hb:mL ws (a.take i) ((b.take j).drop t)):K0 ws a b (out++((b.take j).drop t).reverse) i t:=(h.swap.mvA c hk hb).swap
theorem Em{x:Keyed}(h:a[i]?=Z x):(a.take (i+1)).drop i=[x]:=by
 have b:=(gE1.mp h).1;rw[cr,h,List.drop_append_of_le_length (by rw[aR];lia),List.drop_of_length_le (by rw[aR];lia)];rfl
theorem K0.dn(h:K0 ws a b out i j)(d:Srt ws b)(hi:i=0):Mgd ws a b (a.take i++b.take j++out.reverse):=by
 refine⟨h.pm,?_⟩;rw[hi,cR,cW];exact Srt.app (d.sublist (aU _ _)) h.so λx e y c=>h.bb x e y (cV.mp c)
theorem K0.fs(h:K0 ws a b out i j)(e:Srt ws a)(f:Srt ws b)(hb:mL ws (b.take j) (a.take i)):Mgd ws a b (b.take j++a.take i++out.reverse):=by
 refine⟨(List.perm_append_comm.append_right _).trans h.pm,?_⟩;exact(Srt.app (f.sublist (aU _ _)) (e.sublist (aU _ _)) hb).app h.so (mL.app (λx d y c=>h.bb x d y (cV.mp c)) λx d y c=>h.ba x d y (cV.mp c))
theorem Srt.take_lt(h:Srt ws a){x:Keyed}(hx:a[i]?=Z x):∀y∈a.take (i+1),rk ws y<=rk ws x:=λy b=>by
 rw[cr,hx]at b;rcases aG.mp b with b|b
 ·have c:=(gE1.mp hx).1;exact aD (h.split i y b x (by rw[bU c,(gE1.mp hx).2];exact mS1))
 ·have:y=x:=by simpa using b
  rw[this];exact nR1 _
end
theorem wV(a:Array Keyed)(i:Nat):(a.extract 0 i).toList=a.toList.take i:=by
 rw[cA,cT,bX,Nat.sub_zero]
theorem Ej{a:Array Keyed}{i t:Nat}(h:t<=i):(a.extract t i).reverse.toList=((a.toList.take i).drop t).reverse:=by
 rw[cX,cA,cT,List.drop_take]
section
variable{prog:dG}{w:dI}{A:dH}{E:dD->dE->Prop}{s:dE}{κ:SortKind}{ws:List dD}{a₀:Array Keyed}
theorem IR(C:md prog w A s κ ws a₀){a:Array Keyed}{st:SortSt}{l:Bool}{n:Nat}{y:Keyed}{Q:Option Nat->SortSt->Prop}(hk:kindOf st=κ)(r:∀ p∈a,p∈a₀)(g:Srt ws a.toList)(hy:y∈a₀)(e:∀ p∈a,rk ws p≠rk ws y)(hn:0<n)(o:n<=a.size)(q:∀k,k<=n->(∀x∈a.toList.take k,rk ws x<rk ws y)->(∀x∈(a.toList.take n).drop k,rk ws y<rk ws x)->Q (Z k) st):wpS (model prog w) A E s (Hq l y a 0 n (n-1)) Q st:=by
 refine wR (R:=λi=>(a[0+i]?.map (rk ws)).getD 0) C hk hy (by lia) (λi hi=>?_) (λi j h t=>?_) λk h1 h2 m=>q k h1 (λx f=>?_) λx f=>?_
 ·have b:0+i<a.size:=by lia
  refine⟨a[0+i],aG1 b,r _ (cS b),by rw[aG1 b];rfl,?_⟩;rw[aG1 b];exact e _ (cS b)
 ·have b:0+i<a.size:=by lia
  have c:0+j<a.size:=by lia
  rw[aG1 b,aG1 c];have:=cw.mp g (0+i) (0+j) (by simpa using b) (by simpa using c) (by lia);simpa using this
 ·obtain⟨i,hi⟩:=bq f;have d:i<k:=by have:=(gE1.mp hi).1;rw[aR]at this;lia
  rw[aT d,aT1]at hi;have:=h2 i d;rw[cY,hi]at this;exact this
 ·obtain⟨i,hi⟩:=bq f;have b:=(gE1.mp hi).1;rw[aV,aR,aJ]at b;rw[cC,aT (by lia),aT1]at hi;have:=m (k+i) (by lia) (by lia);rw[cY,hi]at this;exact this
theorem IB(C:md prog w A s κ ws a₀){a b:Array Keyed}(ao:MC ws a₀ a b){st:SortSt}{Q:Array Keyed->SortSt->Prop}(hk:kindOf st=κ)(q:∀r st',Sm st st'->Mgd ws a.toList b.toList r.toList->Q r st'):wpS (model prog w) A E s (KN a b) Q st:=by
 have dn:∀{out:Array Keyed} {na nb:Nat},K0 ws a.toList b.toList out.toList na nb->na=0->Mgd ws a.toList b.toList (a.extract 0 na++b.extract 0 nb++out.reverse).toList:=λ{out na nb} h e=>by
  rw[cy,cy,wV,wV,cX];exact h.dn ao.sb e
 have firstX:∀{nb:Nat},nb=1 -> ∀y∈b.toList.take nb,∀q∈a,rk ws y<rk ws q:=λ{nb} e y K q hq=>by
  subst e;have hl:0<b.toList.length:=by rw[aJ];exact ao.pb
  have:b.toList.take 1=[b.toList[0]]:=by
   conv=>lhs;rw[cr,cR,gG1 hl]
   rfl
  rw[this]at K;rw[cU.mp K];exact ao.head _ (by simp) q hq
 have fs:∀{out:Array Keyed} {na nb:Nat},K0 ws a.toList b.toList out.toList na nb->nb=1->Mgd ws a.toList b.toList (b.extract 0 nb++a.extract 0 na++out.reverse).toList:=λ{out na nb} h e=>by
  rw[cy,cy,wV,wV,cX];exact h.fs ao.sa ao.sb λx B y K=>firstX e x B y (aM.mp (cJ K))
 have aq:∀{i:Nat},i<a.size -> ∃x,a[i]?=Z x/\x∈a/\a.toList[i]?=Z x:=λ{i} h=>⟨a[i],aG1 h,cS h,by rw[aT1,aG1 h]⟩;have S:∀{i:Nat},i<b.size -> ∃x,b[i]?=Z x/\x∈b/\b.toList[i]?=Z x:=λ{i} h=>⟨b[i],aG1 h,cS h,by rw[aT1,aG1 h]⟩;have U:∀{out:Array Keyed} {na nb:Nat} {y:Keyed},K0 ws a.toList b.toList out.toList na nb->0<nb->b.toList[nb-1]?=Z y->(∀x∈a.toList.take na,rk ws x<rk ws y)->K0 ws a.toList b.toList (out.push y).toList na (nb-1):=λ{out na nb y} h h0 K hb=>by
  have e:=Em K;rw[show nb-1+1=nb by lia]at e;have:=h.mvB (t:=nb-1) ao.sb (by lia) (by rw[e];intro x B z hz;rw[cU.mp hz];exact hb x B);rw[e,List.reverse_singleton,<- cq]at this;exact this
 have am:∀{out:Array Keyed} {na nb:Nat} {y:Keyed},K0 ws a.toList b.toList out.toList na nb->0<na->a.toList[na-1]?=Z y->(∀x∈b.toList.take nb,rk ws x<rk ws y)->K0 ws a.toList b.toList (out.push y).toList (na-1) nb:=λ{out na nb y} h h0 K hb=>by
  have e:=Em K;rw[show na-1+1=na by lia]at e;have:=h.mvA (t:=na-1) ao.sa (by lia) (by rw[e];intro x B z hz;rw[cU.mp hz];exact hb x B);rw[e,List.reverse_singleton,<- cq]at this;exact this
 have T:∀{out:Array Keyed} {na nb:Nat},K0 ws a.toList b.toList out.toList na nb->out.toList.length+(na+nb)=a.size+b.size:=λ{out na nb} h=>by have:=h.len;rwa [aJ (xs:=a),aJ (xs:=b)]at this
 have hpa:=ao.pa;have hpb:=ao.pb;obtain⟨a1,ha1,ma1,la1⟩:=aq (show a.size-1<a.size by lia);have upA:∀{n:Nat} {v:Keyed},0<n->a.toList[n-1]?=Z v -> ∀x∈a.toList.take n,rk ws x<=rk ws v:=λ{n v} h wq x B=>ao.sa.take_lt wq x (by rw[show n-1+1=n by lia];exact B);have upB:∀{n:Nat} {v:Keyed},0<n->b.toList[n-1]?=Z v -> ∀x∈b.toList.take n,rk ws x<=rk ws v:=λ{n v} h wq x B=>ao.sb.take_lt wq x (by rw[show n-1+1=n by lia];exact B);unfold KN;refine wpS_bind (wpS_lift (wpAny_rule ⟨O,?_⟩));refine wpS_bind (fu ha1 ?_);have j0:K0 ws a.toList b.toList (#[]:Array Keyed).toList a.size b.size:=⟨by simp,by simp,by simp,by rw[<- aJ,<- aJ,bY,bY];simp,.nil,λx B y K=>(by cases K),λx B y K=>(by cases K)⟩;have j1:K0 ws a.toList b.toList (#[a1]:Array Keyed).toList (a.size-1) b.size:=am j0 ao.pa la1 λx B=>ao.last a1 ha1 x (aM.mp (cJ B));clear j0;by_cases z:a.size-1=0
 ·rw[ak (by simpa using z)];exact wpS_pure (q _ _ .rfl (dn j1 z))
 rw[aj (by simpa using z)];by_cases z2:b.size=1
 ·rw[ak (by simpa using z2)];exact wpS_pure (q _ _ .rfl (fs j1 z2))
 rw[aj (by simpa using z2)];refine wpS_bind (wpS_get ?_);refine wpS_bind (wpS_mono (wpS_forRange (λx c st'=>Sm st st' /\ ∃na nb out g,c=(Y,na,nb,out,g)/\K0 ws a.toList b.toList out.toList na nb/\0<na/\1<nb/\x+1<=out.toList.length)
  (Q:=λc st'=>Sm st st' /\ ∃r,c.1=Z r/\Mgd ws a.toList b.toList r.toList) ?_ ?_ ⟨.rfl,_,_,_,_,O,j1,by lia,by lia,nR1 _⟩) ?_)
 ·rintro x c st' _ B ⟨hs,na,nb,out,g,rfl,F,j,l,hn⟩;dsimp only;refine wpS_bind (wpS_mono (wpS_forRange (fun y c D=>Sm st D /\ ∃ na nb d N au,c=(none,na,nb,d,N,au)/\K0 ws a.toList b.toList d.toList na nb/\0<na/\1<nb/\out.toList.length+y<=d.toList.length)
   (Q:=λc D=>Sm st D/\((∃r,c.1=Z r/\Mgd ws a.toList b.toList r.toList) \/ ∃na nb d N au,c=(Y,na,nb,d,N,au)/\K0 ws a.toList b.toList d.toList na nb/\0<na/\1<nb/\out.toList.length+1<=d.toList.length)) ?_ ?_ ⟨hs,_,_,_,_,_,O,F,j,l,nR1 _⟩) ?_)
  ·rintro y c D _ K ⟨m,na,nb,d,N,au,rfl,F,j,l,hn2⟩;dsimp only;have lna:=F.la;have lnb:=F.lb;rw[aJ]at lna lnb;obtain⟨u,hu,mu,lu⟩:=S (show nb-1<b.size by lia);obtain⟨v,wq,mv,lv⟩:=aq (show na-1<a.size by lia);refine wpS_bind (fu hu (wpS_bind (fu wq (wpS_bind (C.lt2 (m.k.trans hk) (ao.mb u mu) (ao.ma v mv) (ao.ne v mv u mu).symm ?_)))));by_cases z3:rk ws u<rk ws v
   ·simp only[z3,decide_true,if_true];refine wpS_bind (fu wq ?_);have G:=am F j lv λx B=>bI (upB (by lia) lu x B) z3;have hl:(d.push v).toList.length=d.toList.length+1:=by simp
    by_cases H:na-1=0
    ·rw[ak (by simpa using H)];exact wpS_pure ⟨m,.inl ⟨_,O,dn G H⟩⟩
    ·rw[aj (by simpa using H)];split
     ·exact wpS_pure ⟨m,.inr ⟨_,_,_,_,_,O,G,by lia,l,by lia⟩⟩
     ·exact wpS_pure ⟨m,_,_,_,_,_,O,G,by lia,l,by lia⟩
   ·simp only[z3,decide_false,bF1,if_false];have z5:rk ws v<rk ws u:=by have:=ao.ne v mv u mu;lia
    refine wpS_bind (fu hu ?_);have G:=U F (by lia) lu λx B=>bI (upA j lv x B) z5;have hl:(d.push u).toList.length=d.toList.length+1:=by simp
    by_cases H:nb-1=1
    ·rw[ak (by simpa using H)];exact wpS_pure ⟨m,.inl ⟨_,O,fs G H⟩⟩
    ·rw[aj (by simpa using H)];split
     ·exact wpS_pure ⟨m,.inr ⟨_,_,_,_,_,O,G,j,by lia,by lia⟩⟩
     ·exact wpS_pure ⟨m,_,_,_,_,_,O,G,j,by lia,by lia⟩
  ·rintro c D ⟨m,na,nb,d,N,au,rfl,F,j,l,hn2⟩;exfalso;have:=T F;lia
  ·rintro c D ⟨m,⟨r,hr,hm⟩|⟨na,nb,d,N,au,rfl,F,j,l,hn2⟩⟩
   ·obtain⟨c1,c2⟩:=c;dsimp only at hr;subst hr;exact wpS_pure ⟨m,r,O,hm⟩
   dsimp only;refine wpS_bind (wpS_lift (wpAny_rule ⟨O,?_⟩));refine wpS_bind (wpS_mono (wpS_forRange (λy c D=>Sm st D /\ ∃na nb f g N au,c=(Y,na,nb,f,g,N,au)/\K0 ws a.toList b.toList f.toList na nb/\0<na/\1<nb/\d.toList.length+y<=f.toList.length)
    (Q:=λc D=>Sm st D/\((∃r,c.1=Z r/\Mgd ws a.toList b.toList r.toList) \/ ∃na nb f g N au,c=(Y,na,nb,f,g,N,au)/\K0 ws a.toList b.toList f.toList na nb/\0<na/\1<nb/\d.toList.length<=f.toList.length)) ?_ ?_ ⟨m,_,_,_,_,_,_,O,F,j,l,nR1 _⟩) ?_)
   ·rintro y c L _ K ⟨P,na,nb,f,g,N,au,rfl,F,j,l,hn3⟩;dsimp only;have lna:=F.la;have lnb:=F.lb;rw[aJ]at lna lnb;obtain⟨u,hu,mu,lu⟩:=S (show nb-1<b.size by lia);refine(λ(main:∀g':Nat,(?T:Nat->Prop) g')=>?go) ?mn
    case go=>
     by_cases hg:g>1
     ·rw[ak hg];generalize g-1=g';exact main g'
     ·rw[aj hg];exact main g
    intro g';refine wpS_bind (q9 (wpS_bind (fu hu (wpS_bind (IR (n:=na) C (P.k.trans hk) ao.ma ao.sa (ao.mb u mu) (λp hp=>ao.ne p hp u mu) j lna λk h1 h2 h3=>?_)))));have I:=P.g g';generalize SortSt.mk' (kindOf L) (arrOf L) (pendingOf L) g' (failedOf L)=st4 at *
    dsimp only;generalize hac:na-k=acc;refine(λ(V:∀(o:Array Keyed) (i:Nat),K0 ws a.toList b.toList o.toList i nb->0<i->(∀x∈a.toList.take i,rk ws x<rk ws u)->d.toList.length+y<=o.toList.length->(?T2:Array Keyed->Nat->Prop) o i)=>?go2) ?mn2
    case go2=>
     by_cases R:acc>0
     ·rw[ak R];have G:=F.mvA (t:=k) ao.sa h1 λx B z hz=>bI (upB (by lia) lu x B) (h3 z hz);rw[<- Ej h1,<- cy]at G;have hl2:d.toList.length+y<=(f++(a.extract k na).reverse).toList.length:=by rw[cy,lA1];lia
      by_cases H:k=0
      ·rw[ak (by simpa using H)];exact wpS_pure ⟨I,.inl ⟨_,O,dn G H⟩⟩
      ·rw[aj (by simpa using H)];generalize f++(a.extract k na).reverse=o at G hl2 ⊢;have X:=h2;have h9:0<k:=by lia
       generalize k=i at G X h9 ⊢;exact V o i G h9 X hl2
     ·rw[aj R];have e:k=na:=by lia
      have X:=h2;rw[e]at X;exact V f na F j X hn3
    intro o i G hi hgt hlo;refine wpS_bind (fu hu ?_);have j2:=U G (by lia) lu hgt;have hl2:(o.push u).toList.length=o.toList.length+1:=by simp
    by_cases H:nb-1=1
    ·rw[ak (by simpa using H)];exact wpS_pure ⟨I,.inl ⟨_,O,fs j2 H⟩⟩
    rw[aj (by simpa using H)];have li:=G.la;rw[aJ]at li;obtain⟨v,wq,mv,lv⟩:=aq (show i-1<a.size by lia);refine wpS_bind (fu wq (wpS_bind (IR (n:=nb-1) C (I.k.trans hk) ao.mb ao.sb (ao.ma v mv) (λp hp=>(ao.ne v mv p hp).symm) (by lia) (by lia) λk2 e1 e2 e3=>?_)));dsimp only;generalize o.push u=o1 at *
    have hnb:0<nb-1:=by lia
    generalize nb-1=j1' at *
    generalize hac2:j1'-k2=acc2;refine(λ(W:∀(o3:Array Keyed) (jb:Nat),K0 ws a.toList b.toList o3.toList i jb->1<jb->(∀x∈b.toList.take jb,rk ws x<rk ws v)->o1.toList.length<=o3.toList.length->(?T3:Array Keyed->Nat->Prop) o3 jb)=>?go3) ?mn3
    case go3=>
     by_cases R:acc2>0
     ·rw[ak R];have j3:=j2.mvB (t:=k2) ao.sb e1 λx B z hz=>bI (upA hi lv x B) (e3 z hz);rw[<- Ej e1,<- cy]at j3;have hl3:o1.toList.length<=(o1++(b.extract k2 j1').reverse).toList.length:=by rw[cy,lA1];lia
      by_cases z5:k2=1
      ·rw[ak (by simpa using z5)];exact wpS_pure ⟨I,.inl ⟨_,O,fs j3 z5⟩⟩
      ·have h0:k2≠0:=fun e=>by
        subst e;obtain⟨b0,hb0,mb0,lb0⟩:=S ao.pb;have:=e3 b0 (gM1 (i:=0) (by rw[cC,aT (by lia)];exact lb0));have:=ao.head b0 hb0 v mv;lia
       rw[aj (by simpa using z5),aj (by simpa using h0)];generalize o1++(b.extract k2 j1').reverse=o3 at j3 hl3 ⊢;have X:=e2;have h9:1<k2:=by lia
       generalize k2=jb at j3 X h9 ⊢;exact W o3 jb j3 h9 X hl3
     ·rw[aj R];have e:k2=j1':=by lia
      have X:=e2;rw[e]at X;exact W o1 j1' j2 (by lia) X (nR1 _)
    intro o3 jb j3 hjb hgt3 hl3;refine wpS_bind (fu wq ?_);have j4:=am j3 hi lv hgt3;have hl4:(o3.push v).toList.length=o3.toList.length+1:=by simp
    by_cases z6:i-1=0
    ·rw[ak (by simpa using z6)];exact wpS_pure ⟨I,.inl ⟨_,O,dn j4 z6⟩⟩
    rw[aj (by simpa using z6)];split
    ·exact wpS_pure ⟨I,.inr ⟨_,_,_,_,_,_,O,j4,by lia,hjb,by lia⟩⟩
    ·exact wpS_pure ⟨I,_,_,_,_,_,_,O,j4,by lia,hjb,by lia⟩
   ·rintro c L ⟨P,na,nb,f,g,N,au,rfl,F,j,l,hn3⟩;exfalso;have:=T F;lia
   ·rintro c L ⟨P,⟨r,hr,hm⟩|⟨na,nb,f,g,N,au,rfl,F,j,l,hn3⟩⟩
    ·obtain⟨c1,c2⟩:=c;dsimp only at hr;subst hr;exact wpS_pure ⟨P,r,O,hm⟩
    dsimp only;refine wpS_bind (q9 (wpS_pure ⟨P.g _,_,_,_,_,O,F,j,l,by lia⟩))
 ·rintro c st' ⟨hs,na,nb,out,g,rfl,F,j,l,hn⟩;exfalso;have:=T F;lia
 ·rintro c st' ⟨hs,r,hr,hm⟩;obtain⟨c1,c2⟩:=c;dsimp only at hr;subst hr;exact wpS_pure (q r _ hs hm)
end
theorem si(c:Nat):∀ (m:List Keyed) (k:Nat) (arr:Array Keyed) (pre old b:List Keyed),arr.toList=pre++(old++b)->pre.length=c+k->old.length=m.length ->
  ((m.zipIdx k).foldl (λa (x:Keyed×Nat)=>a.setIfInBounds (c+x.2) x.1) arr).toList=pre++(m++b)
 |[],k,arr,pre,old,b,h1,h2,h3=>by
  have:old=[]:=cm.mp h3;subst this;exact h1
 |x::m,k,arr,pre,[],b,h1,h2,h3=>by simp at h3
 |x::m,k,arr,pre,o::old,b,h1,h2,h3=>by
  rw[bL,b9];have:=si c m (k+1) (arr.setIfInBounds (c+k) x) (pre++[x]) old b (by
   rw[Array.toList_setIfInBounds,h1,<- h2,cZ _ _ (nR1 _),cM];simp) (by rw[lA1,h2];rfl) (by simpa using h3)
  rw[this];simp
def fN:Nat->List (List Keyed)->List (Nat×Nat×Nat)->Prop
 |_,[],[]=>True
 |s,r::rs,(t,n,_)::p=>t=s/\n=r.length/\fN (s+r.length) rs p
 |_,_,_=>False
theorem wf:∀ {s:Nat} {rs:List (List Keyed)} {p:List (Nat×Nat×Nat)},fN s rs p -> ∀ {i:Nat} {r1 r2:List Keyed},rs[i]? = some r1->rs[i+1]? = some r2 ->
  ∃d c,p[i]?=Z (s+(rs.take i).flatten.length,r1.length,d)/\p[i+1]?=Z (s+(rs.take i).flatten.length+r1.length,r2.length,c) /\
   fN s (rs.take i++(r1++r2)::rs.drop (i+2)) ((p.set i (s+(rs.take i).flatten.length,r1.length+r2.length,d)).eraseIdx (i+1))
 |s,[],p,h,i,r1,r2,h1,_=>by simp at h1
 |s,r::rs,[],h,i,r1,r2,_,_=>by cases h
 |s,r::rs,(t,n,d)::p,⟨e1,e2,h⟩,0,r1,r2,h1,h2=>by
  have k:r=r1:=by simpa using h1
  subst k
  match rs,p,h,h2 with
  |r2'::rs,(t2,n2,c)::p,⟨g,e,h⟩,h2=>
   have l:r2'=r2:=by simpa using h2
   subst l;subst e1;subst e2;subst g;subst e;refine⟨d,c,by simp,by simp,?_⟩;simp only[cR,List.flatten_nil,bf,Nat.add_zero,cW,List.drop_succ_cons,bX,c5,List.eraseIdx_cons_succ,List.eraseIdx_cons_zero];exact⟨O,by rw[lA1],by rw[lA1,<- bm];exact h⟩
 |s,r::rs,(t,n,d)::p,⟨e1,e2,h⟩,i+1,r1,r2,h1,h2=>by
  obtain⟨a,b,g,e,j⟩:=wf h (i:=i) (by simpa using h1) (by simpa using h2);have f:s+((r::rs).take (i+1)).flatten.length=s+r.length+(rs.take i).flatten.length:=by rw[cQ,c6,lA1,bm]
  refine⟨a,b,by rw[f,gC1];exact g,by rw[f,gC1];exact e,?_⟩;rw[f,cQ,bj,c7,List.eraseIdx_cons_succ,List.drop_succ_cons];exact⟨e1,e2,j⟩
structure SR (ws:List dD)(κ:SortKind)(a₀:Array Keyed)(rs:List (List Keyed))(rest:List Keyed)(st:SortSt):Prop where
 k:kindOf st=κ
 f:failedOf st=none
 pm:(arrOf st).Perm a₀
 ar:(arrOf st).toList=rs.flatten++rest
 so:∀r∈rs,Srt ws r/\r≠[]
 pe:fN 0 rs (pendingOf st).toList
section
variable{prog:dG}{w:dI}{A:dH}{E:dD->dE->Prop}{s:dE}{κ:SortKind}{ws:List dD}{a₀:Array Keyed}
theorem md.unlike(C:md prog w A s κ ws a₀){xs:Array Keyed}(p:xs.Perm a₀):xs.toList.Pairwise λu v=>rk ws u≠rk ws v:=by
 refine cw.mpr λi j hi a b e=>?_;rw[aJ]at hi a;have:=C.inj p (i:=i) (j:=j) (by rw[<- p.size_eq];exact hi) (by rw[<- p.size_eq];exact a) (by unfold kR;rw[aG1 hi,aG1 a];simpa using e);lia
theorem EZ{σ:Type}{ao:Model}{st a:σ}{Q:Unit->σ->Prop}(h:Q () a):wpS ao A E s (set a:StateT σ Sem PUnit) Q st:=wpS_modify (f:=λ_=>a) h
theorem A7(xs:Array (Nat×Nat×Nat))(i:Nat):(xs.eraseIdxIfInBounds i).toList=xs.toList.eraseIdx i:=by
 unfold Array.eraseIdxIfInBounds;split
 ·rw[Array.toList_eraseIdx]
 ·rename_i h;rw[List.eraseIdx_of_length_le (by rw[aJ];lia)]
theorem pK:∀{A B:List (List Keyed)} {r b:List Keyed} {s:Nat} {p:List (Nat×Nat×Nat)},fN s (A++r::B) p->r.length=b.length->fN s (A++b::B) p
 |[],B,r,b,s,[],h,_=>by cases h
 |[],B,r,b,s,(t,n,pw)::p,h,e=>by
  obtain⟨h1,h2,c⟩:=(show t=s/\n=r.length/\fN (s+r.length) B p from h);exact⟨h1,by rw[<- e];exact h2,by rw[<- e];exact c⟩
 |a::A,B,r,b,s,[],h,_=>by cases h
 |a::A,B,r,b,s,(t,n,pw)::p,h,e=>by
  obtain⟨h1,h2,c⟩:=(show t=s/\n=a.length/\fN (s+a.length) (A++r::B) p from h);exact⟨h1,h2,pK c e⟩
theorem ET{rs:List (List Keyed)}{i:Nat}{b r2:List Keyed}(h1:rs[i]?=Z b)(h2:rs[i+1]?=Z r2):rs=rs.take i++b::r2::rs.drop (i+2):=by
 have c:=(gE1.mp h1);have a:=(gE1.mp h2);have:=(cG i rs).symm;rw[bU c.1,bU a.1,c.2,a.2]at this;exact this
theorem IQ(C:md prog w A s κ ws a₀){st:SortSt}{l:Bool}{key:Keyed}{X:Array Keyed}{pre r b:List Keyed}{h:Nat}{Q:Option Nat->SortSt->Prop}(hk:kindOf st=κ)(n:X.toList=pre++(r++b))(hm:∀ x∈X,x∈a₀)(a:key∈a₀)(t:Srt ws r)(f:∀ x∈r,rk ws x≠rk ws key)(o:h<r.length)(q:∀k,k<=r.length->(∀x∈r.take k,rk ws x<rk ws key)->(∀x∈r.drop k,rk ws key<rk ws x)->Q (Z k) st):wpS (model prog w) A E s (Hq l key X pre.length r.length h) Q st:=by
 have at_:∀i,i<r.length->X[pre.length+i]?=r[i]?:=λi hi=>by
  rw[<- aT1,n,gR1 (br _ _),bt,gL1 hi]
 refine wR (R:=λi=>(r[i]?.map (rk ws)).getD 0) C hk a o (λi hi=>?_) (λi j d m=>?_) λk h1 h2 p=>q k h1 (λx g=>?_) λx g=>?_
 ·have e:=at_ i hi;rw[gG1 hi]at e;refine⟨r[i],e,hm _ (cf e),by rw[gG1 hi];rfl,?_⟩;rw[gG1 hi];exact f _ (bS hi)
 ·rw[gG1 (show i<r.length by lia),gG1 m];exact cw.mp t i j (by lia) m d
 ·obtain⟨i,hi⟩:=bq g;have c:i<k:=by have:=(gE1.mp hi).1;rw[aR]at this;lia
  rw[aT c]at hi;have:=h2 i c;rw[hi]at this;exact this
 ·obtain⟨i,hi⟩:=bq g;rw[cC]at hi;have:=p (k+i) (by lia) (gE1.mp hi).1;rw[hi]at this;exact this
theorem SR.merge(C:md prog w A s κ ws a₀){rs:List (List Keyed)}{rest:List Keyed}{st:SortSt}{i:Nat}{a r2:List Keyed}{Q:Bool->SortSt->Prop}(h:SR ws κ a₀ rs rest st)(h1:rs[i]? = Z a)(h2:rs[i+1]? = Z r2)(q:∀r st',SR ws κ a₀ (rs.take i++r::rs.drop (i+2)) rest st'->Q M st'):wpS (model prog w) A E s (mergeAt' i) Q st:=by
 obtain⟨W,pw2,p1,p2,p3⟩:=wf h.pe h1 h2;rw[aT1,cY]at p1 p2;rw[cY]at p3;have wq:=ET h1 h2;obtain⟨K,n1⟩:=h.so a (gM1 h1);obtain⟨am,n2⟩:=h.so r2 (gM1 h2);have others:∀r∈rs.take i,Srt ws r/\r≠[]:=λr g=>h.so r (cJ g);have others2:∀r∈rs.drop (i+2),Srt ws r/\r≠[]:=λr g=>h.so r (cK g);have l1:0<a.length:=c8.mpr n1;have l2:0<r2.length:=c8.mpr n2;have j:(arrOf st).toList=(rs.take i).flatten++(a++(r2++((rs.drop (i+2)).flatten++rest))):=by
  rw[h.ar]
  conv=>lhs;rw[wq]
  simp
 generalize S:(rs.take i).flatten=pre at *
 generalize G:(rs.drop (i+2)).flatten++rest=post at *
 have f:∀x∈arrOf st,x∈a₀:=λx c=>h.pm.mem_iff.mp c;have un:=C.unlike h.pm;have P:∀x∈a,x∈arrOf st:=λx c=>by rw[<- aM,j];simp[c]
 have R:∀x∈r2,x∈arrOf st:=λx c=>by rw[<- aM,j];simp[c]
 have o:∀x∈a,∀y∈r2,rk ws x≠rk ws y:=λx c y D=>by
  rw[j]at un;exact(cB.mp (cB.mp un).2.1).2.2 x c y (aH _ D)
 have hs:∀{st':SortSt} {r:List Keyed},kindOf st'=kindOf st->failedOf st'=failedOf st->(pendingOf st').toList=((pendingOf st).toList.set i (pre.length,a.length+r2.length,W)).eraseIdx (i+1)->(arrOf st').toList=pre++(r++post)->r.Perm (a++r2)->Srt ws r->Q M st':=λ{st' r} l t g3 g4 U g6=>by
  refine q r st' ⟨l.trans h.k,t.trans h.f,?_,?_,?_,?_⟩
  ·refine Array.Perm.trans ?_ h.pm;rw[cb,g4,j,<- bH a];exact List.Perm.append_left _ (U.append_right _)
  ·rw[g4,c9,c6,S,bH,bH,G]
  ·intro x c;rcases aG.mp c with c|c
   ·exact others x c
   ·rcases aF.mp c with rfl|c
    ·exact⟨g6,λe=>by rw[e]at U;have:=U.length_eq;rw[lA1,bf]at this;lia⟩
    ·exact others2 x c
  ·rw[g3];exact pK p3 (by rw[lA1,U.length_eq,lA1])
 obtain⟨u,V⟩:∃u,r2[0]?=some u:=⟨_,gG1 l2⟩;have mu:=gM1 V;obtain⟨v,au⟩:∃v,a[a.length-1]?=some v:=⟨_,gG1 (by lia)⟩;have mv:=gM1 au;have hXu:(arrOf st)[pre.length+a.length]?=Z u:=by
  rw[<- aT1,j,gR1 (br _ _),bt,gR1 (nR1 _),cM,gL1 l2];exact V
 have aq:(arrOf st)[pre.length+a.length-1]?=Z v:=by
  rw[<- aT1,j,gR1 (by lia),show pre.length+a.length-1-pre.length=a.length-1 by lia,gL1 (by lia)];exact au
 have N:(arrOf st).toList=(pre++a)++(r2++post):=by rw[j,bH]
 unfold mergeAt';refine wpS_bind (wpS_get ?_);dsimp only;rw[show(pendingOf st)[i]?=_ from p1,show(pendingOf st)[i+1]?=_ from p2];dsimp only;refine wpS_bind (EZ ?_);refine wpS_bind (fu hXu ?_);refine wpS_bind (IQ (pre:=pre) (r:=a) C h.k j f (f u (R u mu)) K (λx c=>o x c u mu) l1 λk e1 T e3=>?_);dsimp only;have n:(((pendingOf st).setIfInBounds i (pre.length,a.length+r2.length,W)).eraseIdxIfInBounds (i+1)).toList=((pendingOf st).toList.set i (pre.length,a.length+r2.length,W)).eraseIdx (i+1):=by rw[A7,Array.toList_setIfInBounds]
 generalize ((pendingOf st).setIfInBounds i (pre.length,a.length+r2.length,W)).eraseIdxIfInBounds (i+1)=L at *
 have I:∀x∈r2,rk ws u<=rk ws x:=λx c=>am.drop_gt (i:=0) V x (by rw[bX];exact c);by_cases z:a.length-k=0
 ·rw[ak (by simpa using z)];have ek:k=a.length:=by lia
  subst ek;rw[bY]at T;exact wpS_pure (hs (r:=a++r2) O O n (by rw[bH];exact j) (.refl _) (K.app am λx c y D=>nL1 (T x c) (I y D)))
 rw[aj (by simpa using z),show pre.length+k+(a.length-k)-1=pre.length+a.length-1 by lia];refine wpS_bind (fu aq ?_);rw[show pre.length+a.length=(pre++a).length by rw[lA1]];refine wpS_bind (IQ (pre:=pre++a) (r:=r2) C h.k N f (f v (P v mv)) am (λx c=>(o v mv x c).symm) (show r2.length-1<r2.length by lia) λk2 f1 f2 f3=>?_);dsimp only;have huv:rk ws u<rk ws v:=e3 v (gM1 (i:=a.length-1-k) (by rw[cC,show k+(a.length-1-k)=a.length-1 by lia];exact au));have hk2:k2≠0:=λe=>by
  subst e;have:=f3 u (by rw[bX];exact mu);lia
 rw[aj (by simpa using hk2)];have ex:((arrOf st).extract (pre.length+k) (pre++a).length).toList=a.drop k:=by
  rw[cA,cT,j,<- bE,List.drop_left,List.drop_append_of_le_length e1,lA1,show pre.length+a.length-(pre.length+k)=(a.drop k).length by rw[aV];lia,da]
 have H:((arrOf st).extract (pre++a).length ((pre++a).length+k2)).toList=r2.take k2:=by
  rw[cA,cT,N,List.drop_left,bt,List.take_append_of_le_length f1]
 generalize c:(arrOf st).extract (pre.length+k) (pre++a).length=x at *
 generalize D:(arrOf st).extract (pre++a).length ((pre++a).length+k2)=y at *
 have lx:x.size=a.length-k:=by rw[<- aJ,ex,aV]
 have ly:y.size=k2:=by rw[<- aJ,H,aR];lia
 have ao:MC ws a₀ x y:=by
  refine⟨λp d=>?_,λp d=>?_,?_,?_,λp d r g=>?_,by lia,by lia,λp d r g=>?_,λp d r g=>?_⟩
  ·rw[<- aM,ex]at d;exact f p (P p (cK d))
  ·rw[<- aM,H]at d;exact f p (R p (cJ d))
  ·rw[ex];exact K.sublist (cD _ _)
  ·rw[H];exact am.sublist (aU _ _)
  ·rw[<- aM,ex]at d;rw[<- aM,H]at g;exact o p (cK d) r (cJ g)
  ·rw[<- aM,H]at g;rw[<- aT1,ex,cC,lx,show k+(a.length-k-1)=a.length-1 by lia,au]at d;cases d;exact f2 r g
  ·rw[<- aM,ex]at g;rw[<- aT1,H,aT (by lia),V]at d;cases d;exact e3 r g
 refine(λ(B:∀(m:Array Keyed) (b:SortSt),Sm (SortSt.mk' (kindOf st) (arrOf st) L (gallopOf st) (failedOf st)) b->Mgd ws x.toList y.toList m.toList->(?T:Array Keyed->SortSt->Prop) m b)=>?go) ?mn
 case go=>
  by_cases z2:a.length-k<=k2
  ·rw[ak z2];refine wpS_bind (IA C ao h.k λm b l t=>?_);exact B m b l t
  ·rw[aj z2];refine wpS_bind (IB C ao h.k λm b l t=>?_);exact B m b l t
 intro m b l t;refine wpS_bind (wpS_modify (wpS_bind (wpS_get ?_)));dsimp only;have hf:failedOf b=Y:=l.f.trans h.f;rw[show(failedOf b).isNone=M by rw[hf];rfl];rw[ex,H]at t;have ml:m.toList.length=(a.drop k++r2.take k2).length:=t.1.length_eq;have wr:=si (pre.length+k) m.toList 0 (arrOf b) (pre++a.take k) (a.drop k++r2.take k2) (r2.drop k2++post) (by
  rw[l.a];show(arrOf st).toList=_;rw[j]
  conv=>lhs;rw[<- cG k a,<- cG k2 r2]
  simp only[bH]) (by rw[lA1,aR,Nat.add_zero];lia) ml.symm
 have bx:∀y∈m.toList,y∈a.drop k\/y∈r2.take k2:=λy D=>aG.mp (t.1.mem_iff.mp D);have sp1:=K.split k;have sp2:=am.split k2;have X:∀y∈a,rk ws y<=rk ws v:=λy D=>K.take_lt au y (by rw[show a.length-1+1=a.length by lia,bY];exact D);refine wpS_pure (hs (r:=a.take k++(m.toList++r2.drop k2)) l.k l.f (by rw[show pendingOf (SortSt.mk' (kindOf b) _ (pendingOf b) (gallopOf b) (failedOf b))=pendingOf b from rfl,l.p];exact n) ?_ ?_ ?_)
 ·refine wr.trans ?_;simp only[bH]
 ·conv=>rhs;rw[<- cG k a,<- cG k2 r2]
  rw[bH];refine List.Perm.append_left _ ?_;rw[<- bH];exact t.1.append_right _
 ·refine Srt.app (K.sublist (aU _ _)) (Srt.app t.2 (am.sublist (cD _ _)) λp d r g=>?_) (mL.to (λp d r g=>?_) λp d r g=>?_)
  ·rcases bx p d with F|F
   ·exact bI (X p (cK F)) (f3 r g)
   ·exact sp2 p F r g
  ·rcases bx r g with F|F
   ·exact sp1 p d r F
   ·exact nL1 (T p d) (I r (cJ F))
  ·exact nL1 (T p d) (I r (cK g))
end
noncomputable def kO(ws:List dD)(lo:Nat)(xs:Array Keyed)(i:Nat):Nat:=kR ws xs (lo+i)
def xk(ws:List dD)(lo:Nat)(xs:Array Keyed)(k:Nat):Prop:=∀i j,i<j->j<k->kO ws lo xs i<kO ws lo xs j
def Jr(ws:List dD)(lo:Nat)(xs:Array Keyed)(k:Nat):Prop:=∀i j,i<j->j<k->kO ws lo xs j<kO ws lo xs i
structure SoL (κ:SortKind)(a₀:Array Keyed)(lo:Nat)(st0 st:SortSt):Prop where
 perm:(arrOf st).Perm a₀
 kind:kindOf st=κ
 failed:failedOf st=failedOf st0
 pend:pendingOf st=pendingOf st0
 pre:∀i,i<lo->(arrOf st)[i]?=(arrOf st0)[i]?
theorem SoL.arr{κ:SortKind}{a₀:Array Keyed}{lo:Nat}{st0 st:SortSt}(b:SoL κ a₀ lo st0 st){xs:Array Keyed}(p:xs.Perm (arrOf st))(hp:∀i,i<lo->xs[i]?=(arrOf st)[i]?):SoL κ a₀ lo st0 (setArr st xs):=⟨p.trans b.perm,b.kind,b.failed,b.pend,λi hi=>(hp i hi).trans (b.pre i hi)⟩
section
variable{prog:dG}{w:dI}{A:dH}{E:dD->dE->Prop}{s:dE}{κ:SortKind}{ws:List dD}{a₀:Array Keyed}{lo:Nat}{st0:SortSt}
theorem md.cmpL(C:md prog w A s κ ws a₀){st:SortSt}{i j:Nat}{Q:Option Bool->SortSt->Prop}(b:SoL κ a₀ lo st0 st)(hi:i<a₀.size)(d:j<a₀.size)(a:i≠j)(h:Q (Z (decide (kR ws (arrOf st) i<kR ws (arrOf st) j))) st):wpS (model prog w) A E s (ltAt' i j) Q st:=by
 obtain⟨x,q,e,f⟩:=C.at_ b.perm hi;obtain⟨y,r,g,k⟩:=C.at_ b.perm d;have c:kR ws (arrOf st) i≠kR ws (arrOf st) j:=λz=>a (C.inj b.perm hi d z);rw[ltAt'_eq];refine wpS_bind (wpS_get ?_);show wpS _ _ _ _ (do let x<-elem' (arrOf st) i;let y<-elem' (arrOf st) j;lt' x y) Q st;rw[elem'_eq,elem'_eq,e,g];refine wpS_bind (wpS_pure (wpS_bind (wpS_pure ?_)));rw[lt'_eq];refine wpS_bind (wpS_get ?_);rw[b.kind];exact wpS_bind (wpS_lift (wpAny_attempt (C.lt x y _ _ f k c _ _ ⟨O,wpS_pure h⟩)))
theorem xk.one{xs:Array Keyed}:xk ws lo xs 1:=λi j h1 h2=>by lia
theorem xk.snoc{xs:Array Keyed}{n:Nat}(u:xk ws lo xs n)(h:kO ws lo xs (n-1)<kO ws lo xs n):xk ws lo xs (n+1):=λi j h1 h2=>by
 by_cases z:j<n
 ·exact u i j h1 z
 ·have a:j=n:=by lia
  subst a;by_cases b:i=j-1
  ·rw[b];exact h
  ·exact bh (u i (j-1) (by lia) (by lia)) h
theorem Jr.snoc{xs:Array Keyed}{n:Nat}(u:Jr ws lo xs n)(h:kO ws lo xs n<kO ws lo xs (n-1)):Jr ws lo xs (n+1):=λi j h1 h2=>by
 by_cases z:j<n
 ·exact u i j h1 z
 ·have a:j=n:=by lia
  subst a;by_cases b:i=j-1
  ·rw[b];exact h
  ·exact bh h (u i (j-1) (by lia) (by lia))
theorem AI(C:md prog w A s κ ws a₀){xs:Array Keyed}(p:xs.Perm a₀){i j:Nat}(hi:lo+i<a₀.size)(b:lo+j<a₀.size)(a:i≠j):kO ws lo xs i≠kO ws lo xs j:=λe=>by
 have:=C.inj p hi b e;lia
theorem HW(C:md prog w A s κ ws a₀){st:SortSt}{l:Nat}{Q:Option Nat->SortSt->Prop}(hn:lo+l<=a₀.size)(h1:1<=l)(b:SoL κ a₀ lo st0 st)(h:∀m st',SoL κ a₀ lo st0 st'->1<=m->m<=l->xk ws lo (arrOf st') m->Q (Z m) st'):wpS (model prog w) A E s (countRun' lo l) Q st:=by
 have p:∀ {st:SortSt} {a:Nat} {f:Nat->Option (Option Nat)×Nat->StateT SortSt Sem (ForInStep (Option (Option Nat)×Nat))} {Q:Option (Option Nat)×Nat->SortSt->Prop},SoL κ a₀ lo st0 st->1<=a->a<=l->xk ws lo (arrOf st) a ->
   (∀x c,f x c=(ltAt' (lo+c.2) (lo+c.2-1) >>= λr=>match r with
    |some z=>if z=M then pure (ForInStep.done (Y,c.2))else pure (ForInStep.yield (Y,c.2+1))
    |_=>pure (ForInStep.done (Z Y,c.2)))) ->
   (∀n,a<=n->n<=l->xk ws lo (arrOf st) n->(n=l\/kO ws lo (arrOf st) n<kO ws lo (arrOf st) (n-1))->Q (Y,n) st)->wpS (model prog w) A E s (forIn [a:l] (Y,a) f) Q st:=λ{st a f Q} b R q u N I=>by
  refine wpS_forRange (λx c st'=>st'=st/\c=(Y,x)/\xk ws lo (arrOf st) x) ?_ ?_ ⟨O,O,u⟩
  ·rintro x c st' v y ⟨rfl,rfl,o⟩;rw[N];dsimp only;refine wpS_bind (C.cmpL b (by lia) (by lia) (by lia) ?_);have e:kR ws (arrOf st') (lo+x-1)=kO ws lo (arrOf st') (x-1):=by unfold kO;congr 1;lia
   rw[e];by_cases z:kO ws lo (arrOf st') x<kO ws lo (arrOf st') (x-1)
   ·rw[show decide (kR ws (arrOf st') (lo+x)<kO ws lo (arrOf st') (x-1))=M from ah z];exact wpS_pure (I x v (by lia) o (.inr z))
   ·rw[show decide (kR ws (arrOf st') (lo+x)<kO ws lo (arrOf st') (x-1))=J from ai z];have:=AI C b.perm (lo:=lo) (i:=x) (j:=x-1) (by lia) (by lia) (by lia);exact wpS_pure ⟨O,O,o.snoc (by lia)⟩
  ·rintro c st' ⟨rfl,rfl,o⟩;rw[Nat.max_eq_right q]at o ⊢;exact I l q (nR1 _) o (.inl O)
 rw[countRun'_eq];refine wpS_bind (p b (nR1 1) h1 .one (λx c=>rfl) λn h2 D u or=>?_);dsimp only;by_cases z:n=l
 ·rw[ak (by simpa using z)];exact wpS_pure (h n st b h2 D u)
 rw[aj (by simpa using z)];have ao:=or.resolve_left z;by_cases H:n>1
 ·rw[ak H];have am:=u 0 (n-1) (by lia) (by lia);refine wpS_bind (C.cmpL b (by lia) (by lia) (by lia) ?_);have e:kR ws (arrOf st) (lo+n-1)=kO ws lo (arrOf st) (n-1):=by unfold kO;congr 1;lia
  rw[e,show decide (kR ws (arrOf st) lo<kO ws lo (arrOf st) (n-1))=M from ah am];exact wpS_pure (h n st b h2 D u)
 rw[aj H];have e:n=1:=by lia
 subst e;refine wpS_bind (wpS_lift (wpAny_rule ⟨O,?_⟩));refine wpS_bind (wpS_mono (wpS_forRange (λx c st'=>st'=st/\c=(Y,x,0)/\Jr ws lo (arrOf st) x) (Q:=λc st'=>st'=st /\ ∃m,c=(Y,m,0)/\2<=m/\m<=l/\Jr ws lo (arrOf st) m) ?_ ?_ ⟨O,O,λi j v y=>?_⟩) ?_)
 ·rintro x c st' v y ⟨rfl,rfl,t⟩;dsimp only;have e:kR ws (arrOf st') (lo+x-1)=kO ws lo (arrOf st') (x-1):=by unfold kO;congr 1;lia
  have ne:=AI C b.perm (lo:=lo) (i:=x) (j:=x-1) (by lia) (by lia) (by lia);refine wpS_bind (C.cmpL b (by lia) (by lia) (by lia) ?_);rw[e];by_cases z:kO ws lo (arrOf st') x<kO ws lo (arrOf st') (x-1)
  ·rw[show decide (kR ws (arrOf st') (lo+x)<kO ws lo (arrOf st') (x-1))=M from ah z];exact wpS_pure ⟨O,O,t.snoc z⟩
  ·rw[show decide (kR ws (arrOf st') (lo+x)<kO ws lo (arrOf st') (x-1))=J from ai z];refine wpS_bind (C.cmpL b (by lia) (by lia) (by lia) ?_);rw[e,show decide (kO ws lo (arrOf st') (x-1)<kR ws (arrOf st') (lo+x))=M from ah (by show kO ws lo (arrOf st') (x-1)<kO ws lo (arrOf st') x;lia)];exact wpS_pure ⟨O,x,O,by lia,by lia,t⟩
 ·rintro c st' ⟨rfl,rfl,t⟩;rw[Nat.max_eq_right (by lia)]at t ⊢;exact⟨O,l,O,by lia,nR1 _,t⟩
 ·have P:i=0:=by lia
  have K:j=1:=by lia
  subst P;subst K;exact ao
 ·rintro c st' ⟨rfl,m,rfl,m1,m2,d⟩;dsimp only;rw[aj (by lia)];have B:lo+m<=(arrOf st').size:=by rw[b.perm.size_eq];lia
  have F:∀k,(mirror (arrOf st') lo (lo+m) ((lo+m-lo)/2))[k]?=if lo<=k/\k<lo+m then(arrOf st')[lo+(lo+m)-1-k]? else(arrOf st')[k]?:=λk=>getElem?_mirror_all B k
  have G:SoL κ a₀ lo st0 (setArr st' (mirror (arrOf st') lo (lo+m) ((lo+m-lo)/2))):=b.arr (mirror_perm _ _ _ _) λk L=>by rw[F,aj (by lia)]
  have g:∀k,k<m->kO ws lo (mirror (arrOf st') lo (lo+m) ((lo+m-lo)/2)) k=kO ws lo (arrOf st') (m-1-k):=λk L=>k9 (by
   rw[F,ak (by lia)]
   congr 1;lia)
  refine wpS_bind (wpS_reverse (wpS_bind (p G (by lia) m2 (λi j D au=>?_) (λx c=>rfl) λn v y u _=>wpS_pure (h n _ G (by lia) y u))));show kO ws lo (mirror (arrOf st') lo (lo+m) ((lo+m-lo)/2)) i<kO ws lo (mirror (arrOf st') lo (lo+m) ((lo+m-lo)/2)) j;rw[g i (by lia),g j au];exact d _ _ (by lia) (by lia)
theorem II(C:md prog w A s κ ws a₀){st:SortSt}{n ok:Nat}{Q:Bool->SortSt->Prop}(hn:lo+n<=a₀.size)(F:ok<=n)(b:SoL κ a₀ lo st0 st)(u:xk ws lo (arrOf st) ok)(h:∀st',SoL κ a₀ lo st0 st'->xk ws lo (arrOf st') n->Q M st'):wpS (model prog w) A E s (binarySort' lo n ok) Q st:=by
 rw[binarySort'_eq];refine wpS_bind (wpS_mono (wpS_forRange (λk c st'=>c=(Y,())/\SoL κ a₀ lo st0 st'/\xk ws lo (arrOf st') (min k n)) (Q:=λc st'=>c=(Y,())/\SoL κ a₀ lo st0 st'/\xk ws lo (arrOf st') n) ?_ ?_ ⟨O,b,λi j h1 h2=>?_⟩) ?_)
 ·rintro k c st' I am ⟨rfl,f,d⟩;rw[bB (by lia)]at d;have v:lo+k<(arrOf st').size:=by rw[f.perm.size_eq];lia
  refine wpS_bind (wpS_mono (wpS_forRange (λx c a=>a=st' /\ ∃l r,c=(Y,l,r)/\l<=r/\r<=k/\r-l<=k-x/\(∀i,i<l->kO ws lo (arrOf st') i<kO ws lo (arrOf st') k) /\ ∀i,r<=i->i<k->kO ws lo (arrOf st') k<kO ws lo (arrOf st') i)
   (Q:=λc a=>a=st' /\ ∃l r,c=(Y,l,r)/\l<=k/\(∀i,i<l->kO ws lo (arrOf st') i<kO ws lo (arrOf st') k) /\ ∀i,l<=i->i<k->kO ws lo (arrOf st') k<kO ws lo (arrOf st') i) ?_ ?_ ⟨O,0,k,O,by lia,by lia,by lia,λi h1=>by lia,λi h1 h2=>by lia⟩) ?_)
  ·rintro x c a _ K ⟨rfl,l,r,rfl,h1,h2,t,p,o⟩;dsimp only;by_cases z:l>=r
   ·rw[ak z];have e:l=r:=by lia
    subst e;exact wpS_pure ⟨O,l,l,O,h2,p,o⟩
   ·rw[aj z];have L:(l+r)/2<k:=by lia
    refine wpS_bind (C.cmpL f (by lia) (by lia) (by lia) ?_);by_cases m:kO ws lo (arrOf a) k<kO ws lo (arrOf a) ((l+r)/2)
    ·rw[show decide (kR ws (arrOf a) (lo+k)<kR ws (arrOf a) (lo+(l+r)/2))=M from ah m];refine wpS_pure ⟨O,l,(l+r)/2,O,by lia,by lia,by lia,p,λi G H=>?_⟩;by_cases q:(l+r)/2=i
     ·rw[<- q];exact m
     ·exact bh m (d _ i (by lia) H)
    ·rw [show decide (kR ws (arrOf a) (lo+k)<kR ws (arrOf a) (lo+(l+r)/2))=false from decide_eq_false m];refine wpS_pure ⟨rfl,(l+r)/2+1,r,rfl,by lia,by lia,by lia,fun i G=>?_,o⟩;have D:kO ws lo (arrOf a) ((l+r)/2)<kO ws lo (arrOf a) k:=by
      have:=AI C f.perm (lo:=lo) (i:=k) (j:=(l+r)/2) (by lia) (by lia) (by lia);lia
     by_cases q:i=(l+r)/2
     ·rw[q];exact D
     ·exact bh (d i _ (by lia) (by lia)) D
  ·rintro c a ⟨rfl,l,r,rfl,h1,h2,t,p,o⟩;have e:l=r:=by lia
   subst e;exact⟨O,l,l,O,h2,p,o⟩
  ·rintro c a ⟨rfl,l,r,rfl,h1,h2,t⟩;show wpS _ _ _ _ (do moveDown' (lo+k) (lo+l);pure (ForInStep.yield (none,()))) _ _;rw [moveDown'_eq];have y:∀ i,(bubble (arrOf a) (lo+k) (lo+k-(lo+l)))[i]? = if i=lo+l then (arrOf a)[lo+k]? else if lo+l<i/\i<=lo+k then (arrOf a)[i-1]? else (arrOf a)[i]?:=fun i=>by
    have e:=getElem?_bubble v (lo+k-(lo+l)) (by lia) i;rw[show lo+k-(lo+k-(lo+l))=lo+l by lia]at e;exact e
   refine wpS_bind (wpS_modify (wpS_pure ⟨O,f.arr (bubble_perm _ _ _) λi hi=>by rw[y,aj (by lia),aj (by lia)],?_⟩));rw[bB (by lia)];have g:∀i,kO ws lo (bubble (arrOf a) (lo+k) (lo+k-(lo+l))) i=if i=l then kO ws lo (arrOf a) k else if l<i/\i<=k then kO ws lo (arrOf a) (i-1)else kO ws lo (arrOf a) i:=λi=>by
    have e:=y (lo+i);by_cases B:i=l
    ·rw[ak (by lia)]at e;rw[ak B];exact k9 e
    ·rw[aj (by lia)]at e;rw[aj B];by_cases m:l<i/\i<=k
     ·rw[ak (by lia)]at e;rw[ak m];refine k9 (e.trans ?_)
      congr 1;lia
     ·rw[aj (by lia)]at e;rw[aj m];exact k9 e
   intro i j p o;show kO ws lo (bubble (arrOf a) (lo+k) (lo+k-(lo+l))) i<kO ws lo (bubble (arrOf a) (lo+k) (lo+k-(lo+l))) j;rw[g,g]
   repeat' split
   all_goals first
    |(exfalso;lia)
    |exact h2 _ (by lia)
    |exact t _ (by lia) (by lia)
    |exact d _ _ (by lia) (by lia)
 ·rintro c st' ⟨hc,f,d⟩;refine⟨hc,f,?_⟩
  rwa [show min (max (max ok 1) n) n=n by lia]at d
 ·by_cases z:ok=0
  ·lia
  ·exact u i j h1 (by lia)
 ·rintro c st' ⟨rfl,f,d⟩;exact wpS_pure (h st' f d)
end
theorem nT:∀{s:Nat} {rs:List (List Keyed)} {p:List (Nat×Nat×Nat)},fN s rs p->p.length=rs.length
 |_,[],[],_=>rfl
 |_,[],_::_,h=>by cases h
 |_,_::_,[],h=>by cases h
 |s,r::rs,(t,n,pw)::p,⟨_,_,h⟩=>by rw[lC1,lC1,nT h]
theorem pJ:∀{s:Nat} {rs:List (List Keyed)} {p:List (Nat×Nat×Nat)} {r:List Keyed} {pw:Nat},fN s rs p->fN s (rs++[r]) (p++[(s+rs.flatten.length,r.length,pw)])
 |_,[],[],_,_,_=>⟨by simp,O,trivial⟩
 |_,[],_::_,_,_,h=>by cases h
 |_,_::_,[],_,_,h=>by cases h
 |s,r::rs,(t,n,pw)::p,r',pw',⟨e1,e2,h⟩=>by
  refine⟨e1,e2,?_⟩;have:=pJ (r:=r') (pw:=pw') h
  rwa [bm,<- lA1,<- c6]at this
theorem sM{g:Nat×Nat×Nat->Nat×Nat×Nat}(hg:∀x,(g x).1=x.1/\(g x).2.1=x.2.1):∀{s:Nat} {rs:List (List Keyed)} {p:List (Nat×Nat×Nat)} {k:Nat},fN s rs p->fN s rs (p.modify k g)
 |_,[],[],k,_=>by cases k<;>exact trivial
 |_,[],_::_,_,h=>by cases h
 |_,_::_,[],_,h=>by cases h
 |s,r::rs,(t,n,pw)::p,0,⟨e1,e2,h⟩=>by
  obtain⟨b,a⟩:=hg (t,n,pw);show fN s (r::rs) (g (t,n,pw)::p);exact⟨b.trans e1,a.trans e2,h⟩
 |s,r::rs,(t,n,pw)::p,k+1,⟨e1,e2,h⟩=>⟨e1,e2,sM hg h⟩
section
variable{prog:dG}{w:dI}{A:dH}{E:dD->dE->Prop}{s:dE}{κ:SortKind}{ws:List dD}{a₀:Array Keyed}{rs:List (List Keyed)}{rest:List Keyed}{st st':SortSt}
theorem SR.size(h:SR ws κ a₀ rs rest st):rs.flatten.length+rest.length=a₀.size:=by
 have:=congrArg List.length h.ar;rw[aJ,h.pm.size_eq,lA1]at this;exact this.symm
theorem SR.many(h:SR ws κ a₀ rs rest st):rs.length<=rs.flatten.length:=by
 have:∀{l:List (List Keyed)},(∀r∈l,r≠[])->l.length<=l.flatten.length:=by
  intro l
  induction l with
  |nil=>intro _;exact nR1 _
  |cons r l ih=>
   intro a;have h1:=ih λx b=>a x (mC1 _ b);have h2:0<r.length:=c8.mpr (a r mS1);rw[lC1,c6,lA1];lia
 exact this λr a=>(h.so r a).2
theorem SoL.sr(h:SR ws κ a₀ rs rest st)(b:SoL κ a₀ rs.flatten.length st st'):SR ws κ a₀ rs ((arrOf st').toList.drop rs.flatten.length) st':=by
 refine⟨b.kind,b.failed.trans h.f,b.perm,?_,h.so,by rw[b.pend];exact h.pe⟩;have:(arrOf st').toList.take rs.flatten.length=rs.flatten:=by
  have e:(arrOf st).toList.take rs.flatten.length=rs.flatten:=by rw[h.ar,da]
  rw[<- e];refine bZ λi=>?_;by_cases hi:i<rs.flatten.length
  ·rw[e,aT hi,<- e,aT hi,aT1,aT1];exact b.pre i hi
  ·rw[e,b4 (by rw[aR];lia),b4 (by lia)]
 conv=>lhs;rw[<- cG rs.flatten.length (arrOf st').toList,this]
theorem vQ{lo n:Nat}(hp:(arrOf st').Perm a₀)(hn:lo+n<=a₀.size)(u:xk ws lo (arrOf st') n):Srt ws (((arrOf st').toList.drop lo).take n):=by
 refine cw.mpr λi j hi b a=>?_;rw[aR,aV]at hi b;have:=u i j a (by lia);have c:=hp.size_eq;rw[aJ]at hi b;unfold kO kR at this;rw[aG1 (show lo+i<(arrOf st').size by lia),aG1 (show lo+j<(arrOf st').size by lia)]at this;simpa using this
theorem Je(C:md prog w A s κ ws a₀){Q:Unit->SortSt->Prop}(h0:SR ws κ a₀ [] a₀.toList st)(h2:2<=a₀.size)(q:∀st',(arrOf st').Perm a₀->failedOf st'=Y->Srt ws (arrOf st').toList->Q () st'):wpS (model prog w) A E s sortRuns' Q st:=by
 rw[sortRuns'_eq];refine wpS_bind (wpS_get ?_);dsimp only;generalize minRun' (arrOf st).size (arrOf st).size 0=mr;rw[h0.pm.size_eq];refine wpS_bind (wpS_mono (wpS_forRange (λx c st'=>∃rs rest,SR ws κ a₀ rs rest st'/\c=(Y,rs.flatten.length)/\x<=rs.flatten.length)
  (Q:=λc st'=>∃rs lo,SR ws κ a₀ rs [] st'/\c=(Y,lo)) ?_ ?_ ⟨[],a₀.toList,h0,O,nR1 _⟩) ?_)
 ·rintro x c st' _ U ⟨rs,rest,h,rfl,au⟩;have y:=h.size;dsimp only;by_cases z:rs.flatten.length>=a₀.size
  ·rw[ak z];have e:rest=[]:=cm.mp (by lia);subst e;exact wpS_pure ⟨rs,_,h,O⟩
  rw[aj z];refine wpS_bind (HW (lo:=rs.flatten.length) (st0:=st') C (by lia) (by lia) ⟨h.pm,h.k,O,O,λ_ _=>rfl⟩ λm st2 b m1 m2 u=>?_);dsimp only;have B:=b.sr h;have aq:=B.size;refine(λ(t:∀(n:Nat) (j:SortSt) (a:List Keyed),SR ws κ a₀ rs a j->Srt ws (a.take n)->1<=n->n<=a.length->(?T:Nat->SortSt->Prop) n j)=>?go) ?mn
  case go=>
   by_cases X:m<mr
   ·rw[ak X];refine wpS_bind (wpS_lift (wpAny_rule ⟨O,?_⟩));refine wpS_bind (II (lo:=rs.flatten.length) (st0:=st') C (n:=min (a₀.size-rs.flatten.length) mr) (by lia) (by lia) b u λj b3 u3=>?_);simp only[b5,bF1,if_false];have H:=b3.sr h;have W:=H.size;have l:=vQ b3.perm (by lia) u3;have T:1<=min (a₀.size-rs.flatten.length) mr:=by lia
    have F:min (a₀.size-rs.flatten.length) mr<=((arrOf j).toList.drop rs.flatten.length).length:=by lia
    generalize min (a₀.size-rs.flatten.length) mr=n at l T F ⊢;exact t n j _ H l T F
   ·rw[aj X];have l:=vQ b.perm (by lia) u;have F:m<=((arrOf st2).toList.drop rs.flatten.length).length:=by lia
    generalize hst:st2=j at B l F ⊢;generalize hmn:m=n at l m1 F ⊢;exact t n j _ B l m1 F
  intro n j a L hs n1 am;refine wpS_bind (wpS_get ?_);have wq:=L.size;refine(λ(p:∀(f:List (List Keyed)) (d:SortSt),SR ws κ a₀ f a d->(?T2:SortSt->Prop) d)=>?go2) ?mn2
  case go2=>
   cases hb:(pendingOf j).back? with
   |none=>
    dsimp only;exact p rs j L
   |some q1=>
    obtain⟨s1,D,pw1⟩:=q1;dsimp only;generalize power' a₀.size (2*s1+D) (2*s1+D+D+n) a₀.size=pv;refine wpS_bind (wpS_mono (wpS_forRange (λx c d=>c=(Y,()) /\ ∃f,SR ws κ a₀ f a d) (Q:=λc d=>c=(Y,()) /\ ∃f,SR ws κ a₀ f a d) ?_ (λ_ _ h=>h) ⟨O,rs,L⟩) ?_)
    ·rintro x c d _ U ⟨rfl,f,k⟩;have v:=nT k.pe;rw[aJ]at v;refine wpS_bind (wpS_get ?_);by_cases R:(pendingOf d).size>1
     ·rw[ak R,aG1 (show(pendingOf d).size-2<(pendingOf d).size by lia)];generalize (pendingOf d)[(pendingOf d).size-2]'(by lia)=pq;obtain⟨pa,pb,pc⟩:=pq;dsimp only;by_cases V:pc<=pv
      ·rw[ak V];exact wpS_pure ⟨O,f,k⟩
      ·rw[aj V];refine wpS_bind (k.merge C (i:=(pendingOf d).size-2) (gG1 (by lia)) (gG1 (by lia)) λr o G=>?_);simp only[b5,bF1,if_false];exact wpS_pure ⟨O,_,G⟩
     ·rw[aj R];exact wpS_pure ⟨O,f,k⟩
    ·rintro c d ⟨rfl,f,k⟩;dsimp only;refine wpS_bind (wpS_modify ?_);refine p f _ ⟨k.k,k.f,k.pm,k.ar,k.so,?_⟩;show fN 0 f ((pendingOf d).modify ((pendingOf d).size-1) _).toList;rw[Array.toList_modify];exact sM (g:=λx=>(x.1,x.2.1,pv)) (λx=>⟨O,O⟩) k.pe
  intro f d k;have S:=k.size;have I:rs.flatten.length=f.flatten.length:=by lia
  refine wpS_bind (wpS_modify (wpS_pure ⟨f++[a.take n],a.drop n,⟨k.k,k.f,k.pm,?_,?_,?_⟩,?_,?_⟩))
  ·refine k.ar.trans ?_;rw[c9,bH];simp
  ·intro r K;rcases aG.mp K with N|N
   ·exact k.so r N
   ·rw[cU.mp N];exact⟨hs,λe=>by have:=congrArg List.length e;rw[aR,bf]at this;lia⟩
  ·show fN 0 _ ((pendingOf d).push (rs.flatten.length,n,0)).toList;rw[cq,I];have:=pJ (r:=a.take n) (pw:=0) k.pe
   rwa [cY,aR,bB am]at this
  ·rw[c9,lA1,I,List.flatten_singleton,aR,bB am]
  ·rw[c9,lA1,List.flatten_singleton,aR,bB am];lia
 ·rintro c st' ⟨rs,rest,h,rfl,au⟩;have y:=h.size;have e:rest=[]:=cm.mp (by lia);subst e;exact⟨rs,_,h,O⟩
 ·rintro c st' ⟨rs,lo,h,rfl⟩;dsimp only;have y:=h.size;rw[bf,Nat.add_zero]at y;have P:=h.many;refine wpS_bind (wpS_mono (wpS_forRange (λx c st2=>c=(Y,()) /\ ∃rs,SR ws κ a₀ rs [] st2/\rs.length+x<=a₀.size) (Q:=λc st2=>c=(Y,()) /\ ∃rs,SR ws κ a₀ rs [] st2/\rs.length<=1) ?_ ?_ ⟨O,rs,h,by lia⟩) ?_)
  ·rintro x c st2 _ U ⟨rfl,rs,h,ao⟩;have v:=nT h.pe;rw[aJ]at v;refine wpS_bind (wpS_get ?_);by_cases z:(pendingOf st2).size<=1
   ·rw[ak z];exact wpS_pure ⟨O,rs,h,by lia⟩
   rw[aj z];have mg:∀i,i+1<rs.length -> ∀{Q:Bool->SortSt->Prop},(∀r o,SR ws κ a₀ r [] o->r.length+1=rs.length->Q M o)->wpS (model prog w) A E s (mergeAt' i) Q st2:=λi hi Q hq=>
    h.merge C (i:=i) (gG1 (by lia)) (gG1 hi) λr o G=>hq _ o G (by rw[lA1,lC1,aR,aV];lia)
   refine wpS_bind (mg _ ?_ λr o G hl5=>?_)
   ·split<;>lia
   ·simp only[b5,bF1,if_false];exact wpS_pure ⟨O,r,G,by lia⟩
  ·rintro c st2 ⟨rfl,rs,h,ao⟩;exact⟨O,rs,h,by lia⟩
  ·rintro c st2 ⟨rfl,rs,h,ao⟩;refine wpS_pure (q st2 h.pm h.f ?_);rw[h.ar,aN]
   match rs,ao,h.so with
   |[],_,_=>exact .nil
   |[r],_,so=>simpa using(so r (by simp)).1
end
theorem ES{ws:List dD}{xs a₀:Array Keyed}(p:xs.Perm a₀)(h:Srt ws xs.toList):Up ws xs a₀.size:=λi j a b=>by
 have c:=p.size_eq;have:=cw.mp h i j (by rw[aJ];lia) (by rw[aJ];lia) a;unfold kR;rw[aG1 (show i<xs.size by lia),aG1 (show j<xs.size by lia)];simpa using this
section
variable{prog:dG}{w:dI}{A:dH}{E:dD->dE->Prop}{s:dE}
theorem zp {a:dF}{vs ws:List dD}{n:Nat}{κ:SortKind}{P:Fin->dE->Prop}(ho:s.heap.get? a=some (seqObj "list" vs.toArray n))(hz:vs.length<=dM)(hp:vs.Perm ws)
  (k:∀h',(∀b o,b≠a->s.heap.get? b=Z o->h'.get? b=Z o)->2<=vs.length->md prog w A {s with heap:=h'} κ ws (pairsOf vs) /\ ∀Q:SortKind->dE->Prop,Q κ {s with heap:=h'}->dN (model prog w) A (keyKind' vs.toArray) Q E {s with heap:=h'})
  (h:P (.done (.ret .none)) {s with heap:=sortedHeap s.heap a vs ws.toArray}):dN (model prog w) A (Builtin.«list.sort» ⟨[.ref a],[]⟩) P E s:=by
 rw[list_sort_plain];have u:a<s.heap.objs.size:=hL1 ho;refine wB1 (listItems_at ho O ?_);refine wB1 (listUpdate_at ho O ?_);obtain⟨i,g⟩:∃i,(s.heap.update a (Obj.mapSeq λ_=> #[])).get? a=some (seqObj "list" #[] i):=⟨_,get?_update_seq ho (λ_=> #[])⟩;refine wB1 (seqEpoch_at g O (wB1 (wpAny_newTuple (wB1 (wpAny_newList (wpAny_holding ?_))))));have keep:∀b o,b≠a->s.heap.get? b=Z o->(((s.heap.update a (Obj.mapSeq λ_=> #[])).push (seqObj "tuple" vs.toArray 0)).push (seqObj "list" #[] 0)).get? b=Z o:=λb o l e=>
  hP1 _ (hP1 _ (by rw[hU1 _ _ _ _ l];exact e))
 have c:(((s.heap.update a (Obj.mapSeq λ_=> #[])).push (seqObj "tuple" vs.toArray 0)).push (seqObj "list" #[] 0)).get? a=Z (seqObj "list" #[] i):=hP1 _ (hP1 _ g);show dN (model prog w) A _ P E {s with heap:=((s.heap.update a (Obj.mapSeq λ_=> #[])).push (seqObj "tuple" vs.toArray 0)).push (seqObj "list" #[] 0)};dsimp only;have q:vs.toArray.size=vs.length:=by simp
 have d:=hp.length_eq;have f:∀xs:Array Keyed,xs.map (·.2)=ws.toArray->P (.done (.ret .none)) {s with heap:=sortedHeap s.heap a vs (xs.map (·.2))}:=λxs e=>by rw[e];exact h
 by_cases h2:vs.toArray.size<2
 ·rw [if_pos h2,if_pos h2];refine wB1 (wP1 ?_);rw [StateT.run_pure];refine wB1 (wP1 (wB1 (seqEpoch_at c rfl ?_)));have e:((vs.toArray.zip vs.toArray).map (·.2):Array dD)=ws.toArray:=by
   have:vs=ws:=by
    match vs,ws,hp,h2 with
    |[],ws,hp,_=>exact(List.nil_perm.mp hp).symm
    |[x],ws,hp,_=>exact(List.singleton_perm.mp hp).symm ▸ rfl
    |_::_::_,_,_,h2=>simp at h2;lia
   subst this;apply Array.ext';simp;exact List.map_snd_zip (nR1 _)
  refine wB1 (listUpdate_at c O ?_ (hsz2:=by
   show(Array.map (·.2) (vs.toArray.zip vs.toArray)).size<=_;rw[e,sT1,<- d];lia))
  simp only[bne_self_eq_false,bF1,if_false];exact wP1 (f _ e)
 ·rw [if_neg h2,if_neg h2];obtain ⟨C,K⟩:=k _ keep (by lia);refine wB1 (K _ ?_);refine wB1 (wpAny_mono (Je C (st:=SortSt.mk' κ (vs.toArray.zip vs.toArray) #[] 7 none)
   (Q:=λ_ st'=>(arrOf st').Perm (pairsOf vs)/\failedOf st'=Y/\Srt ws (arrOf st').toList) ⟨O,O,Array.Perm.refl _,O,(λr m=>by cases m),trivial⟩ (by rw[pairsOf_size];lia) λst' a1 a2 a3=>⟨a1,a2,a3⟩) ?_ λ_ _ e=>e)
  rintro⟨⟨⟩,st'⟩ s' ⟨rfl,j,p,t⟩;have e:=EV C j (ES j t);refine wB1 (seqEpoch_at c O ?_);refine wB1 (listUpdate_at c O ?_ (hsz2:=by
   show(Array.map (·.2) (arrOf st')).size<=_;rw[e,sT1,<- d];lia))
  rw[p];simp only[bne_self_eq_false,bF1,if_false];exact wP1 (f _ e)
theorem uM {v:dD}{vs ws:List dD}{κ:SortKind}{Q:dD->dE->Prop}(hz:vs.length<=dM)(i:vs.Perm ws)
  (d:∀(E:dD->dE->Prop) (Q:List dD->dE->Prop),(∀h',(∀b u,s.heap.get? b=Z u->h'.get? b=Z u)->s.heap.objs.size<=h'.objs.size->Q vs {s with heap:=h'})->dN (model prog w) A.in1 (collect v) Q E s)
  (k:∀a:dQ,(∀b u,s.heap.get? b=Z u->a.get? b=Z u)->md prog w A.in1.in1 {s with heap:=a} κ ws (pairsOf vs) /\
   (vs≠[] -> ∀(E:dD->dE->Prop) (Q:SortKind->dE->Prop),Q κ {s with heap:=a}->dN (model prog w) A.in1.in1 (keyKind' vs.toArray) Q E {s with heap:=a}))
  (f:∀(a:dQ) (L:dF) (n:Nat),(∀b u,s.heap.get? b=Z u->a.get? b=Z u)->s.heap.objs.size<=L->a.get? L=Z (seqObj "list" ws.toArray n)->Q (.ref L) {s with heap:=a}):
  dN (model prog w) A (call (.builtin "sorted") [v]) Q E s:=by
 refine Calls.call_function_entry kind_sorted plain_sorted entry_sorted (args_sorted1 _) ?_;unfold Builtin.«sorted»;refine wB1 (m:=checkCount "sorted" 1 1 _) (wP1 ?_);refine wB1 (d _ _ λh' keep g=>?_);refine wB1 (wpAny_newList (hsz:=hz) ?_);have c:(h'.push (seqObj "list" vs.toArray 0)).get? h'.objs.size=Z (seqObj "list" vs.toArray 0):=hS1 _ O;show dN _ _ _ _ _ {s with heap:=h'.push (seqObj "list" vs.toArray 0)};refine wB1 (wpAny_holding (wE1 slot_list_sort ⟨_,c,O⟩ entry_list_sort (zp (s:={s with heap:=h'.push (seqObj "list" vs.toArray 0)}) (κ:=κ) (ws:=ws) c hz i (λa l h2=>?_) ⟨_,O,?_⟩) (args_list_sort _)))
 ·have:=k a λb u e=>l b u (nN1 (hL1 (keep b u e))) (hP1 _ (keep b u e));exact⟨this.1,this.2 (λz=>by rw[z]at h2;simp at h2) _⟩
 ·obtain⟨n,h⟩:=sortedHeap_at (out:=ws.toArray) c;refine wP1 ⟨_,O,f _ h'.objs.size n (λb u e=>?_) g h⟩;have j:b<h'.objs.size:=hL1 (keep b u e);show(sortedHeap (h'.push (seqObj "list" vs.toArray 0)) h'.objs.size vs ws.toArray).get? b=Z u;rw[sortedHeap_old (nN1 j) (by rw[hZ1];exact cv j)];exact hP1 _ (keep b u e)
end
noncomputable def om:G1:=λd S=>match d5 S d with
 |some (M,xs)=>(oj xs).bind λ_=>if(m7 xs&&(mo (kF xs)&&decide (xs.length<=100000)))=M then Z (.ref S.length,S++[.lst (kF xs)])else Y
 |_=>Y
section
variable{X:Cx}
theorem DR(U:X.A.units+64<cLine):e9 X (.builtin "sorted") (rN X.K (b1 om)):=by
 intro ag s σ H xs R Q I r h;obtain⟨x,mu,S,d,V,T,rfl,B,m,g,hc⟩:=Ch h;unfold om at g;split at g
 ·rename_i ds z;obtain⟨f,G,g⟩:=oB1.mp g;split at g
  ·rename_i c;cases g;rw[bA1,bA1,al]at c;obtain⟨a,vs,rfl,q,t⟩:=d7 B m z;obtain⟨u,rfl,r2⟩:=hA r;cases r2;obtain⟨l,v,ao,P⟩:=I.list q;have k:l.length=ds.length:=by rw[<- v.length,<- t.length]
   have i:l.length<=dM:=by rw[k,sizeLine_eq];lia
   obtain⟨w,zs,N,D,au,K,F⟩:=EU I m (A:=X.A.in1.in1) (by show X.A.units+1+1+60<cLine;lia) (f:=f) t v c.1 (vi G) c.2.1;refine uM i au (λE Q q=>?_) F (λam L n keep y p=>?_)
   ·refine collect_list ao.isList (q _ (λb u e=>?_) ?_) i
    ·have C:b<s.heap.objs.size:=hL1 e;rw[hU1 _ _ _ _ (nN1 C)];exact hP1 _ e
    ·rw[Heap.size_update,hZ1];exact aX _
   ·have j:H L=Y:=I.hok.fresh y;refine⟨.ref L,_,I.laid (t':=s.toks) (o:=.lst w) keep y ⟨?_,zs,n,D,p⟩,O,hc _ _ (mu++[L]) (Ext.new_ j) (.ref (fS m.len _)) (m.newL N j)⟩;rw[K,v.length];exact i
  ·cases g
 ·cases g
end
theorem qg:entryFor table "dict.update.loop"=Z Builtin.«dict.update.loop» :=entryFor_of_tree (by kernel_rfl)
theorem jC:plainId "dict.update.loop"=M:=by decide+kernel
theorem xV:typeLookup (.type "list") (Str.ofString "keys")=pure Y:=by rw[typeLookup_type,builtinLookup_eq_fast];kernel_rfl
section
variable{P:dG}{w:dI}{A:dH}{E:dD->dE->Prop}{s:dE}
theorem yM {a:dF}{xs:Array dD}{k:Nat}{sl:Array (Option dD)}{Q:Option dD->dE->Prop}(hx:s.heap.get? a=some {cls:=.type "list",dict:=none,data:=.seq xs k,slots:=sl})(m:A.handled=none)
  (h:∀h' tk,(∀b o,s.heap.get? b=Z o->h'.get? b=Z o)->Q Y {s with heap:=h',toks:=tk}):dN (model P w) A (getAttr? (.ref a) (Str.ofString "keys")) Q E s:=by
 obtain⟨l,g,d,tk,j⟩:=s;have i:∀f,(⟨l,g,d,f,j⟩:dE).TypeIs (.ref a) "list":=λ_=>⟨_,hx,O⟩;have r:=sub_AttributeError;have v:=PySem.F.slot_list_getattribute.lookup;have p:=PySem.F.slot_list_getattribute.bind (.ref a);have q:=am_list_getattr_none;unfold getAttr? getAttrBy? getAttrBy
 repeat(any_goals (first|assumption|exact i _|((with_reducible show dN _ _ (call (Value.builtin "list.__getattribute__") _ _) _ _ _);refine call_meets PySem.F.slot_list_getattribute (i _) am_entry_list_getattribute (PySem.F.args_list_getattribute_2 _ _) (meets_getattribute_miss_list a xs k sl _ _ xV (by decide) (by decide)) ⟨hx,m,λh' f e c=>?_⟩)|wp_step))
 obtain⟨t,n,u⟩:=c.there;show dN _ _ (getattributeRaised _ _ _ _ _ _ _) _ _ _;unfold getattributeRaised
 repeat(any_goals (first|assumption|wp_step))
 exact h _ _ c.keeps
variable{K:Type} [DecidableEq K] {knd:HeapKind P w K}
abbrev ut(K:Type):=K×dF×dD
noncomputable def gD(ps:List (ut K)):List (ut K):=ps.foldl (λa q=>storedH a q.1 q.2.1 q.2.2) []
theorem sn(xs:List (ut K))(k:K)(a:dF)(v:dD):(storedH xs k a v).length<=xs.length+1:=by
 unfold storedH;split
 ·rw[lM1];exact aX _
 ·rw[lA1];exact nR1 _
theorem qa:∀(ps acc:List (ut K)),(ps.foldl (λa q=>storedH a q.1 q.2.1 q.2.2) acc).length<=acc.length+ps.length
 |[],acc=>nR1 _
 |p::ps,acc=>by
  rw[b9,lC1];have h1:=qa ps (storedH acc p.1 p.2.1 p.2.2);have h2:=sn acc p.1 p.2.1 p.2.2;lia
theorem vp{ps:List (ut K)}{i:Nat}{q:ut K}(h:ps[i]?=Z q):gD (ps.take (i+1))=storedH (gD (ps.take i)) q.1 q.2.1 q.2.2:=by
 unfold gD;rw[cr,h,List.foldl_append];rfl
theorem tL{F:ut K->Prop}(d:∀(k:K) (a:dF) (v e:dD),F (k,a,v)->F (k,a,e)):∀(ps acc:List (ut K)),(∀x∈ps,F x)->(∀x∈acc,F x) -> ∀x∈ps.foldl (λa q=>storedH a q.1 q.2.1 q.2.2) acc,F x
 |[],acc,_,h=>h
 |p::ps,acc,hp,h=>by
  rw[b9];refine tL d ps _ (λx b=>hp x (mC1 _ b)) λx b=>?_;unfold storedH at b;split at b
  ·obtain⟨y,c,rfl⟩:=cc.mp b;unfold putAt;split
   ·exact d _ _ y.2.2 _ (h y c)
   ·exact h y c
  ·rcases aG.mp b with z|z
   ·exact h x z
   ·simp at z;subst z;exact hp p mS1
theorem A0{h:dQ}{ps:List (ut K)}(hp:∀x∈ps,knd.is h x.1 x.2.1):∀x∈gD ps,knd.is h x.1 x.2.1:=
 tL (F:=λx=>knd.is h x.1 x.2.1) (λ_ _ _ _ z=>z) ps [] hp λx a=>by cases a
theorem yx{d l it:dF}{h0:dQ}{its:Array dD}{ps:List (ut K)}{R:Result->dE->Prop}(X:A.handled=none)(hu:knd.room A.in1)(y:its.size=ps.length)(hps:ps.length<=dM)(U:h0.IsList l its)(nd:h0.get? d=none)(ni:h0.get? it=none)(p:d≠it)(f:∀(h:dQ) (k:K) (a:dF),(∀c o,h0.get? c=some o->h.get? c=some o)->knd.is h0 k a->knd.is h k a)(W:∀(i:Nat) (q:ut K),ps[i]?=some q -> ∃C:dF,its[i]?=some (Value.ref C)/\h0.IsTuple C #[Value.ref q.2.1,q.2.2]/\knd.is h0 q.1 q.2.1):
  ∀(n i:Nat) (s:dE),its.size-i=n->i<=its.size->(∀c o,h0.get? c=Z o->s.heap.get? c=Z o)->s.heap.IsListIter it l i->s.heap.DictOfH knd d (gD (ps.take i)) ->
  (∀h' tk,(∀c o,h0.get? c=Z o->h'.get? c=Z o)->h'.DictOfH knd d (gD ps)->R (.ok (.ret .none)) {s with heap:=h',toks:=tk})->dP (model P w) A (.builtin "dict.update.loop" ⟨[.ref d,.ref it,.int i 0,.none],[]⟩) R s:=by
 have D:∀{c:dF} {o:Obj},h0.get? c=Z o->c≠d/\c≠it:=λ{c o} e=>⟨λz=>(by rw[z,nd]at e;cases e),λz=>(by rw[z,ni]at e;cases e)⟩;have v:∀i,∀x∈gD (ps.take i),knd.is h0 x.1 x.2.1:=λi=>A0 λx m=>by
  obtain⟨j,hj⟩:=bq (cJ m);obtain⟨_,_,_,h⟩:=W j x hj;exact h
 intro n
 induction n with
 |zero=>
  intro i s aq hi keep st am q;have e:i=its.size:=by lia
  subst e;have g:s.heap.IsList l its:=by obtain⟨o,e,r⟩:=U;exact⟨o,keep _ _ e,r⟩
  refine wD1 qg (?_:_);rw[Around.under_plainId jC _];show dN _ A.in1 (pyNext (.ref it) >>= _) _ _ s;refine wB1 (wpAny_pyNext_list_end (by simpa using X) st g (by simp) λh' N=>?_);refine wB1 (wP1 (wP1 ?_));refine q h' s.toks (λc o e=>N c o (D e).2 (keep c o e)) ?_;have B:h'.DictOfH knd d (gD (ps.take its.size)):=by
   obtain⟨o,es,ep,G,au,E,L,g5,H⟩:=am;have k2:∀x∈gD (ps.take its.size),knd.is h' x.1 x.2.1:=λx m=>f _ _ _ (λc o e=>N c o (D e).2 (keep c o e)) (v _ x m);exact⟨o,es,ep,N d o p G,au,E,L,k2,H⟩
  rw[y,bY]at B;exact B
 |succ n ih=>
  intro i s aq hi keep st am q;have ao:i<its.size:=by lia
  have g:s.heap.IsList l its:=by obtain⟨o,e,r⟩:=U;exact⟨o,keep _ _ e,r⟩
  obtain⟨pr,u⟩:∃pr,ps[i]?=some pr:=⟨_,gG1 (by lia)⟩;obtain⟨C,m,⟨op,V,hc,np,hd⟩,F⟩:=W i pr u;refine wD1 qg (?_:_);rw[Around.under_plainId jC _];show dN _ A.in1 (pyNext (.ref it) >>= _) _ _ s;refine wB1 (wpAny_pyNext_list_item st g m λh' st' S=>?_);have b:∀c o,h0.get? c=Z o->h'.get? c=Z o:=λc o e=>by rw[S.2 c (D e).2];exact keep c o e
  have I:h'.DictOfH knd d (gD (ps.take i)):=by
   obtain⟨o,es,ep,G,au,E,L,g5,H⟩:=am;exact⟨o,es,ep,by rw[S.2 d p];exact G,au,E,L,λx m=>f _ _ _ b (v _ x m),H⟩
  show dN _ A.in1 (holding [Value.ref C] _ >>= _) _ _ _;refine wB1 (wpAny_holding (wB1 (wpAny_tryCatch ?_)));unfold Builtin.Dict.pairItems;refine wB1 (wpAny_typeOf (T:="tuple") ⟨op,b _ _ V,hc⟩ ?_);rw[ak (by decide)];refine wB1 (wpAny_seqItems (b _ _ V) hd (wP1 ?_));dsimp only[b7];refine wpAny_holding (wpAny_dictSet_heap (s:={s with heap:=h'}) hu (f _ _ _ b F) I (λh2 Q t=>?_) ?_)
  ·refine wP1 ⟨plainId_quiet jC _,?_⟩;have hq:=ih (i+1) {s with heap:=h2,toks:=s.toks+knd.draws pr.1} (by lia) ao (fun c o e=>by rw [t.2 c (D e).1];exact b c o e) (by
    obtain⟨o,e1,wq⟩:=st';exact⟨o,by rw[t.2 it (Ne.symm p)];exact e1,wq⟩) (by rw[vp u];exact Q) λh3 tk k3 x3=>q h3 tk k3 x3
   exact hq
  ·have:=qa (ps.take i) [];unfold gD;rw[aR]at this;simp at this;lia
theorem vA {l:dF}{xs:Array dD}{j:Nat}{sl:Array (Option dD)}{Q:dD->dE->Prop}(n:A.handled=none)(hx:s.heap.get? l=some {cls:=.type "list",dict:=none,data:=.seq xs j,slots:=sl})
  (i:∀(k:dH) (h1:dQ) (tk:Nat) (it:dF),k.handled=Y->k.units<=A.units+2->(∀b o,s.heap.get? b=Z o->h1.get? b=Z o)->s.heap.get? it=Y->s.heap.objs.size≠it->h1.IsListIter it l 0->h1.DictOfH knd s.heap.objs.size [] ->
   ∀R:Result->dE->Prop,(∀s',Q (.ref s.heap.objs.size) s'->R (.ok (.ret .none)) s')->dP (model P w) k (.builtin "dict.update.loop" ⟨[.ref s.heap.objs.size,.ref it,.int 0 0,.none],[]⟩) R {s with heap:=h1,toks:=tk}):
  dN (model P w) A (call (.type "dict") [.ref l]) Q E s:=by
 refine callType_codes (Q₁:=λh c=>h = .ref s.heap.objs.size/\c={s with heap:=s.heap.push {cls:=.type "dict",data:=.dict #[]}}) PySem.F.kt_called_dict (PySem.F.kt_typeCall_dict_1 _) PySem.F.entry_dict_init (kt_code_dict_new _ ⟨O,O⟩) ?_;rintro h c ⟨rfl,rfl⟩;have d:(s.heap.push {cls:=.type "dict",data:=.dict #[]}).DictOfH knd s.heap.objs.size []:=Heap.DictOfH.new s.heap;have p:Shared.TypeIs {s with heap:=s.heap.push {cls:=.type "dict",data:=.dict #[]}} (.ref s.heap.objs.size) "dict":=d.typeIs;have g:(s.heap.push {cls:=.type "dict",data:=.dict #[]}).get? l=Z {cls:=.type "list",dict:=Y,data:=.seq xs j,slots:=sl}:=hP1 _ hx;refine⟨p,PySem.F.args_dict_init_2 _ _,?_⟩;unfold Builtin.«dict.__init__»;refine wB1 ?_;unfold Builtin.Dict.selfAndRest;refine wB1 (wpAny_notOrdered_dict p ?_);show dN _ _ (pure (s.heap.objs.size,[Value.ref l])) _ _ _;refine wP1 ?_;show dN _ _ (Builtin.Dict.updateFrom "dict.__init__" s.heap.objs.size (.ref l) [] .none) _ _ _;unfold Builtin.Dict.updateFrom;refine wB1 (wpAny_typeOf (T:="list") ⟨_,g,O⟩ ?_);rw[ak (by decide)];refine wB1 (yM (s:={s with heap:=s.heap.push {cls:=.type "dict",data:=.dict #[]}}) g (by simpa using n) λh1 tk keep=>?_);rw[ak (show(Y:Option dD).isNone=M from rfl)];have a:∀b o,s.heap.get? b=Z o->h1.get? b=Z o:=λb o e=>keep b o (hP1 _ e);have z:h1.IsList l xs:=⟨_,a _ _ hx,O,j,O⟩;refine wB1 (wpAny_rule (wB1 (wpAny_pyIter_list (s:={s with heap:=h1,toks:=tk}) z ?_)));obtain⟨y,es,ep,v,C,t,B,D,u⟩:=d;have r:=keep _ _ v;have m:=hL1 r;have f:h1.get? h1.objs.size=Y:=Heap.get?_none_of_le (nR1 _);refine wB1 (wP1 (wP1 ⟨plainId_quiet jC _,?_⟩));refine i A.in1 _ tk h1.objs.size (by simpa using n) (aX _) (λb o e=>hP1 _ (a b o e)) ?_ (nN1 m) ?_ ?_ _ λs' q=>⟨O,q⟩
 ·cases e:s.heap.get? h1.objs.size with
  |none=>rfl
  |some o=>rw[a _ _ e]at f;cases f
 ·exact⟨_,hS1 _ O,O,O⟩
 ·exact⟨y,es,ep,hP1 _ r,C,t,B,(λx hx=>by cases hx),u⟩
end
noncomputable def KY(F:List (TK×D)):Ob:=match F with
 |[]=>.dct []
 |_=>.dcT F
noncomputable def wj:D->Option (TK×D)
 | .tup [k,v]=>(keyT k).map λk=>(k,v)
 |_=>Y
noncomputable def i9:List D->Option (List (TK×D))
 |[]=>Z []
 |x::xs=>(wj x).bind λp=>(i9 xs).map (p :: ·)
noncomputable def jY(ps:List (TK×D)):List (TK×D):=ps.foldl (λF p=>fm F p.1 p.2) []
noncomputable def jm:G1:=λd S=>match d5 S d with
 |some (M,xs)=>(i9 xs).bind λps=>if xs.length<=100000 then Z (.ref S.length,S++[KY (jY ps)])else Y
 |_=>Y
section
variable{X:Cx}{ag:List (dF×Obj)}{σ:L2.St}{H:Hp}{s:dE}{mu:List dF}
theorem zV(I:Inv X ag σ H s){d:D}{v:V}{u:dD}{p:TK×D}(r:eK X.K H mu d v)(q:d6 v u)(h:wj d=some p):
  ∃w:ut TK,(p.1=w.1/\p.1.dep<=8/\eK X.K H mu (tkD p.1) (.ref w.2.1) /\ ∃v,d6 v w.2.2/\eK X.K H mu p.2 v) /\ ∃g:dF,u = .ref g/\s.heap.IsTuple g #[Value.ref w.2.1,w.2.2]/\(fR X.prog X.w).is s.heap w.1 w.2.1:=by
 unfold wj at h;split at h
 ·rename_i k x;obtain⟨i,m,e⟩:=oM1.mp h;subst e;cases r with
  | @tup _ a vs h1 h2=>
   cases q;obtain⟨l,t,y,_⟩:=I.tuple h1;cases h2 with
   |cons j c=>cases c with
    |cons r2 f=>
     cases f;cases t with
     |cons z c=>cases c with
      |cons n f=>
       cases f;obtain⟨b,rfl,rfl,rk,o,hi⟩:=jj I j z m;exact⟨(i,b,_),⟨O,o,rk,_,n,r2⟩,_,O,y,hi⟩
 ·cases h
theorem pL(I:Inv X ag σ H s):∀ {ds:List D} {vs:List V} {b:List dD} {ps:List (TK×D)},d4 X.K H mu ds vs->ei vs b->i9 ds=some ps ->
  ∃ws:List (ut TK),KT X.K H mu ps ws/\ws.length=b.length /\ ∀(i:Nat) (q:ut TK),ws[i]?=Z q -> ∃a:dF,b[i]?=Z (Value.ref a)/\s.heap.IsTuple a #[Value.ref q.2.1,q.2.2]/\(fR X.prog X.w).is s.heap q.1 q.2.1
 |[],_,_,ps,.nil,.nil,h=>by cases h;exact⟨[],.nil,O,λi q h=>by simp at h⟩
 |d::ds,_,_,ps,.cons r t,.cons q m,h=>by
  rw[i9]at h;obtain⟨p,f,h⟩:=oB1.mp h;obtain⟨e,l,h⟩:=oM1.mp h;subst h;obtain⟨w,c,a,n,j,g⟩:=zV I r q f;obtain⟨ws,h1,h2,k⟩:=pL I t m l;refine⟨w::ws,.cons c h1,by rw[lC1,lC1,h2],λi q h=>?_⟩;cases i with
  |zero=>simp at h;subst h;exact⟨a,by rw[n];rfl,j,g⟩
  |succ i=>exact k i q (by simpa using h)
theorem KT.fold{K:Fg1}:∀{ps:List (TK×D)} {ws:List (ut TK)} {as:List (TK×D)} {bs:List (ut TK)},KT K H mu ps ws->KT K H mu as bs->KT K H mu (ps.foldl (λF p=>fm F p.1 p.2) as) (ws.foldl (λa q=>storedH a q.1 q.2.1 q.2.2) bs):=by
 intro ps ws as bs h
 induction h generalizing as bs with
 |nil=>exact λg=>g
 | @cons p q ps ws r t ih=>
  intro g;obtain⟨e,b,rk,v,c,r2⟩:=r;rw[b9,b9,<- e];exact ih (g.put b rk c r2)
theorem yt(ps:List (TK×D)):(jY ps).length<=ps.length:=by
 have:∀(ps a:List (TK×D)),(ps.foldl (λF p=>fm F p.1 p.2) a).length<=a.length+ps.length:=by
  intro ps
  induction ps with
  |nil=>intro a;exact nR1 _
  |cons p ps ih=>
   intro a;rw[b9,lC1];have h1:=ih (fm a p.1 p.2);have h2:=mz a p.1 p.2;lia
 have:=this ps [];simpa[jY]using this
theorem nV:∀{ds:List D} {ps:List (TK×D)},i9 ds=Z ps->ps.length=ds.length
 |[],ps,h=>by cases h;rfl
 |d::ds,ps,h=>by
  rw[i9]at h;obtain⟨p,c,h⟩:=oB1.mp h;obtain⟨a,b,h⟩:=oM1.mp h;subst h;rw[lC1,lC1,nV b]
theorem xc{k:Nat}(hr:fP k X.A):e9 X (.type "dict") (rN X.K (b1 jm)):=by
 intro ag s σ H xs us Q I r h;obtain⟨x,mu,S,d,r',S',rfl,U,D,f,hc⟩:=Ch h;unfold jm at f;split at f
 ·rename_i ds P;obtain⟨ps,ep,f⟩:=oB1.mp f;split at f
  ·rename_i wq;cases f;obtain⟨a,vs,rfl,q,t⟩:=d7 U D P;obtain⟨u,rfl,r2⟩:=hA r;cases r2;obtain⟨C,N,ht,hz⟩:=I.list q;obtain⟨ws,kt,v,hP⟩:=pL I t N ep;have A:C.length=ds.length:=by rw[<- N.length,<- t.length]
   obtain⟨V,n,ao,E,m,c⟩:=ht;obtain⟨oc,od,oa,os⟩:=V;dsimp only at E m c
   subst E m c
   have hu:=hr.un;refine vA (knd:=fR X.prog X.w) hr.hd ao λA' h1 tk it G hAu keep ni ne st hD R hR=>?_;have K:ws.length<=100000:=by rw[v,A];exact wq
   have big:ws.length<=dM:=aC K (by decide);refine yx (knd:=fR X.prog X.w) (h0:=s.heap) (its:=C.toArray) (ps:=ws) G (by show A'.units+1+8<cLine;lia) (by rw[sT1];exact v.symm) big ⟨_,ao,O,n,O⟩ (Heap.get?_none_of_le (nR1 _)) ni ne
    (λh k a e z=>⟨z.1.grows e,z.2⟩) (λi q e=>?_) _ 0 _ O (bi _) keep st (by simpa[gD]using hD) λh' l b g=>hR _ ?_
   ·obtain⟨pa,e1,W,aq⟩:=hP i q e;exact⟨pa,by rw[cg];exact e1,W,aq⟩
   ·have w:H s.heap.objs.size=none:=I.fresh;have j:KT X.K H mu (jY ps) (gD ws):=KT.fold kt .nil;have B:(s.heap.objs.size == sysModules)=false:=beq_eq_false_iff_ne.mpr (Ne.symm (nN1 I.big));have y:(gD ws).length<=dM:=by
     rw[<- j.length];have h1:=yt ps;have h2:=nV ep;exact aC (by lia:(jY ps).length<=100000) (by decide)
    cases ef:jY ps with
    |nil=>
     rw[ef]at j hc;generalize gD ws=fw at j g y;cases j;obtain⟨o,es,am,T,g2,au,g4,g5,g6⟩:=g;have L:es = #[]:=Array.toList_inj.mp (by simpa using g4);subst L;refine⟨.ref s.heap.objs.size,upd H s.heap.objs.size (.dK []),I.laid (t':=l) (o:=.dK []) b (nR1 _) ⟨bi _,B,[],.nil,o,#[],am,T,g2,au,?_,?_,bo⟩,O,hc _ _ (mu++[s.heap.objs.size]) (Ext.new_ w) (.ref (fS D.len _)) (D.new w ⟨[],d9,.nil⟩)⟩
     ·intro e L;simp at L
     ·exact .nil
    |cons p F=>
     rw[ef]at j hc;refine⟨.ref s.heap.objs.size,upd H s.heap.objs.size (.ext (gh s.heap.objs.size (gD ws))),I.laid (t':=l) b (nR1 _) (rR B g),O,hc _ _ (mu++[s.heap.objs.size]) (Ext.new_ w) (.ref (fS D.len _)) (D.new w ⟨_,d9,j.ext (Ext.new_ w),y⟩)⟩
  ·cases f
 ·cases f
end
mutual
noncomputable def D.mv(h n:Nat):D->D
 | .tup xs=>.tup (D.mvs h n xs)
 | .rol xs=>.rol (D.mvs h n xs)
 | .ref 0=>.ref h
 | .ref (k+1)=>.ref (n+k)
 | .fn x=>.fn x
 | .non=>.non
 | .bl b=>.bl b
 | .int i=>.int i
 | .str x=>.str x
noncomputable def D.mvs(h n:Nat):List D->List D
 |[]=>[]
 |d::ds=>D.mv h n d::D.mvs h n ds
end
noncomputable def Ob.mv(h n:Nat):Ob->Ob
 | .lst xs=>.lst (D.mvs h n xs)
 | .dct kvs=>.dct (kvs.map λp=>(p.1,p.2.mv h n))
 | .dcT kvs=>.dcT (kvs.map λp=>(p.1,p.2.mv h n))
 | .iset xs=>.iset xs
 | .dcF kvs=>.dcF (kvs.map λp=>(p.1,p.2.mv h n))
 | .tst ks=>.tst ks
section
variable{K:Fg1}{H:Hp}{mu nu:List dF}{a:dF}{h:Nat}
theorem eK.mv(ha:mu[h]? = some a):∀ {d:D} {v:V},eK K H (a::nu) d v->eK K H (mu++nu) (d.mv h mu.length) v:=fun c=>c.rec (motive_1:=fun d v _=>eK K H (mu++nu) (d.mv h mu.length) v) (motive_2:=fun ds vs _=>d4 K H (mu++nu) (D.mvs h mu.length ds) vs)
  .non .bl .int .str (λh _ ih=>.tup h ih) (λh _ ih=>.rol h ih) (λ{n b} e=>by
   cases n with
   |zero=>
    have:a=b:=by simpa using e
    subst this;exact .ref (by rw[gL1 (gE1.mp ha).1];exact ha)
   |succ k=>exact .ref (by rw[gR1 (br _ _),bt];simpa using e)) (λh=>.fn h) .nil (λ_ _ a b=>.cons a b)
theorem d4.mv(ha:mu[h]?=Z a):∀{ds:List D} {vs:List V},d4 K H (a::nu) ds vs->d4 K H (mu++nu) (D.mvs h mu.length ds) vs:=λb=>b.ind (P:=λds vs _=>d4 K H (mu++nu) (D.mvs h mu.length ds) vs) .nil λr _ ih=>.cons (eK.mv ha r) ih
theorem KR.mv{κ:Type}(ha:mu[h]?=Z a):∀{ks:List (κ×D)} {ws:List (κ×V)},KR K H (a::nu) ks ws->KR K H (mu++nu) (ks.map λp=>(p.1,p.2.mv h mu.length)) ws:=by
 intro ks ws b
 induction b with
 |nil=>exact .nil
 |cons r t ih=>exact .cons ⟨r.1,r.2.mv ha⟩ ih
mutual
theorem D7(h n:Nat):∀k:TK,(tkD k).mv h n=tkD k
 | .non=>rfl
 | .int _=>rfl
 | .tup xs=>by rw[tkD,D.mv,zf h n xs]
theorem zf(h n:Nat):∀ks:List TK,D.mvs h n (ic ks)=ic ks
 |[]=>rfl
 |x::xs=>by rw[ic,D.mvs,D7 h n x,zf h n xs]
end
theorem KT.mv(ha:mu[h]?=Z a):∀{ks:List (TK×D)} {ws:List (TK×dF×dD)},KT K H (a::nu) ks ws->KT K H (mu++nu) (ks.map λp=>(p.1,p.2.mv h mu.length)) ws:=by
 intro ks ws c
 induction c with
 |nil=>exact .nil
 |cons r t ih=>
  obtain⟨z,d,k,v,b,r⟩:=r;exact .cons ⟨z,d,by have:=k.mv ha;rw[D7]at this;exact this,v,b,r.mv ha⟩ ih
theorem kl.mv{b:dF}(ha:mu[h]?=Z a):∀{o:Ob},kl K H (a::nu) b o->kl K H (mu++nu) b (o.mv h mu.length)
 | .lst _,⟨vs,e,r⟩=>⟨vs,e,r.mv ha⟩
 | .dct _,⟨ws,e,r⟩=>⟨ws,e,KR.mv ha r⟩
 | .dcT _,⟨ws,e,r,l⟩=>⟨ws,e,KT.mv ha r,l⟩
 | .iset _,q=>q
 | .dcF _,⟨ws,e,r,l⟩=>⟨ws,e,KT.mv ha r,l⟩
 | .tst ks,⟨ws,e,r⟩=>⟨ws,e,by have:=KT.mv ha r;rw[bu]at this;exact this⟩
end
noncomputable def apart(f:FN):FN:=λds S=>match ds with
 | .ref h::es=>if D.unds 0 es=true then (S[h]?).bind fun o=>if o.und 0=true then (mH f (.ref 0::es) [o]).bind fun p=>match p.2 with
   |o'::G=>if o'.und 0=M then(if p.1.und 0=M then Z (p.1,S.set h o')else Z (p.1.mv h S.length,S.set h o'++G.map (Ob.mv h S.length)))else Y
   |[]=>Y
  else Y
  else Y
 |_=>Y
theorem Bx{K:Fg1}{f:FN}{vs:List V}{H:Hp}{Q:VK}(q:rN K (apart f) vs H Q):rN K f vs H Q:=by
 obtain⟨mu,S,ds,d,S',N,j,g,hc⟩:=q;unfold apart at g;split at g
 ·rename_i h es;split at g
  ·rename_i A;obtain⟨o,am,g⟩:=oB1.mp g;split at g
   ·rename_i aq;obtain⟨⟨ao,F⟩,wq,g⟩:=oB1.mp g;cases N with
    | @cons _ v _ vt R L=>
    cases R with
    | @ref _ a p=>
    have i:∀{m1 m2:List dF} (k:Nat),k<0->m1[k]?=m2[k]?:=λk P=>absurd P (bw _);refine ua ⟨[a],[o],.ref 0::es,ao,F,.cons (.ref O) (L.cut (n:=0) i A),⟨O,by simp,λn o2 b h1 h2=>?_⟩,wq,λv H' mu' x r s=>?_⟩
    ·cases n with
     |zero=>
      have T:o=o2:=by simpa using h1
      have U:a=b:=by simpa using h2
      subst T U;exact(j.ob h o a am p).cut (n:=0) i aq
     |succ n=>simp at h1
    ·obtain⟨nu,D⟩:=x.pre;have y:mu'=a::nu:=D.symm;subst y;dsimp only at g;cases F with
     |nil=>cases g
     |cons o' G=>
      dsimp only at g;split at g
      ·rename_i B;have t:Ext mu mu H H':=⟨bn,fun b z e nb=>x.old b z e (fun l=>nb (by rw [cU.mp l];exact gM1 p)),x.tup,x.frz,fun _ z=>.inl z⟩;have m:∀ (n:Nat) (z:Ob) (b:dF),(S.set h o')[n]? = some z->mu[n]? = some b->kl K H' mu b z:=fun n z b h1 h2=>by
        by_cases e:h=n
        ·subst e;rw[aI (gE1.mp am).1]at h1;cases h1;rw[p]at h2;cases h2;exact(s.ob 0 o' a O O).cut (n:=0) i B
        ·rw[gS1 e]at h1;refine(j.ob n z b h1 h2).keep t λu eu=>x.old b u eu λl=>?_;have l:=cU.mp l;subst l;exact e ((List.getElem?_inj (gE1.mp p).1 j.nd).mp (p.trans h2.symm))
       split at g
       ·rename_i X;cases g;exact hc v H' mu t (r.cut (n:=0) i X) ⟨by rw[aW];exact j.len,j.nd,m⟩
       ·cases g;have snd:=s.nd;rw [aO] at snd;have I:∀ b∈nu,H b=none:=fun b l=>by
         rcases x.new b (mC1 _ l)with z|z
         ·rw[cU.mp z]at l;exact absurd l snd.1
         ·exact z
        have W:Ext mu (mu++nu) H H':=⟨bv _ _,t.old,t.tup,t.frz,λb z=>by
         rcases aG.mp z with z|z
         ·exact .inl z
         ·exact .inr (I b z)⟩
        refine hc v H' (mu++nu) W (by rw[<- j.len];exact r.mv p) ⟨?_,?_,λn z b h1 h2=>?_⟩
        ·have:=s.len;simp only[lC1]at this;rw[lA1,lA1,lM1,aW,j.len];lia
        ·refine bA.mpr ⟨j.nd,snd.2,λb l c C z=>?_⟩;subst z;obtain⟨o2,e⟩:=j.here l;rw[I b C]at e;cases e
        ·by_cases E:n<S.length
         ·rw[gL1 (by rw[aW];exact E)]at h1;rw[gL1 (by rw[j.len];exact E)]at h2;exact(m n z b h1 h2).mor nu
         ·have w:=a0 E;rw[gR1 (by rw[aW];exact w),aW]at h1;rw[gR1 (by rw[j.len];exact w),j.len]at h2;rw[gP1]at h1;obtain⟨o1,au,g2⟩:=oM1.mp h1;subst g2;have q:=s.ob (n-S.length+1) o1 b (by rw[gC1];exact au) (by rw[gC1];exact h2);rw[<- j.len];exact q.mv p
      ·cases g
   ·cases g
  ·cases g
 ·cases g
theorem fi.ap{P:dG}{w:dI}{K:Fg1}{mg:Str->Option dD}{base:dQ}{k:Nat}{x:Str}{n:Nat}{m:FN}(h:fi P w K mg base k x n m):fi P w K mg base k x n (apart m):=by
 obtain⟨f,fd,ps,F,b,c,a⟩:=h;exact⟨f,fd,ps,F.imp λvs H Q E q=>⟨q.1,Bx q.2⟩,b,c,a⟩
def W{α:Type}(o:Option α)(Q:α->Prop):Prop:=∃x,o=Z x/\Q x
section
variable{α β:Type}{Q:α->Prop}
theorem ew{x:α}:W (Z x) Q↔Q x:=⟨λ⟨_,e,h⟩=>(by cases e;exact h),λh=>⟨x,O,h⟩⟩
theorem kk:W (Y:Option α) Q↔False:=⟨λ⟨_,e,_⟩=>(by cases e),False.elim⟩
theorem ee{o:Option β}{f:β->Option α}:W (o.bind f) Q↔W o λx=>W (f x) Q:=by
 cases o with
 |none=>exact⟨λ⟨_,e,_⟩=>(by cases e),λ⟨_,e,_⟩=>(by cases e)⟩
 |some x=>exact⟨λh=>⟨x,O,h⟩,λ⟨_,e,h⟩=>by cases e;exact h⟩
theorem lD{o:Option β}{f:β->α}:W (o.map f) Q↔W o λx=>Q (f x):=by
 cases o with
 |none=>exact⟨λ⟨_,e,_⟩=>(by cases e),λ⟨_,e,_⟩=>(by cases e)⟩
 |some x=>exact⟨λ⟨_,e,h⟩=>(by cases e;exact⟨x,O,h⟩),λ⟨_,e,h⟩=>(by cases e;exact⟨_,O,h⟩)⟩
theorem qu{c:Prop}[Decidable c]{a b:Option α}:W (if c then a else b) Q↔if c then W a Q else W b Q:=by split<;>exact Iff.rfl
theorem W.mono{o:Option α}{Q':α->Prop}(h:W o Q)(k:∀x,Q x->Q' x):W o Q':=let ⟨x,e,q⟩:=h;⟨x,e,k x q⟩
theorem W.of{o:Option α}{x:α}(e:o=Z x)(h:Q x):W o Q:=⟨x,e,h⟩
end
theorem eZ{a b:FS}{r:Ev}{S:Sto}{Q:Fl×Ev×Sto->Prop}(R:Ev->Sto->Prop)(h1:W (a r S) λp=>p.1 = .nx/\R p.2.1 p.2.2)(h2:∀r S,R r S->W (b r S) Q):W (eA a b r S) Q:=by
 obtain⟨⟨f,g,h⟩,e,c,d⟩:=h1;dsimp only at c d;subst c;unfold eA;rw[e];exact h2 g h d
theorem mR{n:Nat}{b:FS}{ds:List D}{S:Sto}{Q:D×Sto->Prop}(h:W (b (gM n ds) S) fun p=>match p.1 with
  | .rt d=>Q (d,p.2.2)
  | .nx=>Q (.non,p.2.2)
  |_=>False):W (gY n b ds S) Q:=by
 obtain⟨⟨f,a,c⟩,e,q⟩:=h;unfold gY;rw[e];cases f with
 |rt d=>exact⟨_,O,q⟩
 |nx=>exact⟨_,O,q⟩
 |bk=>exact q.elim
 |ct=>exact q.elim
theorem oD{n:Nat}{f:FN}{ds:List D}{S:Sto}{Q:D×Sto->Prop}(hn:ds.length=n)(a:D.unds 0 ds=J)(h:W (f ds S) λp=>Q (gc S.length p)):W (dX n f ds S) Q:=by
 obtain⟨⟨d,b⟩,e,q⟩:=h;exact⟨_,qk e hn a,q⟩
theorem hK{n:Nat}{f:FN}{ds:List D}{S:Sto}{Q:D×Sto->Prop}(hn:ds.length=n)(b:D.unds 0 ds=M)(h:W (f ds []) λp=>p.1.und 0=M/\Q (p.1,S)):W (dX n f ds S) Q:=by
 obtain⟨⟨d,g⟩,e,c,a⟩:=h;exact⟨_,yH e hn b c,a⟩
mutual
theorem fE{n:Nat}:∀{d:D},d.und 0=M->d.und n=M
 | .non,_=>rfl
 | .bl _,_=>rfl
 | .int _,_=>rfl
 | .str _,_=>rfl
 | .tup xs,h=>by rw[D.und]at h ⊢;exact jz h
 | .rol xs,h=>by rw[D.und]at h ⊢;exact jz h
 | .fn _,_=>rfl
 | .ref k,h=>by simp[D.und]at h
theorem jz{n:Nat}:∀{ds:List D},D.unds 0 ds=M->D.unds n ds=M
 |[],_=>rfl
 |d::ds,h=>by
  rw[D.unds,bA1]at h ⊢;exact⟨fE h.1,jz h.2⟩
end
theorem xa{n:Nat}{f:FN}{ds:List D}{o:Ob}{T:Sto}{Q:D×Sto->Prop}(hn:ds.length=n)(g:D.unds 0 ds=J)(a:T.all (Ob.und (T.length+1))=M)(h:W (f ds (o::T)) λp=>∃d o' G,p=(d,o'::(T++G))/\d.und 0=M/\o'.und (T.length+1)=M/\Q (d,o'::T)):W (dX n f ds (o::T)) Q:=by
 refine oD hn g (h.mono ?_);rintro p ⟨d,o',G,rfl,c,b,q⟩;have e:(o'::(T++G)).take (T.length+1)=o'::T:=by simp
 unfold gc;dsimp only[lC1];rw[ak (by rw[e,fE c,bP,b,a];rfl),e];exact q
theorem gr{c:List (Nat×List D)}{g:FG}{b:FS}{Q:Fl×Ev×Sto->Prop}(I:Nat->Ev->Sto->Prop):∀ (items:List D) (k:Nat) (r:Ev) (S:Sto),I k r S ->
  (∀i r S,I i r S->pM S c=M) ->
  (∀i d,items[i]?=Z d -> ∀r S,I (k+i) r S->W (g d r S) λp=>W (b p.1 p.2) λq=>q.1 = .nx/\I (k+i+1) q.2.1 q.2.2) ->
  (∀r S,I (k+items.length) r S->Q (.nx,r,S))->W (k6 c g b items r S) Q
 |[],k,r,S,hi,hok,_,hq=>by rw[k6];dsimp only;rw[ak (hok _ _ _ hi),ew];exact hq r S (by simpa using hi)
 |d::ds,k,r,S,hi,hok,hs,hq=>by
  rw[k6];dsimp only;rw[ak (hok _ _ _ hi),ee];obtain⟨p,j,h1⟩:=hs 0 d O r S (by simpa using hi);refine⟨p,j,?_⟩;dsimp only;rw[ee];obtain⟨⟨f,h,m⟩,l,h2,e⟩:=h1;refine⟨_,l,?_⟩;dsimp only at h2 e ⊢;subst h2;refine gr I ds (k+1) h m (by simpa using e) hok (λi n o r S a=>?_) λr S a=>hq r S (by rw[lC1,show k+(ds.length+1)=k+1+ds.length by lia];exact a);have:=hs (i+1) n (by simpa using o) r S (by rw[show k+(i+1)=k+1+i by lia];exact a);rw[show k+(i+1)+1=k+1+i+1 by lia]at this;exact this
theorem jH{c:List (Nat×List D)}{g:FG}{t:FT}{e:FE}{Q:List D×Ev×Sto->Prop}(I:Nat->List D->Ev->Sto->Prop):∀ (items:List D) (k:Nat) (acc:List D) (r:Ev) (S:Sto),I k acc r S ->
  (∀i acc r S,I i acc r S->pM S c=M) ->
  (∀i d,items[i]?=Z d -> ∀acc r S,I (k+i) acc r S->W (g d r S) λp=>W (t p.1 p.2) λb=>if b.1=M then W (e p.1 b.2) λx=>I (k+i+1) (acc++[x.1]) p.1 x.2 else I (k+i+1) acc p.1 b.2) ->
  (∀xs r S,I (k+items.length) (acc++xs) r S->Q (xs,r,S))->W (fM c g t (eG e) items r S) Q
 |[],k,acc,r,S,hi,hok,_,hq=>by rw[fM];dsimp only;rw[ak (hok _ _ _ _ hi),ew];exact hq [] r S (by simpa using hi)
 |d::ds,k,acc,r,S,hi,hok,hs,hq=>by
  rw[fM];dsimp only;rw[ak (hok _ _ _ _ hi),ee];obtain⟨p,l,h1⟩:=hs 0 d O acc r S (by simpa using hi);refine⟨p,l,?_⟩;dsimp only;rw[ee];obtain⟨⟨b,o⟩,n,h2⟩:=h1;refine⟨_,n,?_⟩;have step:∀i f,ds[i]?=Z f -> ∀acc r S,I (k+1+i) acc r S->W (g f r S) λp=>W (t p.1 p.2) λb=>if b.1=M then W (e p.1 b.2) λx=>I (k+1+i+1) (acc++[x.1]) p.1 x.2 else I (k+1+i+1) acc p.1 b.2:=λi f q acc r S a=>by
   have:=hs (i+1) f (by simpa using q) acc r S (by rw[show k+(i+1)=k+1+i by lia];exact a);rw[show k+(i+1)+1=k+1+i+1 by lia]at this;exact this
  dsimp only at h2 ⊢;cases b with
  |true=>
   rw[ak O]at h2 ⊢;rw[ee,eG,lD];obtain⟨⟨x,j⟩,m,h⟩:=h2;refine⟨_,m,?_⟩;dsimp only at h ⊢;rw[lD];refine jH I ds (k+1) (acc++[x]) p.1 j (by simpa using h) hok step λxs r S a=>?_;refine hq _ r S ?_;rw[lC1,show k+(ds.length+1)=k+1+ds.length by lia];simpa using a
  |false=>
   rw[aj (by decide)]at h2 ⊢;refine jH I ds (k+1) acc p.1 o (by simpa using h2) hok step λxs r S a=>?_;refine hq _ r S ?_;rw[lC1,show k+(ds.length+1)=k+1+ds.length by lia];exact a
theorem EL{S:Sto}{b:Bool}:qB S (.bl b)=Z b:=rfl
theorem Ju{S:Sto}:qB S .non=Z J:=rfl
theorem Jv{S:Sto}{i:Int}:qB S (.int i)=Z (i != 0):=rfl
theorem DF{x y:Int}{S:Sto}:wU (.int x) (.int y) S=Z (.bl (x == y),S):=rfl
theorem JF{x y:Int}{S:Sto}:Hr (.int x) (.int y) S=Z (.bl (!(x == y)),S):=rfl
theorem DC{x y:Int}{S:Sto}:wT (.int x) (.int y) S=Z (.bl (decide (x<y)),S):=rfl
theorem JG{x y:Str}{S:Sto}:wU (.str x) (.str y) S=Z (.bl (x == y),S):=rfl
theorem Dz{x y:Str}{S:Sto}:Hr (.str x) (.str y) S=Z (.bl (!(x == y)),S):=rfl
theorem ite_and'{c p:Prop}[Decidable c]:(if c then p else False)↔c/\p:=by split<;>simp[*]
noncomputable def yT(j:Int):Bool:=decide (-(2^62)<=j)&&decide (j<2^62)
theorem gx{n:Nat}(h:n<2^60):yT n=M:=by
 unfold yT;rw[bA1,al,al];lia
theorem Bq{j:Int}(h: -(2^60)<=j)(h':j<2^60):yT j=M:=by
 unfold yT;rw[bA1,al,al];lia
def HY(p:List D×Sto)(Q:BR×Sto->Prop):Prop:=match p.1 with
 |[.int j]=>yT j=M/\Q (⟨gP 0 j.toNat,[]⟩,p.2)
 |_=>False
def Jy(p:List D×Sto)(Q:BR×Sto->Prop):Prop:=match p.1 with
 |[.int i,.int j]=>yT i=M/\yT j=M/\Q (⟨gP i (j-i).toNat,[]⟩,p.2)
 |_=>False
theorem Es{m:FA}{r:Ev}{S:Sto}{Q:BR×Sto->Prop}:W (vg m r S) Q↔W (m r S) λp=>HY p Q:=by
 unfold vg;rw[ee];constructor
 ·refine λh=>h.mono λp q=>?_;unfold HY;split at q
  ·rename_i j e
   try rw[e]
   rw[qu]at q;split at q
   ·rename_i hc;exact⟨by unfold yT;rw[bA1,al,al];exact hc,ew.mp q⟩
   ·exact(kk.mp q).elim
  ·exact(kk.mp q).elim
 ·refine λh=>h.mono λp q=>?_;unfold HY at q;split at q
  ·rename_i j e;obtain⟨a,b⟩:=q;unfold yT at a;rw[bA1,al,al]at a
   try rw[e]
   try dsimp only
   rw[ak a];exact ew.mpr b
  ·exact q.elim
theorem Jj{m:FA}{r:Ev}{S:Sto}{Q:BR×Sto->Prop}:W (IL m r S) Q↔W (m r S) λp=>Jy p Q:=by
 unfold IL;rw[ee];constructor
 ·refine λh=>h.mono λp q=>?_;unfold Jy;split at q
  ·rename_i i j e
   try rw[e]
   rw[qu]at q;split at q
   ·rename_i hc;refine⟨?_,?_,ew.mp q⟩
    ·unfold yT;rw[bA1,al,al];exact⟨hc.1,hc.2.1⟩
    ·unfold yT;rw[bA1,al,al];exact hc.2.2
   ·exact(kk.mp q).elim
  ·exact(kk.mp q).elim
 ·refine λh=>h.mono λp q=>?_;unfold Jy at q;split at q
  ·rename_i i j e;obtain⟨a,b,c⟩:=q;unfold yT at a b;rw[bA1,al,al]at a b
   try rw[e]
   try dsimp only
   rw[ak ⟨a.1,a.2,b⟩];exact ew.mpr c
  ·exact q.elim
noncomputable def fits(n:Nat):Bool:=decide (n<=dM)
theorem ed{n:Nat}(h:n<=100000):fits n=M:=by unfold fits;rw[al];exact aC h (by decide)
theorem tN{n:Nat}:fits n=M↔n<=dM:=by unfold fits;rw[al]
theorem LF:fits 0=M:=ed (by decide)
theorem LD:fits 1=M:=ed (by decide)
theorem KW:fits 2=M:=ed (by decide)
theorem LC:fits 3=M:=ed (by decide)
theorem LB:fits 4=M:=ed (by decide)
theorem LP:fits 5=M:=ed (by decide)
theorem LO:fits 6=M:=ed (by decide)
theorem LA:fits 7=M:=ed (by decide)
theorem LN:fits 8=M:=ed (by decide)
theorem ik{α:Type}{n:Nat}{o:Option α}{Q:α->Prop}:W (if n<=dM then o else Y) Q↔fits n=M/\W o Q:=by
 rw[tN,qu];split
 ·rename_i h;exact⟨λq=>⟨h,q⟩,λq=>q.2⟩
 ·rename_i h;exact⟨λq=>(kk.mp q).elim,λq=>absurd q.1 h⟩
theorem BC{a:FA}{r:Ev}{S:Sto}{Q:D×Sto->Prop}:W (eS a r S) Q↔W (a r S) λp=>fits p.1.length=M/\Q (.tup p.1,p.2):=by
 unfold eS;rw[ee];exact⟨λh=>h.mono λp q=>(ik.mp q).imp_right ew.mp,λh=>h.mono λp q=>ik.mpr (q.imp_right ew.mpr)⟩
theorem G8{a:FA}{r:Ev}{S:Sto}{Q:D×Sto->Prop}:W (j9 a r S) Q↔W (a r S) λp=>fits p.1.length=M/\Q (.ref p.2.length,p.2++[.lst p.1]):=by
 unfold j9;rw[ee];exact⟨λh=>h.mono λp q=>(ik.mp q).imp_right ew.mp,λh=>h.mono λp q=>ik.mpr (q.imp_right ew.mpr)⟩
theorem rZ{k:Nat}{keep:List Nat}{m:FI}{g:FG}{t:FT}{b:FV}{r:Ev}{S:Sto}{Q:D×Sto->Prop}:W (eW k keep m g t b r S) Q↔W (m r S) λp=>W (fM p.1.chk g t b p.1.items (rL k keep r) p.2) λq=>fits q.1.length=M/\Q (.ref q.2.2.length,q.2.2++[.lst q.1]):=by
 unfold eW;rw[ee];refine⟨λh=>h.mono λp q=>?_,λh=>h.mono λp q=>?_⟩
 ·rw[ee]at q;exact q.mono λz w=>(ik.mp w).imp_right ew.mp
 ·rw[ee];exact q.mono λz w=>ik.mpr (w.imp_right ew.mpr)
theorem Hb{xs ys:List D}{S:Sto}{Q:D×Sto->Prop}:W (gn (.tup xs) (.tup ys) S) Q↔fits (xs.length+ys.length)=M/\Q (.tup (xs++ys),S):=
 ⟨λq=>(ik.mp q).imp_right ew.mp,λq=>ik.mpr (q.imp_right ew.mpr)⟩
theorem Hd{x y:Int}{S:Sto}{Q:D×Sto->Prop}:W (gn (.int x) (.int y) S) Q↔Q (.int (x+y),S):=ew
theorem Hc{a b:Nat}{xs ys:List D}{S:Sto}{Q:D×Sto->Prop}(h1:S[a]?=Z (.lst xs))(h2:S[b]?=Z (.lst ys)):W (gn (.ref a) (.ref b) S) Q↔fits (xs.length+ys.length)=M/\Q (.ref S.length,S++[.lst (xs++ys)]):=by
 rw[gn];simp only[h1,h2];exact⟨λq=>(ik.mp q).imp_right ew.mp,λq=>ik.mpr (q.imp_right ew.mpr)⟩
theorem ug{n:Nat}{v:D}{xs:List D}{S:Sto}{Q:D×Sto->Prop}(h:S[n]?=Z (.lst xs)):W (lZ (.ref n) v S) Q↔fits (xs.length+1)=M/\Q (.non,S.set n (.lst (xs++[v]))):=by
 rw[lZ];simp only[h];rw[qu,tN];split
 ·rename_i a;exact⟨λq=>⟨a,ew.mp q⟩,λq=>ew.mpr q.2⟩
 ·rename_i a;exact⟨λq=>(kk.mp q).elim,λq=>absurd q.1 a⟩
theorem oO{n:Nat}{i:Nat}{xs:List D}{x:D}{S:Sto}{Q:D×Sto->Prop}(h:S[n]?=Z (.lst xs))(hx:xs[i]?=Z x)(q:Q (x,S)):W (d0 (.ref n) (.int i) S) Q:=by
 refine W.of (x:=(x,S)) ?_ q;have a:=(gE1.mp hx).1;simp only[d0,mQ,BP,h,d5,vE,yd,oS1,ak (show(0:Int)<=i by lia)];rw[ak (by lia)];simp[hx]
theorem hV{i:Nat}{xs:List D}{x:D}{S:Sto}{Q:D×Sto->Prop}(hx:xs[i]?=Z x)(q:Q (x,S)):W (d0 (.tup xs) (.int i) S) Q:=by
 refine W.of (x:=(x,S)) ?_ q;have a:=(gE1.mp hx).1;simp only[d0,mQ,BP,d5,vE,yd,oS1,ak (show(0:Int)<=i by lia)];rw[ak (by lia)];simp[hx]
theorem Lv:aP 0 (Y:Option D)=[]:=rfl
theorem Lu:aP 1 (Y:Option D)=[Y]:=rfl
theorem Lh:aP 2 (Y:Option D)=[Y,Y]:=rfl
theorem Lf:aP 3 (Y:Option D)=[Y,Y,Y]:=rfl
theorem LL:aP 4 (Y:Option D)=[Y,Y,Y,Y]:=rfl
theorem Le:aP 5 (Y:Option D)=[Y,Y,Y,Y,Y]:=rfl
theorem LK:aP 6 (Y:Option D)=[Y,Y,Y,Y,Y,Y]:=rfl
theorem LJ:aP 7 (Y:Option D)=[Y,Y,Y,Y,Y,Y,Y]:=rfl
theorem Ld:aP 8 (Y:Option D)=[Y,Y,Y,Y,Y,Y,Y,Y]:=rfl
theorem KJ:aP 9 (Y:Option D)=[Y,Y,Y,Y,Y,Y,Y,Y,Y]:=rfl
theorem Ls:aP 10 (Y:Option D)=[Y,Y,Y,Y,Y,Y,Y,Y,Y,Y]:=rfl
theorem Lr:aP 11 (Y:Option D)=[Y,Y,Y,Y,Y,Y,Y,Y,Y,Y,Y]:=rfl
theorem Lq:aP 12 (Y:Option D)=[Y,Y,Y,Y,Y,Y,Y,Y,Y,Y,Y,Y]:=rfl
theorem Lp:aP 13 (Y:Option D)=[Y,Y,Y,Y,Y,Y,Y,Y,Y,Y,Y,Y,Y]:=rfl
theorem Lo:aP 14 (Y:Option D)=[Y,Y,Y,Y,Y,Y,Y,Y,Y,Y,Y,Y,Y,Y]:=rfl
theorem Ln:aP 15 (Y:Option D)=[Y,Y,Y,Y,Y,Y,Y,Y,Y,Y,Y,Y,Y,Y,Y]:=rfl
theorem Ll:aP 16 (Y:Option D)=[Y,Y,Y,Y,Y,Y,Y,Y,Y,Y,Y,Y,Y,Y,Y,Y]:=rfl
theorem Lk:aP 17 (Y:Option D)=[Y,Y,Y,Y,Y,Y,Y,Y,Y,Y,Y,Y,Y,Y,Y,Y,Y]:=rfl
theorem Lj:aP 18 (Y:Option D)=[Y,Y,Y,Y,Y,Y,Y,Y,Y,Y,Y,Y,Y,Y,Y,Y,Y,Y]:=rfl
theorem Li:aP 19 (Y:Option D)=[Y,Y,Y,Y,Y,Y,Y,Y,Y,Y,Y,Y,Y,Y,Y,Y,Y,Y,Y]:=rfl
theorem Lg:aP 20 (Y:Option D)=[Y,Y,Y,Y,Y,Y,Y,Y,Y,Y,Y,Y,Y,Y,Y,Y,Y,Y,Y,Y]:=rfl
theorem gF{α:Type}{T G:List α}{k:Nat}:(T++G)[T.length+k]?=G[k]?:=by rw[gR1 (by lia)];congr 1;lia
theorem eM{α:Type}{T G:List α}:(T++G)[T.length]?=G[0]?:=by rw[gR1 (by lia)];congr 1;lia
mutual
noncomputable def m5:D->Bool
 | .non=>M
 | .bl _=>M
 | .int i=>decide (i.natAbs<10^6)
 | .str x=>(PyData.str x).leavesShort 13&&decide ((PyData.str x).weight<=20)
 | .tup xs=>lM xs
 | .rol _=>J
 | .fn _=>J
 | .ref _=>J
noncomputable def lM:List D->Bool
 |[]=>M
 |d::ds=>m5 d&&lM ds
end
mutual
noncomputable def ij:D->Nat
 | .tup xs=>jn xs
 | .non=>0 | .bl _=>0 | .int _=>0 | .str _=>0 | .rol _=>0 | .fn _=>0 | .ref _=>0
noncomputable def jn:List D->Nat
 |[]=>0
 |d::ds=>ij d+1+jn ds
end
mutual
noncomputable def o5:D->Nat
 | .tup xs=>mT xs+1
 | .non=>0 | .bl _=>0 | .int _=>0 | .str _=>0 | .rol _=>0 | .fn _=>0 | .ref _=>0
noncomputable def mT:List D->Nat
 |[]=>0
 |d::ds=>max (o5 d) (mT ds)
end
mutual
theorem HS:∀{d:D},m5 d=M -> ∃p,pyD d=Z p/\p.showable=M/\p.leavesShort 13=M/\p.weight+1<=21*(ij d+1)/\p.depth=o5 d
 | .non,_=>⟨.none,by simp only[pyD],by simp only[PyData.showable],by simp only[PyData.leavesShort],by simp only[PyData.weight,ij];lia,by simp only[PyData.depth,o5]⟩
 | .bl b,_=>⟨.bool b,by simp only[pyD],by simp only[PyData.showable],by simp only[PyData.leavesShort],by simp only[PyData.weight,ij];lia,by simp only[PyData.depth,o5]⟩
 | .int i,h=>by
  have h':i.natAbs<10^6:=by simpa only[m5,al]using h
  have c:i.natAbs.log2<20:=by
   by_cases z:i.natAbs=0
   ·rw[z];decide
   ·exact(Nat.log2_lt z).mpr (by lia)
  refine⟨.int i,by simp only[pyD],by simp only[PyData.showable,al];lia,?_,?_,by simp only[PyData.depth,o5]⟩
  ·simp only[PyData.leavesShort,al];exact PyData.shown_int_le (by lia)
  ·simp only[PyData.weight,ij];split<;>lia
 | .str x,h=>by
  have h':(PyData.str x).leavesShort 13=M/\(PyData.str x).weight<=20:=by simpa only[m5,bA1,al]using h
  exact⟨.str x,by simp only[pyD],by simp only[PyData.showable],h'.1,by simp only[ij];have:=h'.2;lia,by simp only[PyData.depth,o5]⟩
 | .tup xs,h=>by
  obtain⟨ps,e,h1,h2,f,a⟩:=uN (ds:=xs) (by simpa only[m5]using h);exact⟨.tuple ps,by simp only[pyD,e,oP1],by simpa only[PyData.showable]using h1,by simpa only[PyData.leavesShort]using h2,by simp only[PyData.weight,ij];lia,by simp only[PyData.depth,o5,a]⟩
 | .rol _,h=>by simp only[m5]at h;cases h
 | .fn _,h=>by simp only[m5]at h;cases h
 | .ref _,h=>by simp only[m5]at h;cases h
theorem uN:∀{ds:List D},lM ds=M -> ∃ps,pyDs ds=Z ps/\PyData.showableAll ps=M/\PyData.leavesShortAll 13 ps=M/\PyData.weightAll ps<=21*jn ds/\PyData.depthAll ps=mT ds
 |[],_=>⟨[],by simp only[pyDs],by simp only[PyData.showableAll],by simp only[PyData.leavesShortAll],by simp only[PyData.weightAll];lia,by simp only[PyData.depthAll,mT]⟩
 |d::ds,h=>by
  simp only[lM,bA1]at h;obtain⟨p,e,h1,h2,j,g⟩:=HS h.1;obtain⟨ps,f,b,a,i,c⟩:=uN h.2;refine⟨p::ps,by simp only[pyDs,e,f,oS1,oP1],by simp only[PyData.showableAll,h1,b,db],by simp only[PyData.leavesShortAll,h2,a,db],?_,by simp only[PyData.depthAll,mT,g,c]⟩;simp only[PyData.weightAll,jn];lia
end
theorem Cj{xs:List D}(h:lM xs=M)(hc:jn xs<=40000)(hd:mT xs<=50):∃t,∀S,oo (.tup xs) S=Z (.str t,S):=by
 obtain⟨ps,e,h1,h2,c,b⟩:=uN h;refine⟨(PyData.tuple ps).shown,λS=>?_⟩;have a:(PyData.tuple ps).showable=M/\(PyData.tuple ps).shown.length<=dM/\(PyData.tuple ps).depth<=60:=
  ⟨by simpa only[PyData.showable]using h1,PyData.shown_fits (B:=13) (by decide) (by decide) (by simpa only[PyData.leavesShort]using h2) (by simp only[PyData.weight];lia),by simp only[PyData.depth];lia⟩
 simp only[oo,e,oS1,ak a]
theorem sw{α:Type}{f:α->D}:∀{l:List α},(∀x∈l,m5 (f x)=M)->lM (l.map f)=M
 |[],_=>by simp only[aZ,lM]
 |x::xs,h=>by simp only[mP1,lM,h x mS1,sw λy a=>h y (mC1 _ a),db]
theorem qj{α:Type}{f:α->D}{k:Nat}:∀{l:List α},(∀x∈l,ij (f x)<=k)->jn (l.map f)<=(k+1)*l.length
 |[],_=>by simp only[aZ,jn];lia
 |x::xs,h=>by
  have h1:=h x mS1;have h2:=qj (l:=xs) λy a=>h y (mC1 _ a);simp only[mP1,jn,lC1,Nat.mul_add];lia
theorem tU{α:Type}{f:α->D}{k:Nat}:∀{l:List α},(∀x∈l,o5 (f x)<=k)->mT (l.map f)<=k
 |[],_=>by simp only[aZ,mT];lia
 |x::xs,h=>by
  have h1:=h x mS1;have h2:=tU (l:=xs) λy a=>h y (mC1 _ a);simp only[mP1,mT];lia
theorem rB:∀(n:Nat) (lo:Int),gP lo n=(af n).map λi:Nat=>D.int (lo+i)
 |0,lo=>rfl
 |n+1,lo=>by
  rw[gP,rB n (lo+1),List.range_succ_eq_map,mP1,bu]
  congr 1
  ·simp
  ·apply de;intro i _;simp only[Function.comp_apply,Nat.succ_eq_add_one]
   congr 1
   push_cast
   lia
theorem mx(n:Nat):gP 0 n=(af n).map λi:Nat=>D.int i:=by
 rw[rB];apply de;intro i _;simp
theorem n3{α:Type}{c:List (Nat×List D)}{g:FG}{t:FT}{e:FE}{S:Sto}{f:α->D}{Q:List D×Ev×Sto->Prop}(F:α->D)(P:Ev->Prop)(d:pM S c=true):∀ (xs:List α) (r:Ev),P r ->
  (∀a∈xs,∀r,P r->W (g (f a) r S) λp=>W (t p.1 p.2) λb=>b.1=M/\W (e p.1 b.2) λx=>x.1=F a/\x.2=S/\P p.1) ->
  (∀i,P i->Q (xs.map F,i,S))->W (fM c g t (eG e) (xs.map f) r S) Q
 |[],r,hr,_,h=>by rw[aZ,fM];dsimp only;rw[ak d,ew];exact h r hr
 |a::xs,r,hr,hs,h=>by
  rw[mP1,fM];dsimp only;rw[ak d,ee];obtain⟨p,m,⟨b,o,l,⟨x,q,u,s,n⟩⟩⟩:=hs a mS1 r hr;refine⟨p,m,?_⟩;dsimp only;rw[ee];refine⟨b,o,?_⟩;dsimp only;rw[ak l,ee,eG,lD];refine⟨x,q,?_⟩;dsimp only;rw[s,lD];refine n3 F P d xs p.1 n (λa k=>hs a (mC1 _ k)) λi j=>?_;have:=h i j;rw[mP1,<- u]at this;exact this
theorem jL{α:Type}{c:List (Nat×List D)}{g:FG}{t:FT}{e:FE}{S:Sto}{f:α->D}{Q:List D×Ev×Sto->Prop}(k:α->Bool)(F:α->D)(P:Ev->Prop)(d:pM S c=true):∀ (xs:List α) (r:Ev),P r ->
  (∀a∈xs,∀r,P r->W (g (f a) r S) λp=>W (t p.1 p.2) λb=>b.1=k a/\b.2=S/\P p.1/\(k a=M->W (e p.1 S) λx=>x.1=F a/\x.2=S)) ->
  (∀j,P j->Q ((xs.filter k).map F,j,S))->W (fM c g t (eG e) (xs.map f) r S) Q
 |[],r,hr,_,h=>by rw[aZ,fM];dsimp only;rw[ak d,ew];exact h r hr
 |a::xs,r,hr,hs,h=>by
  rw[mP1,fM];dsimp only;rw[ak d,ee];obtain⟨p,u,⟨b,v,o,s,q,n⟩⟩:=hs a mS1 r hr;refine⟨p,u,?_⟩;dsimp only;rw[ee];refine⟨b,v,?_⟩;dsimp only;cases hk:k a with
  |true=>
   rw[o,hk,ak O,ee,eG,lD,s];obtain⟨x,w,n,m⟩:=n hk;refine⟨x,w,?_⟩;dsimp only;rw[m,lD];refine jL k F P d xs p.1 q (λa l=>hs a (mC1 _ l)) λj i=>?_;have:=h j i;rw[df,hk,ak O,mP1,<- n]at this;exact this
  |false=>
   rw[o,hk,aj (by decide),s];refine jL k F P d xs p.1 q (λa l=>hs a (mC1 _ l)) λj i=>?_;have:=h j i;rw[df,hk,aj (by decide)]at this;exact this
theorem ue{α:Type}{f:α->Bool}:∀xs:List α,Mi.BA (xs.map λx=>D.bl (f x))=Z (xs.all f)
 |[]=>rfl
 |x::xs=>by rw[mP1,Mi.BA,ue xs];rfl
mutual
theorem EE{n m:Nat}(h:n<=m):∀{d:D},d.und n=M->d.und m=M
 | .non,_=>rfl
 | .bl _,_=>rfl
 | .int _,_=>rfl
 | .str _,_=>rfl
 | .tup xs,q=>by rw[D.und]at q ⊢;exact iK h q
 | .rol xs,q=>by rw[D.und]at q ⊢;exact iK h q
 | .fn _,_=>rfl
 | .ref k,q=>by simp[D.und]at q ⊢;lia
theorem iK{n m:Nat}(h:n<=m):∀{ds:List D},D.unds n ds=M->D.unds m ds=M
 |[],_=>rfl
 |d::ds,q=>by
  rw[D.unds,bA1]at q ⊢;exact⟨EE h q.1,iK h q.2⟩
end
theorem kW{n m:Nat}(h:n<=m):∀{o:Ob},o.und n=M->o.und m=M
 | .lst xs,q=>by rw[Ob.und]at q ⊢;exact iK h q
 | .dct xs,q=>by rw[Ob.und]at q ⊢;exact iK h q
 | .dcT xs,q=>by rw[Ob.und]at q ⊢;exact iK h q
 | .dcF xs,q=>by rw[Ob.und]at q ⊢;exact iK h q
 | .iset _,_=>rfl
 | .tst _,_=>rfl
theorem eR{α:Type}{n:Nat}{f:α->D}:∀{xs:List α},(∀x∈xs,(f x).und n=M)->D.unds n (xs.map f)=M
 |[],_=>rfl
 |x::xs,h=>by rw[mP1,D.unds,h x mS1,eR λy a=>h y (mC1 _ a)];rfl
theorem LH{x:Nat}:x+1+1=x+2:=rfl
theorem LW{x:Nat}:x+2+1=x+3:=rfl
theorem LV{x:Nat}:x+3+1=x+4:=rfl
theorem LU{x:Nat}:x+4+1=x+5:=rfl
theorem LS{x:Nat}:x+5+1=x+6:=rfl
theorem LR{x:Nat}:x+6+1=x+7:=rfl
theorem LG{x:Nat}:x+1+2=x+3:=rfl
theorem jI{xs:List D}{S:Sto}:fv (.tup xs) S=Z (.int xs.length,S):=rfl
theorem JE{xs:List D}{S:Sto}:fv (.rol xs) S=Z (.int xs.length,S):=rfl
theorem IE{S:Sto}:fv (.str "") S=Z (.int 0,S):=rfl
theorem ra{xs:List D}{S:Sto}:d5 S (.tup xs)=Z (J,xs):=rfl
theorem Jx{xs:List D}{S:Sto}:d5 S (.rol xs)=Z (M,xs):=rfl
theorem DN{xs:List D}{S:Sto}:jo S (.tup xs)=[]:=rfl
theorem JJ{xs:List D}{S:Sto}:jo S (.rol xs)=[]:=rfl
theorem iM{n:Nat}{xs:List D}{S:Sto}(h:S[n]?=Z (.lst xs)):d5 S (.ref n)=Z (M,xs):=by simp only[d5,h]
theorem w9{n:Nat}{xs:List D}{S:Sto}(h:S[n]?=Z (.lst xs)):jo S (.ref n)=[(n,xs)]:=by simp only[jo,h]
def sW(S:Sto)(d:D)(Q:List D×List (Nat×List D)->Prop):Prop:=W (d5 S d) λq=>Q (q.2,jo S d)
theorem gO{xs:List D}{S:Sto}{Q:List D×List (Nat×List D)->Prop}:sW S (.tup xs) Q↔Q (xs,[]):=ew
theorem eN{n:Nat}{xs:List D}{S:Sto}{Q:List D×List (Nat×List D)->Prop}(h:S[n]?=Z (.lst xs))(q:Q (xs,[(n,xs)])):sW S (.ref n) Q:=by
 unfold sW;rw[iM h,w9 h,ew];exact q
theorem Ha{m:FE}{r:Ev}{S:Sto}{Q:BR×Sto->Prop}:W (gB m r S) Q↔W (m r S) λp=>sW p.2 p.1 λq=>Q (⟨q.1,q.2⟩,p.2):=by
 unfold gB;rw[ee];refine⟨λh=>h.mono λp q=>?_,λh=>h.mono λp q=>?_⟩
 ·rw[ee]at q;exact q.mono λz w=>ew.mp w
 ·rw[ee];exact W.mono (show W (d5 p.2 p.1) _ from q) λz w=>ew.mpr w
theorem BD{d:D}{S:Sto}{Q:D×Sto->Prop}:W (Mi.gTup d S) Q↔sW S d λq=>Q (.tup q.1,S):=by
 unfold Mi.gTup;rw[lD];exact Iff.rfl
theorem Ji{n:Nat}{S:Sto}{Q:D×Sto->Prop}:W (fv (.ref n) S) Q↔sW S (.ref n) λq=>Q (.int q.1.length,S):=by
 unfold fv sW;rw[lD]
noncomputable def pD(e:Nat×Nat):D:=.tup [.int e.1,.int e.2]
theorem GS{S:Sto}{n:Nat}{a b:Nat×Nat}:fW S (n+2) (pD a) (pD b)=Z (a == b):=by
 obtain⟨a1,a2⟩:=a;obtain⟨b1,b2⟩:=b;rw[fW];have d:∀x y:Nat,fW S (n+1) (.int x) (.int y)=Z ((x:Int) == (y:Int)):=λx y=>rfl;have c:∀x y:Nat,((x:Int) == (y:Int))=(x == y):=λx y=>by
  rw[bQ,beq_iff_eq,beq_iff_eq];lia
 simp[pD,d5,ll,d,c];rfl
theorem wW{S:Sto}{n:Nat}{e:Nat×Nat}:∀b:List (Nat×Nat),yw (fW S (n+2)) (pD e) (b.map pD)=Z (b.map λa=>a == e)
 |[]=>rfl
 |a::b=>by rw[mP1,yw,GS,wW b];rfl
theorem G9{S:Sto}{n j:Nat}{row:List (Nat×Nat)}{e:Nat×Nat}{Q:D×Sto->Prop}(h:S[n]?=Z (.lst (row.map pD)))(b:row.length<1000)(a:row.findIdx? (· == e)=Z j)(q:Q (.int j,S)):W (AY (.ref n) (pD e) S) Q:=by
 refine W.of ?_ q;unfold AY eO;simp only[h,show(60:Nat)=58+2 from rfl,wW,oS1,lM1];rw[ak (by lia),List.findIdx?_map];simp[Function.comp_def,a]
theorem Er{S:Sto}{n k:Nat}{xs:List D}{v:D}{Q:D×Sto->Prop}(h:S[n]?=Z (.lst xs))(hk:k<=xs.length)(a:xs.length<1000)(q:Q (.non,S.set n (.lst (xs.take k++v::xs.drop k)))):W (yr (.ref n) (.int k) v S) Q:=by
 refine W.of ?_ q;have hi:rH xs.length k=k:=by
  unfold rH;rw[aj (by lia),Int.toNat_natCast];lia
 have b:xs.length<dM:=nL1 a (by decide);simp only[yr,h,hi];rw[ak ⟨by lia,by lia,b⟩]
theorem lE{f:FN}{o:FE}{a:FA}{r:Ev}{S:Sto}{Q:D×Sto->Prop}(h:W (o r S) λp=>∃n xs,p.1 = .ref n/\p.2[n]?=Z (.lst xs)/\W (a r p.2) λq=>W (f (.ref n::q.1) q.2) Q):W (tm f o a r S) Q:=by
 unfold tm;rw[ee];refine h.mono ?_;rintro⟨d,b⟩ ⟨n,xs,rfl,e,q⟩;dsimp only at e q ⊢;rw[e];dsimp only;rw[ee];exact q
noncomputable def sD(row:List (Nat×Nat)):Ob:=.lst (row.map pD)
structure WS (t m:Nat)(T:Sto)(E:List (List (Nat×Nat)))(P:List (Nat×Nat))(U:Sto):Prop where
 tl:T.length=t
 low:U.take t=T
 el:E.length=m
 row:∀i row,E[i]?=some row->U[t+i]?=some (sD row)
 ends:U[t+m]?=some (.lst (j7 (t+1) m))
 prs:U[t+m+1]?=some (.lst (P.map pD))
theorem WS.app{t m:Nat}{T:Sto}{E:List (List (Nat×Nat))}{P:List (Nat×Nat)}{U G:Sto}(w:WS t m T E P U):WS t m T E P (U++G):=by
 have b:t+m+1<U.length:=(gE1.mp w.prs).1;refine⟨w.tl,?_,w.el,λi a h=>?_,?_,?_⟩
 ·rw[List.take_append_of_le_length (by omega)];exact w.low
 ·have:=w.row i a h;rw[gL1 (gE1.mp this).1];exact this
 ·rw[gL1 (by omega)];exact w.ends
 ·rw[gL1 (by omega)];exact w.prs
theorem WS.setRow{t m i:Nat}{T:Sto}{E:List (List (Nat×Nat))}{P:List (Nat×Nat)}{U:Sto}{row:List (Nat×Nat)}(w:WS t m T E P U)(hi:i<m):WS t m T (E.set i row) P (U.set (t+i) (sD row)):=by
 have b:t+m+1<U.length:=(gE1.mp w.prs).1;refine⟨w.tl,?_,by rw[aW];exact w.el,λj a h=>?_,?_,?_⟩
 ·rw[List.take_set_of_le (by lia)];exact w.low
 ·by_cases e:i=j
  ·subst e;rw[aI (by rw[w.el];exact hi)]at h;cases h;rw[aI (by lia)]
  ·rw[gS1 e]at h;rw[gS1 (by lia)];exact w.row j a h
 ·rw[gS1 (by lia)];exact w.ends
 ·rw[gS1 (by lia)];exact w.prs
theorem WS.setPrs{t m:Nat}{T:Sto}{E:List (List (Nat×Nat))}{P P':List (Nat×Nat)}{U:Sto}(w:WS t m T E P U):WS t m T E P' (U.set (t+m+1) (.lst (P'.map pD))):=by
 have b:t+m+1<U.length:=(gE1.mp w.prs).1;refine⟨w.tl,?_,w.el,λj a h=>?_,?_,?_⟩
 ·rw[List.take_set_of_le (by lia)];exact w.low
 ·have c:j<m:=by rw[<- w.el];exact(gE1.mp h).1
  rw[gS1 (by lia)];exact w.row j a h
 ·rw[gS1 (by lia)];exact w.ends
 ·rw[aI (by lia)]
theorem WS.split{t m:Nat}{T:Sto}{E:List (List (Nat×Nat))}{P:List (Nat×Nat)}{U:Sto}(w:WS t m T E P U):U=T++U.drop t:=by
 conv=>lhs;rw[<- cG t U,w.low]
theorem rh:∀{k n i:Nat},i<k->(j7 n k)[i]?=Z (.ref (n+i))
 |k+1,n,0,_=>rfl
 |k+1,n,i+1,h=>by rw[j7,gC1,rh (Nat.lt_of_succ_lt_succ h),show n+1+i=n+(i+1) by lia]
theorem kQ:∀k n:Nat,(j7 n k).length=k
 |0,_=>rfl
 |k+1,n=>by rw[j7,lC1,kQ]
noncomputable def tot(E:List (List (Nat×Nat))):Nat:=(E.map List.length).sum
theorem qC:∀{E:List (List (Nat×Nat))} {i:Nat} {row row':List (Nat×Nat)},E[i]?=Z row->tot (E.set i row')+row.length=tot E+row'.length
 |[],i,_,_,h=>by simp at h
 |a::E,0,row,row',h=>by simp at h;subst h;simp[tot];lia
 |a::E,i+1,row,row',h=>by
  have:=qC (E:=E) (i:=i) (row:=row) (row':=row') (by simpa using h);simp[tot]at this ⊢;lia
theorem zd:∀{E:List (List (Nat×Nat))} {k:Nat},k<=E.length->(∀i b,i<k->E[i]?=Z b->4<=b.length)->4*k<=tot E
 |E,0,_,_=>by lia
 |[],k+1,h,_=>by simp at h
 |a::E,k+1,h,q=>by
  have h1:=q 0 a (by lia) O;have h2:=zd (E:=E) (k:=k) (by simpa using h) λi b hi c=>q (i+1) b (by lia) (by simpa using c);simp[tot]at h2 ⊢;lia
noncomputable def fA(rs:List Nat):List D:=rs.map λi:Nat=>D.int i
theorem lU(rs:List Nat):(fA rs).length=rs.length:=by simp[fA]
theorem u6(rs:List Nat):D.unds 0 (fA rs)=M:=eR λ_ _=>rfl
abbrev Wk:=Nat×Nat×Nat
noncomputable def gZ(w:Wk):D:=.tup [.int w.1,.int w.2.1,.int w.2.2]
noncomputable def eU(ws:List Wk):List D:=ws.map gZ
theorem ku(ws:List Wk):(eU ws).length=ws.length:=by simp[eU]
theorem m4(ws:List Wk):D.unds 0 (eU ws)=M:=eR λ_ _=>rfl
noncomputable def eh(ws:List Wk)(cs:List Nat):D:=.tup [.tup (eU ws),.tup (fA cs)]
theorem lI{ws:List Wk}{cs:List Nat}:(eh ws cs).und 0=M:=by simp[eh,D.und,D.unds,m4,u6]
noncomputable def gl(a b c d:Bool):List D:=(if a then[.str "came"]else[])++(if b then[.str "chalk"]else[])++(if c then[.str "doors"]else[])++(if d then[.str "others"]else[])
theorem A4 {xs:List D}(h:xs.Sublist [.str "came",.str "chalk",.str "doors",.str "others"]):∃a b c d,xs=gl a b c d:=by
 have one:∀{x:D} {l ys:List D},ys.Sublist (x::l) -> ∃(a:Bool) (zs:List D),zs.Sublist l/\ys=(if a then[x]else[])++zs:=by
  intro x l ys h;cases h with
  |cons _ h=>exact⟨J,ys,h,O⟩
  |cons_cons _ h=>exact⟨M,_,h,O⟩
 obtain⟨a,k,h1,rfl⟩:=one h;obtain⟨b,j,h2,rfl⟩:=one h1;obtain⟨c,i,e,rfl⟩:=one h2;obtain⟨d,f,g,rfl⟩:=one e;have:f=[]:=List.eq_nil_of_sublist_nil g;subst this;exact⟨a,b,c,d,by simp[gl]⟩
theorem A5(a b c d:Bool):(gl a b c d).length<=4:=by cases a<;>cases b<;>cases c<;>cases d<;>decide
theorem ox(a b c d:Bool):D.unds 0 (gl a b c d)=M:=by cases a<;>cases b<;>cases c<;>cases d<;>rfl
theorem Dv{a b c d:Bool}{S:Sto}:iV (.str "came") (.tup (gl a b c d)) S=Z (.bl a,S):=by cases a<;>cases b<;>cases c<;>cases d<;>rfl
theorem AN{a b c d:Bool}{S:Sto}:iV (.str "chalk") (.tup (gl a b c d)) S=Z (.bl b,S):=by cases a<;>cases b<;>cases c<;>cases d<;>rfl
theorem AM{a b c d:Bool}{S:Sto}:iV (.str "doors") (.tup (gl a b c d)) S=Z (.bl c,S):=by cases a<;>cases b<;>cases c<;>cases d<;>rfl
theorem yo{a b c d:Bool}{S:Sto}:iV (.str "others") (.tup (gl a b c d)) S=Z (.bl d,S):=by cases a<;>cases b<;>cases c<;>cases d<;>rfl
theorem AO{S:Sto}{n:Nat}{x:Nat}:∀a:List Nat,BO (fW S (n+1)) (.int x) (fA a)=Z (a.contains x)
 |[]=>rfl
 |c::a=>by
  have d:fW S (n+1) (.int c) (.int x)=Z ((c:Int) == (x:Int)):=rfl;have b:((c:Int) == (x:Int))=(x == c):=by
   rw[bQ,beq_iff_eq,beq_iff_eq];lia
  have ih:=AO (S:=S) (n:=n) (x:=x) a;rw[fA,mP1,BO,d,b];rw[fA]at ih;rw[ih,List.contains_cons];rfl
theorem Ef{S:Sto}{x:Nat}{cs:List Nat}:iV (.int x) (.tup (fA cs)) S=Z (.bl (cs.contains x),S):=by
 simp only[iV,vm,Hs,d5,oS1,eO,show(60:Nat)=59+1 from rfl,AO,oP1]
noncomputable def uO(a b c d:Bool)(came chalk doors others:Int):D:=.tup [if a then .int came else .non,if b then .int chalk else .non,if c then .int doors else .non,if d then .int others else .non]
theorem xI{a b c d:Bool}{w x y z:Int}:(uO a b c d w x y z).und 0=M:=by cases a<;>cases b<;>cases c<;>cases d<;>rfl
theorem AD{κ:Type}[DecidableEq κ]{k:κ}:d3 ([]:List (κ×D)) k=Y:=rfl
theorem fc{κ:Type}[DecidableEq κ]{k a:κ}{d:D}{r:List (κ×D)}:d3 ((a,d)::r) k=if a=k then Z d else d3 r k:=by
 unfold d3;rw[bc];by_cases h:a=k
 ·simp[h]
 ·simp[h]
theorem tw{κ:Type}[DecidableEq κ]{k:κ}{b:List (κ×D)}:∀{a:List (κ×D)},d3 (a++b) k=(d3 a k).or (d3 b k)
 |[]=>rfl
 |(x,d)::a=>by
  rw[bj,fc,fc,tw (a:=a)];split<;>rfl
theorem lW{κ:Type}[DecidableEq κ]{k:κ}:∀{a:List (κ×D)},(a.any λp=>decide (p.1=k))=J->d3 a k=Y
 |[],_=>rfl
 |(x,d)::a,h=>by
  simp only[bd,Bool.or_eq_false_iff,decide_eq_false_iff_not]at h;rw[fc,aj h.1];exact lW h.2
theorem lV{κ:Type}[DecidableEq κ]{k k':κ}{v:D}:∀{a:List (κ×D)},(a.any λp=>decide (p.1=k))=M->d3 (a.map λp=>if p.1=k then(p.1,v)else p) k'=if k'=k then Z v else d3 a k'
 |[],h=>by simp at h
 |(x,d)::a,h=>by
  rw[mP1];by_cases f:x=k
  ·subst f;rw[ak (show(x,d).1=x from rfl)];rw[fc,fc];by_cases e:k'=x
   ·subst e;simp
   ·rw[aj (Ne.symm e),aj (Ne.symm e),aj e];by_cases g:(a.any λp=>decide (p.1=x))=M
    ·rw[lV g,aj e]
    ·have:(a.map fun p=>if p.1=x then (p.1,v) else p)=a:=by
      have b:(a.any λp=>decide (p.1=x))=J:=Bool.eq_false_iff.mpr g;rw[List.any_eq_false]at b
      conv=>rhs;rw[<- List.map_id a]
      apply de;intro p i;have:=b p i;simp at this;simp[this]
     rw[this]
  ·simp only[bd,ai f,Bool.false_or]at h;rw[aj (show¬ (x,d).1=k from f)];rw[fc,fc,lV h];by_cases c:x=k'
   ·subst c;simp[f]
   ·simp[c]
theorem tu{κ:Type}[DecidableEq κ]{k k':κ}{v:D}{a:List (κ×D)}:d3 (fm a k v) k'=if k'=k then Z v else d3 a k':=by
 unfold fm;split
 ·rename_i h;exact lV h
 ·rename_i h;have h':(a.any λp=>decide (p.1=k))=J:=Bool.eq_false_iff.mpr h;rw[tw,fc,AD];by_cases b:k'=k
  ·subst b;rw[lW h',ak O];rfl
  ·rw[aj (Ne.symm b),aj b];cases d3 a k'<;>rfl
theorem v9{κ:Type}[DecidableEq κ]{k:κ}{v:D}{a:List (κ×D)}:(fm a k v).length<=a.length+1:=by
 unfold fm;split
 ·rw[lM1];lia
 ·rw[lA1];simp
theorem Fe{κ:Type}[DecidableEq κ]{k:κ}{v:D}{a:List (κ×D)}:fm a k v≠[]:=by
 unfold fm;split
 ·rename_i h;intro z;cases a with
  |nil=>simp at h
  |cons x xs=>simp at z
 ·simp
noncomputable def dO(F:List (TK×D)):Ob:=if F=[]then .dct []else .dcT F
theorem G6{U:Sto}{n i:Nat}{xs:List D}{x:D}{Q:D×Sto->Prop}(h:U[n]?=Z (.lst xs))(hx:xs[i]?=Z x)(hb:i<1000)(q:Q (x,U.set n (.lst (xs.eraseIdx i)))):W (AW (.ref n) (.int i) U) Q:=by
 have a:=(gE1.mp hx).1;refine W.of ?_ q;simp only[AW,h];rw[ak ⟨by lia,by lia⟩];simp only[yd,ak (show(0:Int)<=i by lia)];rw[ak (by lia)];simp[hx]
theorem vj{d:D}{S G:Sto}(hd:d.und 0=M)(a:S.all (Ob.und S.length)=M):gc S.length (d,S++G)=(d,S):=by
 unfold gc;dsimp only;rw[da,ak (by rw[fE hd,a];rfl)]
theorem AV{d:D}{S V:Sto}(hd:d.und 0=M)(a:S.all (Ob.und S.length)=M)(hp:S <+: V):gc S.length (d,V)=(d,S):=by
 obtain⟨G,rfl⟩:=hp;exact vj hd a
theorem BB{m:FA}{r:Ev}{S:Sto}{xs ys:List D}{n:Nat}{Q:BR×Sto->Prop}(hm:m r S=Z ([.tup xs,.ref n],S))(hn:S[n]?=Z (.lst ys))(q:Q (⟨uw xs ys,[(n,ys)]⟩,S)):W (GN m r S) Q:=by
 refine W.of (x:=(⟨uw xs ys,[(n,ys)]⟩,S)) ?_ q;simp only[GN,hm,oS1,ra,iM hn,DN,w9 hn,cW]
theorem uv{α:Type}{f g:α->D}:∀l:List α,uw (l.map f) (l.map g)=l.map λx=>D.tup [f x,g x]
 |[]=>rfl
 |a::l=>by rw[mP1,mP1,uw,uv l];rfl
theorem Gi{ns:List Int}{k:Int}:k∈ddI ns↔k∈ns:=by
 have key:∀(ns a:List Int),k∈ns.foldl step_dedup a↔k∈a\/k∈ns:=by
  intro ns
  induction ns with
  |nil=>intro a;simp
  |cons n ns ih=>
   intro a;rw[b9,ih];have:k∈step_dedup a n↔k∈a\/k=n:=by
    unfold step_dedup;split
    ·rename_i h;obtain⟨x,b,e⟩:=bR.mp h;have e:=beq_iff_eq.mp e;subst e;constructor
     ·exact .inl
     ·rintro(z|z)
      ·exact z
      ·rw[z];exact b
    ·simp
   rw[this,aF,or_assoc]
 unfold ddI;rw[key];simp
theorem Cc{xs:List Nat}{m:Nat}{f:Nat->Bool}(h:∀r,r∈xs↔r<m/\f r=M):kE (ddI (xs.map λ(r:Nat)=>(r:Int)))=((af m).filter f).map λ(r:Nat)=>(r:Int):=by
 refine ri ?_ (nD _) ?_
 ·refine(iL _).trans ?_;refine(List.perm_ext_iff_of_nodup (tZ _ [] bo) ?_).mpr λk=>?_
  ·refine dg.mpr ((List.nodup_range.filter f).imp λb z=>b (by lia))
  ·show k∈ddI _↔_;rw[Gi,cc,cc];constructor
   ·rintro⟨r,a,rfl⟩;exact⟨r,aA.mpr ⟨aB.mpr ((h r).mp a).1,((h r).mp a).2⟩,O⟩
   ·rintro⟨r,a,rfl⟩;obtain⟨h1,h2⟩:=aA.mp a;exact⟨r,(h r).mpr ⟨aB.mp h1,h2⟩,O⟩
 ·refine dg.mpr ((List.pairwise_lt_range.sublist List.filter_sublist).imp λc=>by lia)
theorem Ds(xs:List Nat):oi (fA xs)=Z (xs.map λ(r:Nat)=>(r:Int)):=by
 induction xs with
 |nil=>rfl
 |cons x xs ih=>
  show(oi (fA xs)).map _=_;rw[ih];rfl
end Mi
end
local macro_rules | `(tactic| walk_at"w") => `(tactic| simp only[Mi.ew, Mi.kk, Mi.ite_and', Mi.ee, Mi.lD, Mi.qu, Mi.eA, Mi.eE, Mi.g0, Mi.e0, Mi.fV, Mi.pT, Mi.mN, Mi.dV, Mi.dW, Mi.m2, Mi.mV, Mi.mC, Mi.BC, Mi.G8, Mi.mB, Mi.x9, Mi.Ee, Mi.oW, Mi.gg, Mi.wx, Mi.Ay, Mi.fB, Mi.C9, Mi.EL, Mi.gN, Mi.gT, Mi.gj, Mi.lG, Mi.gS, Mi.b1, Mi.b2, Mi.b3, Mi.gY, Mi.gM, Mi.rZ, Mi.Es, Mi.Jj, Mi.HY, Mi.Jy, Mi.jg, Mi.rL, Mi.Hb, Mi.Hd, Mi.gSub, Mi.iD, Mi.oZ, Mi.DF, Mi.DC, Mi.Dz, Mi.LF, Mi.LD, Mi.KW, Mi.LC, Mi.LB, Mi.LA, true_and, Mi.gF, Mi.eM, bH, lA1, di, gC1, List.getElem?_nil, c5, c7, lC1, bf, mP1, aZ, Mi.Lv, Mi.Lu, Mi.Lh, Mi.Lf, Mi.Le, Mi.Ld, Mi.KJ, cW, bj, aN, Nat.reduceAdd, Nat.reduceSub, Option.join_some, Option.join_none, oP1, Option.map_none, oS1, Option.bind_none, if_true, if_false, bF1, b5, ci, ite_true, ite_false, reduceIte, decide_true, decide_false, Mi.LH, Mi.LG, Mi.jI, Mi.ra, Mi.Ha, Mi.BD, Mi.Ji])
noncomputable section
namespace Law
open PySem PySem.Spec PyProof.Rows L2 Mi
noncomputable def top (i:Nat):dS:=PySem.Challenge.pw_ringmeet_k33_marking_first.main.body.getD i (.Pass ⟨0,0,0,0⟩)
abbrev BL:List Str:=["all","bool","dict","int","isinstance","len","list","max","min","range","repr","set","sorted","str","tuple","zip"]
noncomputable def hH:D:=(D.tup [(D.tup [(D.str "came"),(D.int 5)]),(D.tup [(D.str "chalk"),(D.int 2)]),(D.tup [(D.str "doors"),(D.int 5)]),(D.tup [(D.str "others"),(D.int 2)])])
noncomputable def rS:D:=(D.tup [(D.str "leave"),(D.str "mark"),(D.str "wipe")])
noncomputable def iX:D:=(D.int 4000)
noncomputable def hI:D:=(D.int 4000)
noncomputable def nj:D:=(D.int 4)
section
variable{P:dG}{w:dI}{K:Fg1}{mg:Str->Option dD}{base h:dQ}(X:K.In h) (G:h.Ns dJ mg) (B:Blt BL mg)
include X G B
abbrev nI:dS:=top 1
noncomputable def oG:FS:=(e0 (gg (ka .int (mV 0)) (wx (ka .bool (mV 0)))))
noncomputable def iT:FN:=gY 1 oG
theorem sO {f:dF}(F:eF K "is_whole" nI f):
  fi P w K mg base 1 "is_whole" 1 iT:=xq ["thing"] X G F λa=>
 (qG (qU (fq (ii xv) (fQ (BY (ii xv))))))
abbrev jS:dS:=top 3
noncomputable def j5:FS:=(e0 (gg (ka .tuple (mV 0)) (m2 (b2 wU) (mN (b1 fv) (dV (mV 0) dW)) (mV 1))))
noncomputable def ev:FN:=gY 2 j5
theorem nX {f:dF}(F:eF K "is_tuple_of" jS f):
  fi P w K mg base 1 "is_tuple_of" 2 ev:=xq ["thing","many"] X G F λa=>
 (qG (qU (fq (ii xv) (fQ (ce (oq sY) (cn fL (a1 xv)) xv)))))
abbrev mf:dS:=top 4
noncomputable def mI:FS:=(e0 (mN (b1 vo) (dV (eW 1 [0] (vg (dV (m2 (b2 gSub) (mN (b1 fv) (dV (mV 0) dW)) (mC (D.int 1))) dW)) (gN 0) fB (eG (m2 (b2 wT) (m2 (b2 d0) (mV 1) (mV 0)) (m2 (b2 d0) (mV 1) (m2 (b2 gn) (mV 0) (mC (D.int 1))))))) dW)))
noncomputable def fG:FN:=gY 1 mI
theorem rp {f:dF}(F:eF K "is_rising" mf f):
  fi P w K mg base 1 "is_rising" 1 fG:=xq ["things"] X G F λa=>
 (qG (qU (cn (xf O) (a1 (fk ["at"] (ir (a1 (qI wp (cn fL (a1 xv)) qK))) ⟨gq,eL,(ce (oq nY) (jq xv xv) (jq xv (qI gk xv qK)))⟩)))))
abbrev sC:dS:=top 13
noncomputable def Bv:FS:=(e0 (gg (ka .str (mV 0)) (m2 (b2 iV) (mV 0) (eW 2 [] (gB (mC hH)) (gT 2 (gj (gN 0) (gj (gN 1) lG))) fB (eG (mV 0))))))
noncomputable def n4:FN:=gY 1 Bv
theorem xT {f:dF}(F:eF K "is_eye" sC f)(a:CGl K mg "PARTS" hH):
  fi P w K mg base 1 "is_eye" 1 n4:=xq ["thing"] X G F λb=>
 (qG (qU (fq (ii xv) (fQ (ce (oq mw) xv (fk ["eye","many"] (qd (fZ a O)) ⟨(tg2 gq gq),eL,xv⟩) (by with_unfolding_all rfl))))))
abbrev pB:dS:=top 19
noncomputable def yL:FS:=(e0 (gg (ka .str (mV 0)) (m2 (b2 iV) (mV 0) (mC rS))))
noncomputable def jG:FN:=gY 1 yL
theorem uZ {f:dF}(F:eF K "is_hand" pB f)(a:CGl K mg "HANDS" rS):
  fi P w K mg base 1 "is_hand" 1 jG:=xq ["thing"] X G F λb=>
 (qG (qU (fq (ii xv) (fQ (ce (oq mw) xv (fZ a O) (by with_unfolding_all rfl))))))
abbrev sx:dS:=top 20
noncomputable def uW:FS:=(eA (eE (Ay (mB (m2 (b2 iV) (mV 2) (mV 0))) (x5 (dV (mV 3) dW)) (j9 (dV (mC D.non) dW))) (gN 4))
  (eE (eW 2 [4] (gB (mV 1)) (gN 0) fB (A3 (gB (mV 2)) (gN 1) fB (eG (m2 (b2 gn) (mV 0) (eS (dV (mV 1) dW)))))) (gN 1)))
noncomputable def Bt:FS:=(eA (eE (j9 (dV (eS dW) dW)) (gN 1))
  (eA (jg (gB (mC hH)) (gT 2 (gj (gN 2) (gj (gN 3) lG))) uW)
  (e0 (mN (b1 gTup) (dV (mV 1) dW)))))
noncomputable def je:FN:=gY 5 Bt
theorem xQ {f:dF}(F:eF K "sights" sx f)(a:CGl K mg "PARTS" hH):
  fi P w K mg base 1 "sights" 1 je:=xq ["eyes","found","eye","many","parts"] X G F λb=>
 (qF (sq (gE (a1 (d8 qN)))) (qF (fo (qd (fZ a O)) (tg2 gq gq) (qF (sq (uB (ct (oq mw) xv xv (by with_unfolding_all rfl)) (nv O O (bz B) O (bz B) (a1 xv)) (gE (a1 fY)))) (qG (xu 1 O (T:=["sight","part"]) (keep:=[4]) ⟨O,by decide+kernel,(kc "parts" (cO _))⟩ O (qd xv) (λ_ _ _=>⟨gq,eL,(qd xv),gq,eL,(qI gk xv (d8 (a1 xv)))⟩) (jd O) O (by first|exact Or.inl rfl|exact Or.inr rfl))))) (qG (qU (cz fC (a1 xv))))))
abbrev nH:dS:=top 23
noncomputable def oF:FS:=(eA (eE (mV 0) (gT 2 (gj (gT 2 (gj (gN 1) (gj (gN 2) lG))) (gj (gT 3 (gj (gN 3) (gj (gN 4) (gj (gN 5) lG)))) lG))))
  (e0 (eS (dV (eS (dV (m2 (b2 gn) (mV 1) (mC (D.int 1))) (dV (mV 2) dW))) (dV (eS (dV (m2 (b2 gn) (mV 3) (mC (D.int 1))) (dV (mV 4) (dV (mV 5) dW)))) dW)))))
noncomputable def fT:FN:=gY 6 oF
theorem sN {f:dF}(F:eF K "moods_on" nH f):
  fi P w K mg base 1 "moods_on" 1 fT:=xq ["row","mood","sight","behind","hand","step"] X G F λa=>
 (qF (qR xv (tg2 (tg2 gq gq) (jx O (eH gq (eH gq (eH gq il)))))) (qG (qU (d8 (a2 (d8 (a2 (qI gk xv qK) xv)) (d8 (a3 (qI gk xv qK) xv xv)))))))
abbrev mi:dS:=top 25
noncomputable def jt:FS:=(eA (eE (mC (D.int 0)) (gN 2))
  (eA (g0 (mB (m2 (b2 wT) (mV 1) (mN (b1 fv) (dV (mV 0) dW)))) (eE (m2 (b2 d0) (mV 0) (mV 1)) (gN 2)) pT)
  (eA (eE (m2 (b2 jP) (m2 (b2 lg) (mV 2) (m2 (b2 jP) (m2 (b2 vk) (mC (D.int 10)) (mC (D.int 60))) (m2 (b2 vk) (mC (D.int 10)) (mC (D.int 30))))) (mN (b1 oZ) (dV (m2 (b2 (iD λi j=>decide (j<=i))) (mV 2) (m2 (b2 vk) (mC (D.int 10)) (mC (D.int 18)))) dW))) (gN 3))
  (e0 (j9 (dV (mV 3) (dV (m2 (b2 lg) (m2 (b2 gn) (m2 (b2 gn) (m2 (b2 lg) (mV 2) (mC (D.int 2305843009213693951))) (m2 (b2 jP) (mC (D.int 7919)) (mV 1))) (mC (D.int 3))) (mC (D.int 2305843009213693951))) (dV (mC (D.int 0)) dW))))))))
noncomputable def fH:FN:=gY 4 jt
theorem rr {f:dF}(F:eF K "_law_hand" mi f):
  fi P w K mg base 1 "_law_hand" 2 fH:=xq ["_law_script","_law_k","_law_cell","_law_great"] X G F λa=>
 (qF (sq qK) (qF (qV (ct (oq nY) xv (cn fL (a1 xv))) (qG (sq (jq xv xv))) qQ) (qF (sq (qI kX (qI ms xv (qI kX (qI zZ qK qK) (qI zZ qK qK))) (cz xb (a1 (ce Kj xv (qI zZ qK qK)))))) (qG (qU (gE (a3 xv (qI ms (qI gk (qI gk (qI ms xv qK) (qI kX qK xv)) qK) qK) qK)))))))
abbrev mh:dS:=top 26
noncomputable def js:FS:=(eA (g0 (mB (m2 (b2 (iD fun i j=>decide (j<i))) (m2 (b2 d0) (mV 0) (mC (D.int 0))) (mC (D.int 0)))) (eA (eE (m2 (b2 lg) (m2 (b2 d0) (mV 0) (mC (D.int 0))) (mV 1)) (gN 2))
  (eA (eE (m2 (b2 vn) (m2 (b2 d0) (mV 0) (mC (D.int 0))) (mV 1)) (gS (b3 jl) (mV 0) (mC (D.int 0))))
  (e0 (mV 2)))) pT)
  (eA (eE (m2 (b2 gn) (m2 (b2 d0) (mV 0) (mC (D.int 2))) (mC (D.int 1))) (gS (b3 jl) (mV 0) (mC (D.int 2))))
  (eA (eE (m2 (b2 lg) (m2 (b2 jP) (m2 (b2 gn) (m2 (b2 gn) (m2 (b2 d0) (mV 0) (mC (D.int 1))) (m2 (b2 jP) (m2 (b2 jP) (mC (D.int 65537)) (m2 (b2 d0) (mV 0) (mC (D.int 2)))) (m2 (b2 d0) (mV 0) (mC (D.int 2))))) (mC (D.int 11))) (mC (D.int 48271))) (mC (D.int 2305843009213693921))) (gN 3))
  (eA (eE (m2 (b2 lg) (m2 (b2 jP) (mV 3) (m2 (b2 gn) (m2 (b2 lg) (mV 3) (mC (D.int 1000003))) (m2 (b2 jP) (mC (D.int 99991)) (m2 (b2 d0) (mV 0) (mC (D.int 2)))))) (mC (D.int 2305843009213693907))) (gN 3))
  (e0 (m2 (b2 lg) (m2 (b2 gn) (m2 (b2 vn) (mV 3) (mC (D.int 97))) (m2 (b2 vn) (mV 3) (mC (D.int 1000033)))) (mV 1)))))))
noncomputable def dY:FN:=gY 4 js
theorem rq {f:dF}(F:eF K "_law_take" mh f):
  fi P w K mg base 1 "_law_take" 2 dY:=xq ["_law_hand_here","_law_many","_law_digit","_law_mixed"] X G F λa=>
 (qF (qV (ct z7 (jq xv qK) qK) (qF (sq (qI ms (jq xv qK) xv)) (qF (qR (qI z8 (jq xv qK) xv) (m3 xv qK (rf a.units))) (qG (qU xv)))) qQ) (qF (qR (qI gk (jq xv qK) qK) (m3 xv qK (rf a.units))) (qF (sq (qI ms (qI kX (qI gk (qI gk (jq xv qK) (qI kX (qI kX qK (jq xv qK)) (jq xv qK))) qK) qK) qK)) (qF (sq (qI ms (qI kX xv (qI gk (qI ms xv qK) (qI kX qK (jq xv qK)))) qK)) (qG (qU (qI ms (qI gk (qI z8 xv qK) (qI z8 xv qK)) xv)))))))
abbrev nP:dS:=top 28
noncomputable def oM:FS:=(eA (eE (m2 (b2 d0) (m2 (b2 d0) (mV 1) (m2 (b2 d0) (mV 2) (mC (D.int 0)))) (m2 (b2 gSub) (mC (D.int 1)) (m2 (b2 d0) (mV 2) (mC (D.int 1))))) (gN 3))
  (e0 (eS (dV (mV 3) (dV (tm (b2 AY) (m2 (b2 d0) (mV 0) (mV 3)) (dV (eS (dV (m2 (b2 d0) (mV 2) (mC (D.int 0))) (dV (m2 (b2 gSub) (mC (D.int 1)) (m2 (b2 d0) (mV 2) (mC (D.int 1)))) dW))) dW)) dW)))))
noncomputable def gm:FN:=gY 4 oM
theorem sV {f:dF}(F:eF K "_law_far" nP f):
  fi P w K mg base 1 "_law_far" 3 gm:=xq ["_law_ends","_law_pairs","_law_end","_law_room"] X G F λa=>
 (qF (sq (jq (jq xv (jq xv qK)) (qI wp qK (jq xv qK)))) (qG (qU (d8 (a2 xv (qe PySem.F.slot_list_index PySem.F.type_list_index (HB a.units) (jq xv xv) (a1 (d8 (a2 (jq xv qK) (qI wp qK (jq xv qK)))))))))))
abbrev kJ:dS:=top 32
noncomputable def lr:FS:=(eA (eE (m2 (b2 d0) (m2 (b2 d0) (mV 2) (mC (D.int 0))) (mV 3)) (gT 3 (gj (gN 4) (gj (gN 5) (gj (gN 6) lG)))))
  (eA (eE (mN (b1 fv) (dV (eW 1 [4] (gB (m2 (b2 d0) (mV 2) (mC (D.int 0)))) (gN 0) (mB (m2 (b2 wU) (m2 (b2 d0) (mV 0) (mC (D.int 0))) (mV 1))) (eG (mV 0))) dW)) (gN 7))
  (eA (eE (wy [((mC (D.str "came")),(mV 5)),((mC (D.str "chalk")),(mN (b1 oZ) (dV (m2 (b2 iV) (mV 4) (m2 (b2 d0) (mV 2) (mC (D.int 1)))) dW))),((mC (D.str "doors")),(mN (b1 fv) (dV (m2 (b2 d0) (mV 0) (mV 4)) dW))),((mC (D.str "others")),(mN (b1 oZ) (dV (m2 (b2 (iD λi j=>decide (j<i))) (mV 7) (mC (D.int 1))) dW)))]) (gN 8))
  (e0 (mN (b1 gTup) (dV (eW 1 [1,8] (gB (eS (dV (mC (D.str "came")) (dV (mC (D.str "chalk")) (dV (mC (D.str "doors")) (dV (mC (D.str "others")) dW)))))) (gN 0) fB (eG (Ay (mB (m2 (b2 iV) (mV 0) (mV 1))) (m2 (b2 d0) (mV 2) (mV 0)) (mC D.non)))) dW))))))
noncomputable def ff:FN:=gY 9 lr
theorem oS {f:dF}(F:eF K "_law_sight" kJ f):
  fi P w K mg base 1 "_law_sight" 4 ff:=xq ["_law_web_here","_law_eyes","_law_whole","_law_k","_law_room","_law_came","_law_mood","_law_crowd","_law_parts"] X G F λa=>
 (qF (qR (jq (jq xv qK) xv) (jx O (eH gq (eH gq (eH gq il))))) (qF (sq (cn fL (a1 (fk ["_law_walker"] (qd (jq xv qK)) ⟨gq,(gK (ct (oq sY) (jq xv qK) xv)),xv⟩)))) (qF (sq (yZ (kr eP xv (kr eP (cz xb (a1 (ce (oq mw) xv (jq xv qK) (by with_unfolding_all rfl)))) (kr eP (cn fL (a1 (jq xv xv))) (kr eP (cz xb (a1 (ce z7 xv qK))) BW)))))) (qG (qU (cz fC (a1 (fk ["_law_eye"] (qd (d8 (qA eP (a3 eP eP eP)))) ⟨gq,eL,(uB (ct (oq mw) xv xv (by with_unfolding_all rfl)) (jq xv xv) fY)⟩))))))))
abbrev i7:dS:=top 33
noncomputable def ix:FS:=(eA (eE (eW 2 [4] (GN (dV (m2 (b2 d0) (mV 1) (mC (D.int 0))) (dV (mV 2) dW))) (gT 2 (gj (gN 0) (gj (gN 1) lG))) (mB (m2 (b2 wU) (m2 (b2 d0) (mV 0) (mC (D.int 0))) (mV 2))) (eG (m2 (b2 d0) (mV 1) (mC (D.int 1))))) (gN 5))
  (g0 (Ee (mB (m2 (b2 iV) (mC (D.str "mark")) (mV 5))) (x9 (mB (m2 (b2 iV) (mV 4) (m2 (b2 d0) (mV 1) (mC (D.int 1))))) (mB (m2 (b2 gt) (mC (D.str "wipe")) (mV 5))))) (fV (tm (b2 lZ) (mV 3) (dV (mV 4) dW))) pT))
noncomputable def ju:FS:=(eA (eE (j9 dW) (gN 3))
  (eA (jg (vg (dV (mN (b1 fv) (dV (mV 0) dW)) dW)) (gN 4) ix)
  (e0 (mN (b1 gTup) (dV (mV 3) dW)))))
noncomputable def fI:FN:=gY 6 ju
theorem mO {f:dF}(F:eF K "_law_chalked" i7 f):
  fi P w K mg base 1 "_law_chalked" 3 fI:=xq ["_law_web_here","_law_whole","_law_dealt","_law_found","_law_room","_law_hands"] X G F λa=>
 (qF (sq (gE qN)) (qF (fo (ir (a1 (cn fL (a1 xv)))) gq (qF (lH 5 O (T:=["_law_walker","_law_deed_here"]) (keep:=[4]) ⟨O,by decide+kernel,(kc "_law_room" (cO _))⟩ O (qw O (bz B) (a2 (jq xv qK) xv)) (λ_ _ _=>⟨(tg2 gq gq),(gK (ct (oq sY) (jq xv qK) xv)),(jq xv qK)⟩) (jd O) O (by first|exact Or.inl rfl|exact Or.inr rfl)) (qG (qV (nr (no (ct (oq mw) eP xv (by with_unfolding_all rfl)) (mY (nr (qv (ct (oq mw) xv (jq xv qK) (by with_unfolding_all rfl)) (nq (ct (oq sX) eP xv (by with_unfolding_all rfl)))))))) (qG (lq ap xv (a1 xv))) qQ)))) (qG (qU (cz fC (a1 xv))))))
abbrev kN:dS:=top 38
noncomputable def lB:FS:=(e0 (gg (m2 (b2 wU) (eW 1 [] (gB (m2 (b2 d0) (mV 0) (mC (D.int 0)))) (gN 0) fB (eG (Av (mV 0) pO (pN (mC (D.int 2)))))) (eW 1 [] (gB (m2 (b2 d0) (mV 1) (mC (D.int 0)))) (gN 0) fB (eG (Av (mV 0) pO (pN (mC (D.int 2))))))) (m2 (b2 wU) (m2 (b2 d0) (mV 0) (mC (D.int 1))) (m2 (b2 d0) (mV 1) (mC (D.int 1))))))
noncomputable def gf:FN:=gY 2 lB
theorem oV {f:dF}(F:eF K "_law_alike" kN f):
  fi P w K mg base 1 "_law_alike" 2 gf:=xq ["_law_one","_law_other"] X G F λa=>
 (qG (qU (fq (ce (oq sY) (fk ["_law_walker"] (qd (jq xv qK)) ⟨gq,eL,(nt xv se (sd qK))⟩) (fk ["_law_walker"] (qd (jq xv qK)) ⟨gq,eL,(nt xv se (sd qK))⟩)) (fQ (ce (oq sY) (jq xv qK) (jq xv qK))))))
abbrev nK:dS:=top 2
noncomputable def oH:FS:=(e0 (gg (mN (dX 1 iT) (dV (mV 0) dW)) (Gy (b2 (iD λi j=>decide (i<=j))) (b2 wT) (mC (D.int 0)) (mV 0) (mV 1))))
noncomputable def fh:FN:=gY 2 oH
theorem sQ {f:dF}(F:eF K "is_below" nK f)(a:fi P w K mg base 1 "is_whole" 1 iT):
  fi P w K mg base 2 "is_below" 2 fh:=xq ["thing","bound"] X G F λb=>
 (qG (qU (fq (wn a (a1 xv)) (fQ (xt Kh (oq nY) qK xv xv)))))
abbrev nM:dS:=top 12
noncomputable def vD:FS:=(e0 (gg (ka .tuple (mV 0)) (gg (mN (b1 vo) (dV (eW 1 [] (gB (mV 0)) (gN 0) fB (eG (mN (dX 1 n4) (dV (mV 0) dW)))) dW)) (mN (dX 1 fG) (dV (mV 0) dW)))))
noncomputable def gU:FN:=gY 1 vD
theorem sS {f:dF}(F:eF K "are_eyes" nM f)(b:fi P w K mg base 1 "is_eye" 1 n4)(a:fi P w K mg base 1 "is_rising" 1 fG):
  fi P w K mg base 2 "are_eyes" 1 gU:=xq ["thing"] X G F λc=>
 (qG (qU (fq (ii xv) (fq (cn (xf O) (a1 (fk ["eye"] (qd xv) ⟨gq,eL,(wn b (a1 xv))⟩))) (fQ (wn a (a1 xv)))))))
abbrev pA:dS:=top 22
noncomputable def qr:FS:=(eA (eE (mV 0) (gT 2 (gj (gN 1) (gj (gN 2) lG))))
  (eA (eE (eW 1 [] (gB (mN (dX 1 je) (dV (mV 1) dW))) (gN 0) fB (eG (eS (dV (eS (dV (mC (D.int 0)) (dV (mV 0) dW))) (dV (eS (dV (mC (D.int 1)) (dV (mC (D.str "mark")) (dV (mC D.non) dW)))) dW))))) (gN 3))
  (e0 (eS (dV (mV 1) (dV (mN (b1 gTup) (dV (m2 (b2 gn) (mV 3) (eW 1 [] (gB (mV 2)) (gN 0) fB (eG (mN (dX 1 fT) (dV (mV 0) dW))))) dW)) dW))))))
noncomputable def gJ:FN:=gY 4 qr
theorem uY {f:dF}(F:eF K "marking" pA f)(b:fi P w K mg base 1 "moods_on" 1 fT)(a:fi P w K mg base 1 "sights" 1 je):
  fi P w K mg base 2 "marking" 1 gJ:=xq ["machine","eyes","rows","first"] X G F λc=>
 (qF (qR xv (tg2 gq gq)) (qF (lH 3 O (T:=["sight"]) (keep:=[]) ⟨O,by decide+kernel,(cO _)⟩ O (qd (wn a (a1 xv))) (λ_ _ _=>⟨gq,eL,(d8 (a2 (d8 (a2 qK xv)) (d8 (a3 qK eP fY))))⟩) (jd O) O (by first|exact Or.inl rfl|exact Or.inr rfl)) (qG (qU (d8 (a2 xv (cz fC (a1 (qI gk xv (fk ["row"] (qd xv) ⟨gq,eL,(wn b (a1 xv))⟩))))))))))
abbrev nO:dS:=top 27
noncomputable def oK:FS:=(eA (fV (tm (b3 yr) (m2 (b2 d0) (mV 1) (mV 3)) (dV (mN (dX 2 dY) (dV (mV 0) (dV (m2 (b2 gn) (mN (b1 fv) (dV (m2 (b2 d0) (mV 1) (mV 3)) dW)) (mC (D.int 1))) dW))) (dV (eS (dV (mN (b1 fv) (dV (mV 2) dW)) (dV (mC (D.int 0)) dW))) dW))))
  (eA (fV (tm (b3 yr) (m2 (b2 d0) (mV 1) (mV 4)) (dV (mN (dX 2 dY) (dV (mV 0) (dV (m2 (b2 gn) (mN (b1 fv) (dV (m2 (b2 d0) (mV 1) (mV 4)) dW)) (mC (D.int 1))) dW))) (dV (eS (dV (mN (b1 fv) (dV (mV 2) dW)) (dV (mC (D.int 1)) dW))) dW))))
  (fV (tm (b2 lZ) (mV 2) (dV (eS (dV (mV 3) (dV (mV 4) dW))) dW)))))
noncomputable def fU:FN:=gY 5 oK
theorem sU {f:dF}(F:eF K "_law_tie" nO f)(a:fi P w K mg base 1 "_law_take" 2 dY):
  fi P w K mg base 2 "_law_tie" 5 fU:=xq ["_law_hand_here","_law_ends","_law_pairs","_law_one","_law_other"] X G F (hb:=λ_ _ _ _ _ _ d b=>JD b λ_ _ _ _ _=>rfl) λc=>
 (qF (lq ⟨PySem.F.slot_list_insert,PySem.F.type_list_insert,D8⟩ (jq xv xv) (a2 (wn a (a2 xv (qI gk (cn fL (a1 (jq xv xv))) qK))) (d8 (a2 (cn fL (a1 xv)) qK)))) (qF (lq ⟨PySem.F.slot_list_insert,PySem.F.type_list_insert,D8⟩ (jq xv xv) (a2 (wn a (a2 xv (qI gk (cn fL (a1 (jq xv xv))) qK))) (d8 (a2 (cn fL (a1 xv)) qK)))) (qG (lq ap xv (a1 (d8 (a2 xv xv)))))))
abbrev iY:dS:=top 30
noncomputable def hE:FT:=(mB (m2 (b2 (iD λi j=>decide (j<i))) (mN (b1 fv) (dV (mV 3) dW)) (m2 (b2 gn) (mC (D.int 1)) (mN (dX 2 dY) (dV (mV 0) (dV (mV 2) dW))))))
noncomputable def hC:FS:=(fV (tm (b2 AW) (mV 3) (dV (mN (dX 2 dY) (dV (mV 0) (dV (mN (b1 fv) (dV (mV 3) dW)) dW))) dW)))
noncomputable def iZ:FS:=(eA (eE (x5 (dV (mV 1) dW)) (gN 3))
  (eA (yS hE hC 100000)
  (eA (eE (mN (dX 2 dY) (dV (mV 0) (dV (mC (D.int 2)) dW))) (gN 4))
  (e0 (eS (dV (mN (b1 gTup) (dV (mV 3) dW)) (dV (mN (b1 gTup) (dV (eW 1 [4,0] (vg (dV (mV 1) dW)) (gN 0) (mB (m2 (b2 wU) (m2 (b2 jP) (mV 1) (mN (dX 2 dY) (dV (mV 2) (dV (mC (D.int 3)) dW)))) (mC (D.int 1)))) (eG (mV 0))) dW)) dW)))))))
noncomputable def fz:FN:=gY 5 iZ
theorem lT {f:dF}(F:eF K "_law_standing" iY f)(a:fi P w K mg base 1 "_law_take" 2 dY):
  fi P w K mg base 2 "_law_standing" 3 fz:=xq ["_law_hand_here","_law_many","_law_most","_law_rooms","_law_some"] X G F λb=>
 (qF (sq (nv O O (bz B) O (bz B) (a1 xv))) (qF (xp 100000 PassesOwn.never (ct z7 (cn fL (a1 xv)) (qI gk qK (wn a (a2 xv xv)))) (qG (lq ⟨PySem.F.slot_list_pop,PySem.F.type_list_pop,HA⟩ xv (a1 (wn a (a2 xv (cn fL (a1 xv)))))))) (qF (sq (wn a (a2 xv qK))) (qG (qU (d8 (a2 (cz fC (a1 xv)) (cz fC (a1 (fk ["_law_room"] (ir (a1 xv)) ⟨gq,(gK (ct (oq sY) (qI kX xv (wn a (a2 xv qK))) qK)),xv⟩))))))))))
abbrev iu:dS:=top 31
noncomputable def iF:FS:=(e0 (mN (b1 gTup) (dV (eW 1 [0] (gB (eS (dV (mC (D.str "came")) (dV (mC (D.str "chalk")) (dV (mC (D.str "doors")) (dV (mC (D.str "others")) dW)))))) (gN 0) (mB (m2 (b2 wU) (mN (dX 2 dY) (dV (mV 1) (dV (mC (D.int 2)) dW))) (mC (D.int 0)))) (eG (mV 0))) dW)))
noncomputable def ft:FN:=gY 1 iF
theorem kT {f:dF}(F:eF K "_law_some_eyes" iu f)(a:fi P w K mg base 1 "_law_take" 2 dY):
  fi P w K mg base 2 "_law_some_eyes" 1 ft:=xq ["_law_hand_here"] X G F λb=>
 (qG (qU (cz fC (a1 (fk ["_law_eye"] (qd (d8 (qA eP (a3 eP eP eP)))) ⟨gq,(gK (ct (oq sY) (wn a (a2 xv qK)) qK)),xv⟩)))))
abbrev mm:dS:=top 34
noncomputable def jV:FS:=(eA (eE (m2 (b2 d0) (m2 (b2 d0) (m2 (b2 d0) (mV 3) (mC (D.int 0))) (mV 6)) (mC (D.int 2))) (gN 7))
  (fV (tm (b2 lZ) (mV 4) (dV (rE (mV 2) (eS (dV (mV 7) (dV (mN (dX 4 ff) (dV (mV 0) (dV (mV 1) (dV (mV 3) (dV (mV 6) dW))))) dW))) (eS (dV (mV 7) (dV (mC (D.str "leave")) (dV (mC D.non) dW))))) dW))))
noncomputable def jU:FS:=(eA (g0 (x9 (mB (m2 (b2 gG) (mV 12) (mC D.non))) (mB (m2 (b2 wT) (mV 12) (mN (b1 fv) (dV (m2 (b2 d0) (mV 0) (mV 8)) dW))))) (eE (eS (dV (m2 (b2 d0) (m2 (b2 d0) (m2 (b2 d0) (mV 0) (mV 8)) (mV 12)) (mC (D.int 0))) (dV (m2 (b2 gn) (mC (D.int 1)) (m2 (b2 d0) (m2 (b2 d0) (m2 (b2 d0) (mV 0) (mV 8)) (mV 12)) (mC (D.int 1)))) dW))) (gT 2 (gj (gN 8) (gj (gN 9) lG)))) pT)
  (fV (tm (b2 lZ) (mV 5) (dV (eS (dV (mV 8) (dV (mV 9) (dV (mV 10) dW)))) dW))))
noncomputable def mK:FS:=(eA (eE (eS (dV (j9 dW) (dV (j9 dW) dW))) (gT 2 (gj (gN 4) (gj (gN 5) lG))))
  (eA (jg (vg (dV (mN (b1 fv) (dV (m2 (b2 d0) (mV 3) (mC (D.int 0))) dW)) dW)) (gN 6) jV)
  (eA (jg (GN (dV (m2 (b2 d0) (mV 3) (mC (D.int 0))) (dV (mV 4) dW))) (gT 2 (gj (gT 3 (gj (gN 8) (gj (gN 9) (gj (gN 7) lG)))) (gj (gT 3 (gj (gN 10) (gj (gN 11) (gj (gN 12) lG)))) lG))) jU)
  (e0 (eS (dV (mN (b1 gTup) (dV (mV 5) dW)) (dV (mN (dX 3 fI) (dV (mV 0) (dV (mV 3) (dV (mV 4) dW)))) dW)))))))
noncomputable def fJ:FN:=gY 13 mK
theorem rA {f:dF}(F:eF K "_law_beat" mm f)(b:fi P w K mg base 1 "_law_chalked" 3 fI)(c:fi P w K mg base 1 "_law_sight" 4 ff):
  fi P w K mg base 2 "_law_beat" 4 fJ:=xq ["_law_web_here","_law_eyes","_law_rows","_law_whole","_law_dealt","_law_walkers","_law_k","_law_mood","_law_room","_law_came","_law_later","_law_hand_here","_law_step"] X G F λa=>
 (qF (mZ 4 5 O (jd O) O O (by decide) O O (a2 (gE qN) (gE qN))) (qF (fo (ir (a1 (cn fL (a1 (jq xv qK))))) gq (qF (sq (jq (jq (jq xv qK) xv) qK)) (qG (lq ap xv (a1 (xr a.units xv (d8 (a2 xv (wn c (qA xv (a3 xv xv xv))))) (d8 (a3 xv eP fY)))))))) (qF (fo (qw O (bz B) (a2 (jq xv qK) xv)) (tg2 (jx O (eH gq (eH gq (eH gq il)))) (jx O (eH gq (eH gq (eH gq il))))) (qF (qV (nr (qv (ct kY xv fY) (nq (ct (oq nY) xv (cn fL (a1 (jq xv xv))))))) (qG (mZ 8 9 O (jd O) O O (by decide) O O (a2 (jq (jq (jq xv xv) xv) qK) (qI gk qK (jq (jq (jq xv xv) xv) qK))))) qQ) (qG (lq ap xv (a1 (d8 (a3 xv xv xv))))))) (qG (qU (d8 (a2 (cz fC (a1 xv)) (wn b (a3 xv xv xv)))))))))
abbrev mj:dS:=top 35
noncomputable def mJ:FS:=(eA (eE (m2 (b2 d0) (eS (dV (mC (D.int 0)) (dV (mC (D.int 1)) (dV (mC (D.int 2)) (dV (mC (D.int 3998)) dW))))) (mN (dX 2 dY) (dV (mV 0) (dV (mC (D.int 4)) dW)))) (gN 1))
  (eA (eE (m2 (b2 d0) (eS (dV (mC D.non) (dV (mC (D.int 0)) (dV (mC (D.int 1)) (dV (mC (D.int 2)) (dV (mC (D.int 3)) (dV (mC (D.int 0)) (dV (mC (D.int 1)) dW)))))))) (mN (dX 2 dY) (dV (mV 0) (dV (mC (D.int 7)) dW)))) (gN 2))
  (e0 (eS (dV (mV 1) (dV (m2 (b2 d0) (eS (dV (mC (D.str "leave")) (dV (mC (D.str "leave")) (dV (mC (D.str "mark")) (dV (mC (D.str "wipe")) dW))))) (mN (dX 2 dY) (dV (mV 0) (dV (mC (D.int 4)) dW)))) (dV (mV 2) dW)))))))
noncomputable def gz:FN:=gY 3 mJ
theorem rz {f:dF}(F:eF K "_law_deed" mj f)(a:fi P w K mg base 1 "_law_take" 2 dY):
  fi P w K mg base 2 "_law_deed" 1 gz:=xq ["_law_hand_here","_law_mood","_law_step"] X G F λb=>
 (qF (sq (jq (d8 (qA qK (a3 qK qK qK))) (wn a (a2 xv qK)))) (qF (sq (jq (d8 (qA fY (qA qK (qA qK (qA qK (a3 qK qK qK)))))) (wn a (a2 xv qK)))) (qG (qU (d8 (a3 xv (jq (d8 (qA eP (a3 eP eP eP))) (wn a (a2 xv qK))) xv))))))
abbrev nJ:dS:=top 17
noncomputable def vC:FS:=(eA (g0 (oW (C9 (mN (dX 2 ev) (dV (mV 1) (dV (mN (b1 fv) (dV (mC hH) dW)) dW))))) (e0 (mC (D.bl false))) pT)
  (e0 (mN (b1 vo) (dV (eW 3 [0] (GN (dV (mV 1) (dV (mC hH) dW))) (gT 2 (gj (gN 0) (gj (gT 2 (gj (gN 1) (gj (gN 2) lG))) lG))) fB (eG (Ay (mB (m2 (b2 iV) (mV 1) (mV 3))) (mN (dX 2 fh) (dV (mV 0) (dV (mV 2) dW))) (m2 (b2 GP) (mV 0) (mC D.non))))) dW))))
noncomputable def gQ:FN:=gY 2 vC
theorem sP {f:dF}(F:eF K "is_sight" nJ f)(a:CGl K mg "PARTS" hH)(c:fi P w K mg base 2 "is_below" 2 fh)(b:fi P w K mg base 1 "is_tuple_of" 2 ev):
  fi P w K mg base 3 "is_sight" 2 gQ:=xq ["eyes","thing"] X G F λd=>
 (qF (qV (iI (iH (wn b (a2 xv (cn fL (a1 (fZ a O))))))) (qG (qU hW)) qQ) (qG (qU (cn (xf O) (a1 (fk ["part","eye","many"] (qw O (bz B) (a2 xv (fZ a O))) ⟨(tg2 gq (tg2 gq gq)),eL,(uB (ct (oq mw) xv xv (by with_unfolding_all rfl)) (wn c (a2 xv xv)) (ce Ed xv fY))⟩))))))
abbrev pC:dS:=top 18
noncomputable def qt:FS:=(eA (g0 (oW (C9 (mN (dX 2 ev) (dV (mV 0) (dV (mC (D.int 3)) dW))))) (e0 (mC (D.bl false))) pT)
  (eA (eE (mV 0) (gT 3 (gj (gN 1) (gj (gN 2) (gj (gN 3) lG)))))
  (e0 (gg (mN (dX 2 fh) (dV (mV 1) (dV (mC iX) dW))) (gg (mN (dX 1 jG) (dV (mV 2) dW)) (Db (m2 (b2 GP) (mV 3) (mC D.non)) (mN (dX 2 fh) (dV (mV 3) (dV (mC nj) dW)))))))))
noncomputable def iy:FN:=gY 4 qt
theorem u4 {f:dF}(F:eF K "is_deed" pC f)(d:CGl K mg "MOODS" iX)(c:CGl K mg "STEPS" nj)(b:fi P w K mg base 2 "is_below" 2 fh)(a:fi P w K mg base 1 "is_hand" 1 jG)(e:fi P w K mg base 1 "is_tuple_of" 2 ev):
  fi P w K mg base 3 "is_deed" 1 iy:=xq ["thing","mood","hand","step"] X G F λg=>
 (qF (qV (iI (iH (wn e (a2 xv qK)))) (qG (qU hW)) qQ) (qF (qR xv (jx O (eH gq (eH gq (eH gq il))))) (qG (qU (fq (wn b (a2 xv (fZ d O))) (fq (wn a (a1 xv)) (fQ (BX (ce Ed xv fY) (fQ (wn b (a2 xv (fZ c O))))))))))))
abbrev nN:dS:=top 29
noncomputable def iQ:FS:=(eA (eE (eW 1 [3] (vg (dV (mV 5) dW)) (gN 0) (mB (m2 (b2 wT) (mN (b1 fv) (dV (m2 (b2 d0) (mV 1) (mV 0)) dW)) (mC (D.int 4)))) (eG (mV 0))) (gN 6))
  (fV (mN (dX 5 fU) (dV (mV 0) (dV (mV 3) (dV (mV 4) (dV (m2 (b2 d0) (mV 6) (mN (dX 2 dY) (dV (mV 0) (dV (mN (b1 fv) (dV (mV 6) dW)) dW)))) (dV (mV 5) dW))))))))
noncomputable def iP:FS:=(eA (eE (eS (dV (mN (dX 2 dY) (dV (mV 0) (dV (mV 2) dW))) (dV (mN (dX 2 dY) (dV (mV 0) (dV (mV 2) dW))) dW))) (gT 2 (gj (gN 8) (gj (gN 9) lG))))
  (g0 (x9 (mB (m2 (b2 wT) (mN (b1 fv) (dV (m2 (b2 d0) (mV 3) (mV 8)) dW)) (mC (D.int 4)))) (mB (m2 (b2 wT) (mN (b1 fv) (dV (m2 (b2 d0) (mV 3) (mV 9)) dW)) (m2 (b2 gSub) (mC (D.int 4)) (mN (b1 oZ) (dV (m2 (b2 wU) (mV 8) (mV 9)) dW)))))) (fV (mN (dX 5 fU) (dV (mV 0) (dV (mV 3) (dV (mV 4) (dV (mV 8) (dV (mV 9) dW))))))) pT))
noncomputable def oJ:FS:=(eA (eE (m2 (b2 gn) (mC (D.int 1)) (mN (dX 2 dY) (dV (mV 0) (dV (mV 1) dW)))) (gN 2))
  (eA (eE (eS (dV (eW 1 [] (vg (dV (mV 2) dW)) (gN 0) fB (eG (j9 dW))) (dV (j9 dW) dW))) (gT 2 (gj (gN 3) (gj (gN 4) lG))))
  (eA (jg (IL (dV (mC (D.int 1)) (dV (mV 2) dW))) (gN 5) iQ)
  (eA (jg (vg (dV (mN (dX 2 dY) (dV (mV 0) (dV (mC (D.int 7)) dW))) dW)) (gN 7) iP)
  (e0 (mN (b1 gTup) (dV (eW 1 [3,4] (gB (mV 3)) (gN 0) fB (eG (mN (b1 gTup) (dV (eW 1 [1,2] (gB (mV 0)) (gN 0) fB (eG (mN (dX 3 gm) (dV (mV 1) (dV (mV 2) (dV (mV 0) dW)))))) dW)))) dW)))))))
noncomputable def gW:FN:=gY 10 oJ
theorem sT {f:dF}(F:eF K "_law_web" nN f)(c:fi P w K mg base 1 "_law_far" 3 gm)(a:fi P w K mg base 1 "_law_take" 2 dY)(b:fi P w K mg base 2 "_law_tie" 5 fU):
  fi P w K mg base 3 "_law_web" 2 gW:=xq ["_law_hand_here","_law_most","_law_many","_law_ends","_law_pairs","_law_room","_law_some","_law_turn","_law_one","_law_other"] X G F λd=>
 (qF (sq (qI gk qK (wn a (a2 xv xv)))) (qF (qR (d8 (a2 (fk ["_law_room"] (ir (a1 xv)) ⟨gq,eL,(gE qN)⟩) (gE qN))) (tg2 gq gq)) (qF (fo (ux O (bz B) (a2 qK xv)) gq (qF (lH 6 O (T:=["_law_one"]) (keep:=[3]) ⟨O,by decide+kernel,(kc "_law_ends" (cO _))⟩ O (ir (a1 xv)) (λ_ _ _=>⟨gq,(gK (ct (oq nY) (cn fL (a1 (jq xv xv))) qK)),xv⟩) (jd O) O (by first|exact Or.inl rfl|exact Or.inr rfl)) (qG (kq (wn b (qA xv (qA xv (a3 xv (jq xv (wn a (a2 xv (cn fL (a1 xv))))) xv)))))))) (qF (fo (ir (a1 (wn a (a2 xv qK)))) gq (qF (mZ 8 9 rfl (jd rfl) rfl rfl (by decide) rfl rfl (a2 (wn a (a2 xv xv)) (wn a (a2 xv xv)))) (qG (qV (nr (qv (ct (oq nY) (cn fL (a1 (jq xv xv))) qK) (nq (ct (oq nY) (cn fL (a1 (jq xv xv))) (qI wp qK (cz xb (a1 (ce (oq sY) xv xv)))))))) (qG (kq (wn b (qA xv (qA xv (a3 xv xv xv)))))) qQ)))) (qG (qU (cz fC (a1 (fk ["_law_row"] (qd xv) ⟨gq,eL,(cz fC (a1 (fk ["_law_end"] (qd xv) ⟨gq,eL,(wn c (a3 xv xv xv))⟩)))⟩)))))))))
abbrev kM:dS:=top 36
noncomputable def jc:FS:=(eA (eE (eS (dV (m2 (b2 d0) (m2 (b2 d0) (m2 (b2 d0) (mV 4) (mC (D.int 0))) (mV 5)) (mC (D.int 2))) (dV (mN (dX 4 ff) (dV (mV 1) (dV (mV 2) (dV (mV 4) (dV (mV 5) dW))))) dW))) (gN 6))
  (g0 (mB (m2 (b2 jJ) (mV 6) (mV 3))) (eA (eE (mC D.non) (gS (b3 jl) (mV 3) (mV 6)))
  (g0 (mB (m2 (b2 (iD λi j=>decide (j<i))) (mN (dX 2 dY) (dV (mV 0) (dV (mC (D.int 12)) dW))) (mC (D.int 0)))) (eE (mN (dX 1 gz) (dV (mV 0) dW)) (gS (b3 jl) (mV 3) (mV 6))) pT)) pT))
noncomputable def lA:FS:=(jg (vg (dV (mN (b1 fv) (dV (m2 (b2 d0) (mV 4) (mC (D.int 0))) dW)) dW)) (gN 5) jc)
noncomputable def ge:FN:=gY 7 lA
theorem oU {f:dF}(F:eF K "_law_grown" kM f)(a:fi P w K mg base 2 "_law_deed" 1 gz)(d:fi P w K mg base 1 "_law_sight" 4 ff)(c:fi P w K mg base 1 "_law_take" 2 dY):
  fi P w K mg base 3 "_law_grown" 5 ge:=xq ["_law_hand_here","_law_web_here","_law_eyes","_law_rows","_law_whole","_law_k","_law_asked"] X G F (hb:=λ_ _ _ _ _ _ g e=>JD e λ_ _ _ _ _=>rfl) λb=>
 (qG (fo (ir (a1 (cn fL (a1 (jq xv qK))))) gq (qF (sq (d8 (a2 (jq (jq (jq xv qK) xv) qK) (wn d (qA xv (a3 xv xv xv)))))) (qG (qV (ct (oq z0) xv xv (by with_unfolding_all rfl)) (qF (qR fY (m3 xv xv (rf b.units))) (qG (qV (ct z7 (wn c (a2 xv qK)) qK) (qG (qR (wn a (a1 xv)) (m3 xv xv (rf b.units)))) qQ))) qQ)))))
abbrev sB:dS:=top 16
noncomputable def uc:FS:=(e0 (gg (mN (dX 2 ev) (dV (mV 1) (dV (mC (D.int 2)) dW))) (gg (mN (dX 2 fh) (dV (m2 (b2 d0) (mV 1) (mC (D.int 0))) (dV (mC iX) dW))) (mN (dX 2 gQ) (dV (mV 0) (dV (m2 (b2 d0) (mV 1) (mC (D.int 1))) dW))))))
noncomputable def k4:FN:=gY 2 uc
theorem xS {f:dF}(F:eF K "is_key" sB f)(b:CGl K mg "MOODS" iX)(d:fi P w K mg base 2 "is_below" 2 fh)(a:fi P w K mg base 3 "is_sight" 2 gQ)(c:fi P w K mg base 1 "is_tuple_of" 2 ev):
  fi P w K mg base 4 "is_key" 2 k4:=xq ["eyes","thing"] X G F λe=>
 (qG (qU (fq (wn c (a2 xv qK)) (fq (wn d (a2 (jq xv qK) (fZ b O))) (fQ (wn a (a2 xv (jq xv qK))))))))
abbrev hB:dS:=top 37
noncomputable def gC:FS:=(eA (fV (mN (dX 5 ge) (dV (mV 0) (dV (mV 1) (dV (mV 2) (dV (mV 5) (dV (m2 (b2 d0) (mV 6) (mV 7)) dW)))))))
  (eA (eE (mN (b1 jm) (dV (l0 1 [5] (mV 5) (gN 0) (mB (m2 (b2 gG) (m2 (b2 d0) (mV 1) (mV 0)) (mC D.non))) (eG (eS (dV (mV 0) (dV (m2 (b2 d0) (mV 1) (mV 0)) dW))))) dW)) (gN 8))
  (fV (tm (b2 lZ) (mV 6) (dV (mN (dX 4 fJ) (dV (mV 1) (dV (mV 2) (dV (mV 8) (dV (m2 (b2 d0) (mV 6) (mV 7)) dW))))) dW)))))
noncomputable def hU:FS:=(eA (eE (eS (dV Az (dV (j9 (dV (eS (dV (mN (b1 gTup) (dV (eW 1 [] (gB (m2 (b2 d0) (mV 3) (mC (D.int 0)))) (gN 0) fB (eG (eS (dV (mV 0) (dV (mC (D.int 0)) (dV (mC (D.int 0)) dW)))))) dW)) (dV (m2 (b2 d0) (mV 3) (mC (D.int 1))) dW))) dW)) dW))) (gT 2 (gj (gN 5) (gj (gN 6) lG))))
  (eA (jg (vg (dV (mV 4) dW)) (gN 7) gC)
  (eA (eE (eS (dV (mV 2) (dV (mN (b1 gTup) (dV (mN (b1 om) (dV (l0 1 [5] (mV 5) (gN 0) (mB (m2 (b2 gG) (m2 (b2 d0) (mV 1) (mV 0)) (mC D.non))) (eG (eS (dV (mV 0) (dV (m2 (b2 d0) (mV 1) (mV 0)) dW))))) dW)) dW)) dW))) (gN 9))
  (e0 (eS (dV (mV 9) (dV (mV 6) dW)))))))
noncomputable def eQ:FN:=gY 10 hU
theorem j8 {f:dF}(F:eF K "_law_drawn_walk" hB f)(b:fi P w K mg base 2 "_law_beat" 4 fJ)(a:fi P w K mg base 3 "_law_grown" 5 ge):
  fi P w K mg base 4 "_law_drawn_walk" 5 eQ:=xq ["_law_hand_here","_law_web_here","_law_eyes","_law_standing_here","_law_beats","_law_rows","_law_wholes","_law_turn","_law_there","_law_machine"] X G F (hb:=λ_ _ _ _ _ _ e d=>JD d λ_ _ _ _ _=>rfl) λc=>
 (qF (qR (d8 (a2 yY (gE (a1 (d8 (a2 (cz fC (a1 (fk ["_law_room"] (qd (jq xv qK)) ⟨gq,eL,(d8 (a3 xv qK qK))⟩))) (jq xv qK))))))) (tg2 gq gq)) (qF (fo (ir (a1 xv)) gq (qF (kq (wn a (qA xv (qA xv (a3 xv xv (jq xv xv)))))) (qF (sq (cz (xc c) (a1 (pk O (T:=["_law_asked"]) (keep:=[5]) ⟨O,by decide+kernel,(kc "_law_rows" (cO _))⟩ O xv (λ_ _ _=>⟨gq,(gK (ct kY (jq xv xv) fY)),(d8 (a2 xv (jq xv xv)))⟩))))) (qG (lq ap xv (a1 (wn b (qA xv (a3 xv xv (jq xv xv)))))))))) (qF (sq (d8 (a2 xv (cz fC (a1 (cn (DR c.units) (a1 (pk O (T:=["_law_asked"]) (keep:=[5]) ⟨O,by decide+kernel,(kc "_law_rows" (cO _))⟩ O xv (λ_ _ _=>⟨gq,(gK (ct kY (jq xv xv) fY)),(d8 (a2 xv (jq xv xv)))⟩))))))))) (qG (qU (d8 (a2 xv xv)))))))
abbrev sA:dS:=top 15
noncomputable def ub:FS:=(e0 (gg (mN (dX 2 ev) (dV (mV 1) (dV (mC (D.int 2)) dW))) (gg (mN (dX 2 k4) (dV (mV 0) (dV (m2 (b2 d0) (mV 1) (mC (D.int 0))) dW))) (mN (dX 1 iy) (dV (m2 (b2 d0) (mV 1) (mC (D.int 1))) dW)))))
noncomputable def jf:FN:=gY 2 ub
theorem xR {f:dF}(F:eF K "is_row" sA f)(b:fi P w K mg base 3 "is_deed" 1 iy)(a:fi P w K mg base 4 "is_key" 2 k4)(c:fi P w K mg base 1 "is_tuple_of" 2 ev):
  fi P w K mg base 5 "is_row" 2 jf:=xq ["eyes","thing"] X G F λd=>
 (qG (qU (fq (wn c (a2 xv qK)) (fq (wn a (a2 xv (jq xv qK))) (fQ (wn b (a1 (jq xv qK))))))))
abbrev nL:dS:=top 14
noncomputable def oI:FS:=(eA (g0 (Ee (oW (C9 (ka .tuple (mV 1)))) (mB (m2 (b2 (iD fun i j=>decide (j<i))) (mN (b1 fv) (dV (mV 1) dW)) (mC hI)))) (e0 (mC (D.bl false))) pT)
  (eA (g0 (oW (C9 (mN (b1 vo) (dV (eW 1 [0] (gB (mV 1)) (gN 0) fB (eG (mN (dX 2 jf) (dV (mV 1) (dV (mV 0) dW))))) dW)))) (e0 (mC (D.bl J))) pT)
  (e0 (mN (dX 1 fG) (dV (eW 2 [] (gB (mV 1)) (gT 2 (gj (gN 0) (gj (gN 1) lG))) fB (eG (mV 0))) dW)))))
noncomputable def gR:FN:=gY 2 oI
theorem sR {f:dF}(F:eF K "are_rows" nL f)(c:CGl K mg "MOST_ROWS" hI)(b:fi P w K mg base 1 "is_rising" 1 fG)(a:fi P w K mg base 5 "is_row" 2 jf):
  fi P w K mg base 6 "are_rows" 2 gR:=xq ["eyes","thing"] X G F λd=>
 (qF (qV (nr (no (iI (iH (ii xv))) (mY (ct z7 (cn fL (a1 xv)) (fZ c O))))) (qG (qU hW)) qQ) (qF (qV (iI (iH (cn (xf O) (a1 (fk ["row"] (qd xv) ⟨gq,eL,(wn a (a2 xv xv))⟩))))) (qG (qU hW)) qQ) (qG (qU (wn b (a1 (fk ["key","deed"] (qd xv) ⟨(tg2 gq gq),eL,xv⟩)))))))
abbrev kI:dS:=top 11
noncomputable def lp:FS:=(e0 (gg (mN (dX 2 ev) (dV (mV 0) (dV (mC (D.int 2)) dW))) (gg (mN (dX 1 gU) (dV (m2 (b2 d0) (mV 0) (mC (D.int 0))) dW)) (mN (dX 2 gR) (dV (m2 (b2 d0) (mV 0) (mC (D.int 0))) (dV (m2 (b2 d0) (mV 0) (mC (D.int 1))) dW))))))
noncomputable def ga:FN:=gY 1 lp
theorem oR {f:dF}(F:eF K "is_machine" kI f)(b:fi P w K mg base 2 "are_eyes" 1 gU)(a:fi P w K mg base 6 "are_rows" 2 gR)(c:fi P w K mg base 1 "is_tuple_of" 2 ev):
  fi P w K mg base 7 "is_machine" 1 ga:=xq ["thing"] X G F λd=>
 (qG (qU (fq (wn c (a2 xv qK)) (fq (wn b (a1 (jq xv qK))) (fQ (wn a (a2 (jq xv qK) (jq xv qK))))))))
abbrev kK:dS:=top 39
noncomputable def ja:FS:=(eA (eE (mN (dX 4 fJ) (dV (mV 0) (dV (mV 1) (dV (mV 5) (dV (mV 6) dW))))) (gN 6))
  (g0 (oW (C9 (mN (dX 2 gf) (dV (mV 6) (dV (mV 7) dW))))) (e0 (mC (D.bl J))) pT))
noncomputable def lz:FS:=(eA (g0 (Ee (oW (C9 (ka .tuple (mV 3)))) (Ee (mB (m2 (b2 gG) (mN (dX 1 ga) (dV (mV 3) dW)) (mC (D.bl true)))) (mB (m2 (b2 Hr) (m2 (b2 d0) (mV 3) (mC (D.int 0))) (mV 1))))) (e0 (mC (D.bl false))) pT)
  (eA (eE (mN (b1 jm) (dV (mN (b1 AX) (dV (m2 (b2 d0) (mV 3) (mC (D.int 1))) dW)) dW)) (gN 5))
  (eA (eE (eS (dV (mN (b1 gTup) (dV (eW 1 [] (gB (m2 (b2 d0) (mV 2) (mC (D.int 0)))) (gN 0) fB (eG (eS (dV (mV 0) (dV (mC (D.int 0)) (dV (mC (D.int 0)) dW)))))) dW)) (dV (m2 (b2 d0) (mV 2) (mC (D.int 1))) dW))) (gN 6))
  (eA (jg (gB (mV 4)) (gN 7) ja)
  (e0 (mC (D.bl M)))))))
noncomputable def gb:FN:=gY 8 lz
theorem oT {f:dF}(F:eF K "_law_right" kK f)(c:fi P w K mg base 1 "_law_alike" 2 gf)(b:fi P w K mg base 2 "_law_beat" 4 fJ)(a:fi P w K mg base 7 "is_machine" 1 ga):
  fi P w K mg base 8 "_law_right" 5 gb:=xq ["_law_web_here","_law_eyes","_law_standing_here","_law_other","_law_wholes","_law_rows","_law_whole","_law_due"] X G F (hb:=λ_ _ _ _ _ _ g e=>JD e λ_ _ _ _ _=>rfl) λd=>
 (qF (qV (nr (no (iI (iH (ii xv))) (no (ct kY (wn a (a1 xv)) hW) (mY (ct (oq Io) (jq xv qK) xv))))) (qG (qU hW)) qQ) (qF (sq (cz (xc d) (a1 (cz (DT O) (a1 (jq xv qK)))))) (qF (sq (d8 (a2 (cz fC (a1 (fk ["_law_room"] (qd (jq xv qK)) ⟨gq,eL,(d8 (a3 xv qK qK))⟩))) (jq xv qK)))) (qF (fo (qd xv) gq (qF (sq (wn b (qA xv (a3 xv xv xv)))) (qG (qV (iI (iH (wn c (a2 xv xv)))) (qG (qU hW)) qQ)))) (qG (qU hW))))))
abbrev sy:dS:=top 40
noncomputable def ro:FS:=(eA (eE (mN (dX 2 fH) (dV (mV 0) (dV (mV 1) dW))) (gN 2))
  (eA (eE (eS (dV (mN (dX 2 (apart gW)) (dV (mV 2) (dV (mC (D.int 8)) dW))) (dV (mN (dX 1 (apart ft)) (dV (mV 2) dW)) dW))) (gT 2 (gj (gN 3) (gj (gN 4) lG))))
  (eA (eE (mN (dX 3 (apart fz)) (dV (mV 2) (dV (mN (b1 fv) (dV (mV 3) dW)) (dV (mC (D.int 4)) dW)))) (gN 5))
  (eA (eE (eS (dV (m2 (b2 d0) (mV 5) (mC (D.int 0))) (dV (mN (b1 gTup) (dV (mN (b1 iC) (dV (m2 (b2 gn) (m2 (b2 d0) (mV 5) (mC (D.int 0))) (m2 (b2 d0) (mV 5) (mC (D.int 1)))) dW)) dW)) dW))) (gN 6))
  (eA (eE (mN (dX 5 (apart eQ)) (dV (mV 2) (dV (mV 3) (dV (mV 4) (dV (mV 6) (dV (mN (dX 2 (apart dY)) (dV (mV 2) (dV (mC (D.int 21)) dW))) dW)))))) (gT 2 (gj (gN 7) (gj (gN 8) lG))))
  (eA (eE (mN (dX 1 gJ) (dV (mV 7) dW)) (gN 9))
  (g0 (Ee (oW (C9 (mN (dX 5 gb) (dV (mV 3) (dV (mV 4) (dV (mV 5) (dV (mV 9) (dV (mV 8) dW)))))))) (mB (m2 (b2 Hr) (mN (b1 oo) (dV (mN (dX 1 gJ) (dV (mV 7) dW)) dW)) (mN (b1 oo) (dV (mV 9) dW))))) (e0 (mC (D.bl J))) pT)))))))
noncomputable def wl:FS:=(pS [M,M,J,J,J,J,J,J,J,J] [M,J,J,J,J,J,J,J,J,J] ro)
noncomputable def Bu:FS:=(eA (jg (vg (dV (mN (b2 DB) (dV (mC (D.int 1)) (dV (mN (b2 DA) (dV (mC (D.int 4)) (dV (mN (b1 fv) (dV (mV 0) dW)) dW))) dW))) dW)) (gN 1) wl)
  (e0 (mC (D.bl M))))
noncomputable def m_law:FN:=gY 10 Bu
theorem FW {f:dF}{fd:dR}(F:yU K "law" "law" sy f fd)(e:fi P w K mg base 4 "_law_drawn_walk" 5 eQ)(d:fi P w K mg base 1 "_law_hand" 2 fH)(l:fi P w K mg base 8 "_law_right" 5 gb)(h:fi P w K mg base 2 "_law_some_eyes" 1 ft)(j:fi P w K mg base 2 "_law_standing" 3 fz)(m:fi P w K mg base 1 "_law_take" 2 dY)(i:fi P w K mg base 3 "_law_web" 2 gW)(c:fi P w K mg base 2 "marking" 1 gJ):
  jR P w K mg base ul 9 f fd ["_law_script"] (BN K 1 m_law):=Ey (k:=8) (n:=1) (N:=["_law_script","_law_k","_law_hand_here","_law_web_here","_law_eyes","_law_standing_here","_law_marked","_law_machine","_law_wholes","_law_other"]) (ps:=["_law_script"]) (b:=Bu) F sk O λo A g s H E a=>
 (qF (fo (ir (a1 (cn (Jb O) (a2 qK (cn (Ja O) (a2 qK (cn fL (a1 xv)))))))) gq (xn [M,M,J,J,J,J,J,J,J,J] [M,J,J,J,J,J,J,J,J,J] (qF (sq (wn d (a2 xv xv))) (qF (mZ 3 4 O (jd O) O O (by decide) O O (a2 (qH i.ap a (by first|decide|omega) rfl (a2 xv qK)) (qH h.ap a (by first|decide|omega) rfl (a1 xv)))) (qF (sq (qH j.ap a (by first|decide|omega) rfl (a3 xv (cn fL (a1 xv)) qK))) (qF (sq (d8 (a2 (jq xv qK) (cz fC (a1 (uz rfl rfl (bz B) rfl (bz B) (qI gk (jq xv qK) (jq xv qK)))))))) (qF (qR (qH e.ap a (by first|decide|omega) rfl (qA xv (qA xv (a3 xv xv (qH m.ap a (by first|decide|omega) rfl (a2 xv qK)))))) (tg2 gq gq)) (qF (sq (wn c (a1 xv))) (qG (qV (nr (no (iI (iH (wn l (qA xv (qA xv (a3 xv xv xv)))))) (mY (ct (oq Io) (cn (Bm a) (a1 (wn c (a1 xv)))) (cn (Bm a) (a1 xv)))))) (qG (qU hW)) qQ)))))))))) (qG (qU hW)))
end
theorem all_mk {l:PySem.W.OpenLaw}{w:dI}{K:Fg1}{h:dQ}{mg:Str->Option dD}{fa f1 f2 f3 f4 f5 f6 f7 f8 f9 S f11 x f13 f14 A f16 F f18 U D wq T f23 f24 E f26 f27 f28 f29 f30 f31 f32:dF}(X:K.In h)(G:h.Ns dJ mg)(hfa:mg "law"=some (.ref fa))
  {g1 g7 g8 o k f:dF}
  {t2 t3 t4 t5 t6 t9 t10 t12 am t15 t16 t18 t19 t20:Tok}
  {od1 od8 c n d W:Option dF} {n1 n8 q r Q n7:Nat} {t ao i j g sl7:Array (Option dD)}
  (a1:eF K "is_whole" nI f1)
  (a2:eF K "is_tuple_of" jS f2)
  (a3:eF K "is_rising" mf f3)
  (a4:eF K "is_eye" sC f4)
  (a5:eF K "is_hand" pB f5)
  (a6:eF K "sights" sx f6)
  (a7:eF K "moods_on" nH f7)
  (a8:eF K "_law_hand" mi f8)
  (a9:eF K "_law_take" mh f9)
  (a10:eF K "_law_far" nP S)
  (a11:eF K "_law_sight" kJ f11)
  (a12:eF K "_law_chalked" i7 x)
  (a13:eF K "_law_alike" kN f13)
  (I:eF K "is_below" nK f14)
  (a15:eF K "are_eyes" nM A)
  (a16:eF K "marking" pA f16)
  (a17:eF K "_law_tie" nO F)
  (a18:eF K "_law_standing" iY f18)
  (a19:eF K "_law_some_eyes" iu U)
  (a20:eF K "_law_beat" mm D)
  (a21:eF K "_law_deed" mj wq)
  (a22:eF K "is_sight" nJ T)
  (a23:eF K "is_deed" pC f23)
  (a24:eF K "_law_web" nN f24)
  (N:eF K "_law_grown" kM E)
  (a26:eF K "is_key" sB f26)
  (u:eF K "_law_drawn_walk" hB f27)
  (a28:eF K "is_row" sA f28)
  (a29:eF K "are_rows" nL f29)
  (a30:eF K "is_machine" kI f30)
  (a31:eF K "_law_right" kK f31)
  (p:eF K "law" sy f32)
  (e_HANDS:wN1 K dJ "HANDS"=Z (Z (Value.ref g1)))
  (h1:K.lookup g1=Z ⟨.type "tuple",od1,.seq ([(Value.str "leave" t2),(Value.str "mark" t3),(Value.str "wipe" t4)]:List dD).toArray n1,t⟩)
  (e_MOODS:wN1 K dJ "MOODS"=Z (Z (Value.int (4000) t5)))
  (e_MOST_ROWS:wN1 K dJ "MOST_ROWS"=Z (Z (Value.int (4000) t6)))
  (e_PARTS:wN1 K dJ "PARTS"=Z (Z (Value.ref g7)))
  (h7:K.lookup g7=Z ⟨.type "tuple",W,.seq ([(Value.ref g8),(Value.ref o),(Value.ref k),(Value.ref f)]:List dD).toArray n7,sl7⟩)
  (h8:K.lookup g8=Z ⟨.type "tuple",od8,.seq ([(Value.str "came" t9),(Value.int (5) t10)]:List dD).toArray n8,ao⟩)
  (L:K.lookup o=Z ⟨.type "tuple",c,.seq ([(Value.str "chalk" t12),(Value.int (2) am)]:List dD).toArray q,i⟩)
  (h14:K.lookup k=Z ⟨.type "tuple",n,.seq ([(Value.str "doors" t15),(Value.int (5) t16)]:List dD).toArray r,j⟩)
  (h17:K.lookup f=Z ⟨.type "tuple",d,.seq ([(Value.str "others" t18),(Value.int (2) t19)]:List dD).toArray Q,g⟩)
  (e_STEPS:wN1 K dJ "STEPS"=Z (Z (Value.int (4) t20)))
  (z:Jn K BL):∃fd:dR,(∀(s:dE) (v:dD),BindsTo s fd ⟨[v],[]⟩ [("_law_script",v)]) /\ ∀base:dQ,K.In base->base.Ns dJ mg->jR l.prog w K mg base ul 9 fa fd ["_law_script"] (BN K 1 m_law):=by
 have e:=hfa.symm.trans (wM1 X G p.ns);cases e;have B:Blt BL mg:=z.blt X G;have c1:CGl K mg "HANDS" rS:=oB (wM1 X G e_HANDS) (l6 h1 (by show 3<=dM;decide) (eX kg (eX kg (eX kg jM))));have c2:CGl K mg "MOODS" iX:=oB (wM1 X G e_MOODS) kh;have c4:CGl K mg "MOST_ROWS" hI:=oB (wM1 X G e_MOST_ROWS) kh;have c0:CGl K mg "PARTS" hH:=oB (wM1 X G e_PARTS) (l6 h7 (by show 4<=dM;decide) (eX (l6 h8 (by show 2<=dM;decide) (eX kg (eX kh jM))) (eX (l6 L (by show 2<=dM;decide) (eX kg (eX kh jM))) (eX (l6 h14 (by show 2<=dM;decide) (eX kg (eX kh jM))) (eX (l6 h17 (by show 2<=dM;decide) (eX kg (eX kh jM))) jM)))));have c3:CGl K mg "STEPS" nj:=oB (wM1 X G e_STEPS) kh;obtain⟨_,⟨⟨_,_,kV,dc,pm,an,cd,ct,_,rfl,lL,cL⟩,kL⟩⟩:=p.fn;refine⟨wF1 "law" "law" (hG sy) (fy sy) (ea sy) .none kV dc pm an cd ct,λs v=>.of_eq O,λbase _ _=>?_⟩;have o0:=sO (P:=l.prog) (w:=w) (base:=base) X G B a1;have m:=nX (P:=l.prog) (w:=w) (base:=base) X G B a2;have o2:=rp (P:=l.prog) (w:=w) (base:=base) X G B a3;have o1:=xT (P:=l.prog) (w:=w) (base:=base) X G B a4 c0;have V:=uZ (P:=l.prog) (w:=w) (base:=base) X G B a5 c1;have o4:=xQ (P:=l.prog) (w:=w) (base:=base) X G B a6 c0;have o3:=sN (P:=l.prog) (w:=w) (base:=base) X G B a7;have o25:=rr (P:=l.prog) (w:=w) (base:=base) X G B a8;have a:=rq (P:=l.prog) (w:=w) (base:=base) X G B a9;have o11:=sV (P:=l.prog) (w:=w) (base:=base) X G B a10;have o7:=oS (P:=l.prog) (w:=w) (base:=base) X G B a11;have o6:=mO (P:=l.prog) (w:=w) (base:=base) X G B a12;have o22:=oV (P:=l.prog) (w:=w) (base:=base) X G B a13;have o8:=sQ X G B I o0;have C:=sS X G B a15 o1 o2;have o30:=uY X G B a16 o3 o4;have o12:=sU X G B a17 a;have o28:=lT X G B a18 a;have y:=kT X G B a19 a;have b:=rA X G B a20 o6 o7;have o13:=rz X G B a21 a;have aq:=sP X G B a22 c0 o8 m;have au:=u4 X G B a23 c2 c3 o8 V m;have R:=sT X G B a24 o11 a o12;have o16:=oU X G B N o13 o7 a;have o18:=xS X G B a26 c2 o8 aq m;have o24:=j8 X G B u b o16;have o19:=xR X G B a28 au o18 m;have o21:=sR X G B a29 c4 o2 o19;have o23:=oR X G B a30 C o21 m;have H:=oT X G B a31 o22 b o23;exact FW (P:=l.prog) (w:=w) (base:=base) X G B (AZ lL cL kL) o24 o25 H y o28 a R o30
noncomputable def hnd(g m c:Int):Ob:=.lst [.int g,.int m,.int c]
noncomputable def Gd(m c:Int):Int:=(m+65537*c*c+11)*48271%2305843009213693921
noncomputable def Ao(m c:Int):Int:=Gd m c*(Gd m c%1000003+99991*c)%2305843009213693907
theorem Jd{a b c:D}:vE [a,b,c] 0=Z a:=by rfl
theorem Kw{a b c:D}:vE [a,b,c] 1=Z b:=by rfl
theorem Kv{a b c:D}:vE [a,b,c] 2=Z c:=by rfl
theorem EO{T:Sto}{g m c k:Int}(hg:0<g)(hk:0<k)(a:k<1073741824):
  dY [.ref 0,.int k] (hnd g m c::T)=Z (.int (g%k),hnd (g/k) m c::T):=by
 simp[dY,gY,gM,js,eA,g0,mB,m2,b2,iD,mV,mC,d0,mQ,BP,d5,hnd,hg,hk,a,eE,gN,lg,vn,gS,b3,jl,mD,ke,e0,Jd,yd]
theorem EN{T:Sto}{g m c k:Int}(hg:¬ 0<g)(hk:0<k)(a:k<1073741824)(hc:0<=c)(e:c<2^60):
  dY [.ref 0,.int k] (hnd g m c::T)=Z (.int ((Ao m (c+1)/97+Ao m (c+1)/1000033)%k),hnd g m (c+1)::T):=by
 have f:eY 65537 (c+1)=M:=pP (by decide) (by decide);have h:eY (65537*(c+1)) (c+1)=M:=wv (by omega) (by omega);have i:eY (m+65537*(c+1)*(c+1)+11) 48271=M:=wv (by decide) (by decide);have d:eY 99991 (c+1)=M:=pP (by decide) (by decide);have q:=Int.emod_lt_of_pos ((m+65537*(c+1)*(c+1)+11)*48271) (show(0:Int)<2305843009213693921 by decide);have j:=Int.emod_nonneg ((m+65537*(c+1)*(c+1)+11)*48271) (show(2305843009213693921:Int)≠0 by decide);have b:eY ((m+65537*(c+1)*(c+1)+11)*48271%2305843009213693921) ((m+65537*(c+1)*(c+1)+11)*48271%2305843009213693921%1000003+99991*(c+1))=M:=pP (by omega) (by omega);simp[dY,gY,gM,js,eA,g0,mB,m2,b2,iD,mV,mC,d0,mQ,BP,d5,hnd,hg,hk,a,eE,gN,lg,vn,gS,b3,jl,mD,ke,e0,Jd,Kw,Kv,yd,pT,gn,jP,f,h,i,d,b,Gd,Ao]
def gA(o:Ob)(n:Nat):Prop:=∃g m c:Int,o=hnd g m c/\0<=c/\c<=n
theorem gA.und{o:Ob}{n k:Nat}(h:gA o n):o.und k=M:=by
 obtain⟨g,m,c,rfl,_⟩:=h;rfl
theorem gA.more{o:Ob}{n k:Nat}(h:gA o n)(hk:n<=k):gA o k:=by
 obtain⟨g,m,c,e,a,h1⟩:=h;exact⟨g,m,c,e,a,by lia⟩
theorem fF{o:Ob}{n:Nat}{k:Int}{T:Sto}{Q:D×Sto->Prop}(ho:gA o n)(hn:n<=2^50)(hk:0<k)(a:k<1073741824)(h:∀(d:Nat) o',gA o' (n+1)->(d:Int)<k->Q (.int d,o'::T)):W (dX 2 dY [.ref 0,.int k] (o::T)) Q:=by
 obtain⟨g,m,c,rfl,i,h1⟩:=ho;have call:∀d o',dY [.ref 0,.int k] (hnd g m c::T)=Z (d,o'::T)->dX 2 dY [.ref 0,.int k] (hnd g m c::T)=Z (d,o'::T):=λd o e=>l9 e O (by simp[D.unds,D.und]) (by simp);by_cases f:0<g
 ·have b:=Int.emod_nonneg g (show k≠0 by lia);obtain⟨d,e⟩:=Int.eq_ofNat_of_zero_le b;refine⟨_,call _ _ (EO f hk a),?_⟩;rw[e];exact h d _ ⟨_,_,_,O,i,by lia⟩ (by rw[<- e];exact Int.emod_lt_of_pos _ hk)
 ·have b:=Int.emod_nonneg (Ao m (c+1)/97+Ao m (c+1)/1000033) (show k≠0 by lia);obtain⟨d,e⟩:=Int.eq_ofNat_of_zero_le b;refine⟨_,call _ _ (EN f hk a i (by lia)),?_⟩;rw[e];exact h d _ ⟨_,_,_,O,by lia,by push_cast;lia⟩ (by rw[<- e];exact Int.emod_lt_of_pos _ hk)
theorem AU(ns:List Int)(k:Int)(h0:0<=k)(hk:k<63):∃g m,fH [.rol (ns.map D.int),.int k] []=Z (.ref 0,[hnd g m 0]):=by
 have h:eY (10^60) (10^30)=M:=by decide+kernel
 have c:eY 7919 k=M:=pP (by decide) (by decide);have e:eY 0 0=M:=pP (by decide) (by decide);have d:∀(x:Int) (b:Prop) [Decidable b],eY x (if b then 1 else 0)=M:=λx b _=>by
  split
  ·exact wv (by decide) (by decide)
  ·exact wv (by decide) (by decide)
 have lt:wT (.int k) (.int ns.length) []=Z (.bl (decide (k<ns.length)),[]):=by rfl
 by_cases f:k<ns.length
 ·have a:vE (ns.map D.int) k=some (.int (ns[k.toNat]'(by lia))):=by
   unfold vE yd;rw[ak h0,ak (by simpa using f)];simp[show k.toNat<ns.length by lia]
  generalize i:ns[k.toNat]'(by lia)=x at a
  simp[fH,gY,gM,jt,eA,g0,mB,m2,b2,b1,mN,dV,dW,iD,mV,mC,d0,mQ,BP,fv,d5,eE,gN,lg,jP,gn,vk,oZ,e0,j9,lt,f,a,c,d,dM,hnd,pT];simp[show eY 1000000000000000000000000000000000000000000000000000000000000 1000000000000000000000000000000=M from h,c,d]
 ·simp[fH,gY,gM,jt,eA,g0,mB,m2,b2,b1,mN,dV,dW,iD,mV,mC,d0,mQ,BP,fv,d5,eE,gN,lg,jP,gn,vk,oZ,e0,j9,lt,f,c,d,dM,hnd,pT];simp[show eY 1000000000000000000000000000000000000000000000000000000000000 1000000000000000000000000000000=M from h,e,c,d]
theorem Dx(ns:List Int)(k:Int)(h0:0<=k)(hk:k<63):∃o,dX 2 fH [.rol (ns.map D.int),.int k] []=Z (.ref 0,[o])/\gA o 0:=by
 have key:=AU ns k h0 hk;obtain⟨g,m,e⟩:=key;refine⟨hnd g m 0,?_,_,_,_,O,Int.le_refl _,Int.le_refl _⟩;rw[Bl (n:=2) e O (by rw[D.unds,D.und,lJ];rfl) (by simp[D.und])];simp[D.sh,Ob.sh,D.shs,hnd]
noncomputable def ins(k:Nat)(e:Nat×Nat)(row:List (Nat×Nat)):List (Nat×Nat):=row.take k++e::row.drop k
theorem lc{k:Nat}{e:Nat×Nat}{row:List (Nat×Nat)}:(ins k e row).length=row.length+1:=by
 unfold ins;rw[lA1,lC1,aR,aV];lia
theorem mem_ins{k:Nat}{e x:Nat×Nat}{row:List (Nat×Nat)}:x∈ins k e row↔x=e\/x∈row:=by
 unfold ins;rw[aG,aF]
 conv=>rhs;rhs;rw[<- cG k row,aG]
 constructor
 ·rintro(h|h|h)
  ·exact .inr (.inl h)
  ·exact .inl h
  ·exact .inr (.inr h)
 ·rintro(h|h|h)
  ·exact .inr (.inl h)
  ·exact .inl h
  ·exact .inr (.inr h)
theorem wM{k:Nat}{e:Nat×Nat}{row:List (Nat×Nat)}:(row.map pD).take k++pD e::(row.map pD).drop k=(ins k e row).map pD:=by
 unfold ins;rw[cu,mP1,List.map_take,List.map_drop]
theorem jv{t m i:Nat}{T:Sto}{E:List (List (Nat×Nat))}{P:List (Nat×Nat)}{U:Sto}{o:Ob}{Q:D×Sto->Prop}(w:WS t m T E P U)(hi:i<m)(q:Q (.ref (t+i+1),o::U)):W (d0 (.ref (t+m+1)) (.int i) (o::U)) Q:=
 oO (xs:=j7 (t+1) m) (x:=.ref (t+i+1)) (by rw[gC1];exact w.ends) (by rw[rh hi];congr 2;lia) q
theorem zi{t m a b n:Nat}{T:Sto}{E:List (List (Nat×Nat))}{P:List (Nat×Nat)}{U:Sto}{o:Ob}{Q:D×Sto->Prop}(w:WS t m T E P U)(ho:gA o n)(hn:n<=2^45)(ha:a<m)(hb:b<m){c:List (Nat×Nat)}(u:E[a]? = some c)(L:c.length<100)(F:∀ rb,E[b]? = some rb->rb.length<100)(am:P.length<500)(h:∀g i rb o' z,gA o' (n+2)->(E.set a (ins g (P.length,0) c))[b]?=some rb->WS t m T ((E.set a (ins g (P.length,0) c)).set b (ins i (P.length,1) rb)) (P++[(a,b)]) z->Q (.non,o'::z)):
  W (dX 5 fU [.ref 0,.ref (t+m+1),.ref (t+m+2),.int a,.int b] (o::U)) Q:=by
 have key:W (fU [.ref 0,.ref (t+m+1),.ref (t+m+2),.int a,.int b] (o::U)) λp=>p.2.length=(o::U).length/\Q p:=by
  unfold fU;refine mR ?_;unfold oK;refine eZ (λr S=>∃g o',gA o' (n+1)/\r=[Z (.ref 0),Z (.ref (t+m+1)),Z (.ref (t+m+2)),Z (.int a),Z (.int b)]/\S=o'::U.set (t+a) (sD (ins g (P.length,0) c))) ?_ ?_
  ·walk_at"w";refine lE ?_;walk_at"w";refine jv w ha ?_;refine⟨t+a+1,c.map pD,O,by rw[gC1];exact w.row a c u,?_⟩;walk_at"w";refine jv w ha ?_;walk_at"w";refine eN (xs:=c.map pD) (by rw[gC1];exact w.row a c u) ?_;walk_at"w";rw[lM1,show((c.length:Int)+1)=((c.length+1:Nat):Int) by push_cast;rfl];refine fF ho (by lia) (by lia) (by lia) λg A s G=>?_;walk_at"w";refine eN (xs:=P.map pD) (by rw[gC1];exact w.prs) ?_;walk_at"w";rw[lM1];refine Er (xs:=c.map pD) (v:=pD (P.length,0)) (k:=g) (by rw[gC1];exact w.row a c u) (by rw[lM1];lia) (by rw[lM1];lia) ?_;refine⟨g,A,s,?_⟩;rw[wM,c7];rfl
  rintro r S ⟨g,A,s,rfl,rfl⟩;have j:=w.setRow (row:=ins g (P.length,0) c) ha;obtain⟨rb,f⟩:∃rb,(E.set a (ins g (P.length,0) c))[b]?=some rb:=by
   have:b<(E.set a (ins g (P.length,0) c)).length:=by rw[j.el];exact hb
   exact⟨_,gG1 this⟩
  have H:rb.length<200:=by
   by_cases e:a=b
   ·subst e;rw[aI (by rw[w.el];exact ha)]at f;cases f;rw[lc];lia
   ·rw[gS1 e]at f;have:=F rb f;lia
  refine eZ (λr S=>∃i o',gA o' (n+2)/\r=[Z (.ref 0),Z (.ref (t+m+1)),Z (.ref (t+m+2)),Z (.int a),Z (.int b)]/\S=o'::(U.set (t+a) (sD (ins g (P.length,0) c))).set (t+b) (sD (ins i (P.length,1) rb))) ?_ ?_
  ·walk_at"w";refine lE ?_;walk_at"w";refine jv j hb ?_;refine⟨t+b+1,rb.map pD,O,by rw[gC1];exact j.row b rb f,?_⟩;walk_at"w";refine jv j hb ?_;walk_at"w";refine eN (xs:=rb.map pD) (by rw[gC1];exact j.row b rb f) ?_;walk_at"w";rw[lM1,show((rb.length:Int)+1)=((rb.length+1:Nat):Int) by push_cast;rfl];refine fF s (by lia) (by lia) (by lia) λi y l I=>?_;walk_at"w";refine eN (xs:=P.map pD) (by rw[gC1];exact j.prs) ?_;walk_at"w";rw[lM1];refine Er (xs:=rb.map pD) (v:=pD (P.length,1)) (k:=i) (by rw[gC1];exact j.row b rb f) (by rw[lM1];lia) (by rw[lM1];lia) ?_;refine⟨i,y,l,?_⟩;rw[wM,c7];rfl
  rintro r S ⟨i,y,l,rfl,rfl⟩;have x:=j.setRow (row:=ins i (P.length,1) rb) hb;walk_at"w";refine lE ?_;walk_at"w";refine⟨t+m+2,P.map pD,O,by rw[gC1];exact x.prs,?_⟩
  try walk_at"w"
  rw[ug (xs:=P.map pD) (by rw[gC1];exact x.prs)];refine⟨ed (by rw[lM1];lia),?_,?_⟩
  ·simp
  ·have B:=x.setPrs (P':=P++[(a,b)]);rw[c7];have e:P.map pD++[D.tup [D.int ↑a,D.int ↑b]]=(P++[(a,b)]).map pD:=by simp[pD]
   rw[e];exact h g i rb y _ l f B
 obtain⟨⟨d,K⟩,e,C,q⟩:=key;exact⟨_,l9 e O O C,q⟩
abbrev eB:=List (List (Nat×Nat))
structure WI (m:Nat)(E:eB)(P:List (Nat×Nat)):Prop where
 len:E.length=m
 pr:∀(i:Nat) (p:Nat×Nat),P[i]?=some p->(∃r0,E[p.1]?=some r0/\(i,0)∈r0) /\ ∃r1,E[p.2]?=some r1/\(i,1)∈r1
 en:∀(i:Nat) (row:List (Nat×Nat)),E[i]?=some row -> ∀e∈row,e.1<P.length/\e.2<=1
 le:∀(i:Nat) (row:List (Nat×Nat)),E[i]?=some row->row.length<=4
 tt:tot E=2*P.length
theorem nG{E:eB}{i k:Nat}{e:Nat×Nat}{row:List (Nat×Nat)}(h:E[i]?=Z row){j:Nat}{r:List (Nat×Nat)}(a:E[j]?=Z r):∃r',(E.set i (ins k e row))[j]?=Z r' /\ ∀x∈r,x∈r':=by
 by_cases z:i=j
 ·subst z;rw[h]at a;cases a;exact⟨_,aI (gE1.mp h).1,λx b=>mem_ins.mpr (.inr b)⟩
 ·exact⟨r,by rw[gS1 z];exact a,λx b=>b⟩
theorem kH{E:eB}{i k:Nat}{e:Nat×Nat}{row:List (Nat×Nat)}(h:E[i]?=Z row){j:Nat}{b:List (Nat×Nat)}(a:(E.set i (ins k e row))[j]?=Z b):(i=j/\b=ins k e row)\/(i≠j/\E[j]?=Z b):=by
 by_cases z:i=j
 ·subst z;rw[aI (gE1.mp h).1]at a;cases a;exact .inl ⟨O,O⟩
 ·rw[gS1 z]at a;exact .inr ⟨z,a⟩
theorem WI.tie{m a b h r:Nat}{E:eB}{P:List (Nat×Nat)}{f u:List (Nat×Nat)}(w:WI m E P)(ha:E[a]? = some f)(L:f.length<4)(hb:(E.set a (ins h (P.length,0) f))[b]? = some u)(ao:u.length<4):
  WI m ((E.set a (ins h (P.length,0) f)).set b (ins r (P.length,1) u)) (P++[(a,b)]):=by
 have a1:(E.set a (ins h (P.length,0) f))[a]?=Z (ins h (P.length,0) f):=aI (gE1.mp ha).1;refine⟨by rw[aW,aW];exact w.len,λi p o=>?_,λj c d e g=>?_,λj c d=>?_,?_⟩
 ·by_cases hi:i<P.length
  ·rw[gL1 hi]at o;obtain⟨⟨K,H,C⟩,am,h1,m1⟩:=w.pr i p o;obtain⟨t,l,x⟩:=nG (k:=h) (e:=(P.length,0)) ha H;obtain⟨n,q,B⟩:=nG (k:=r) (e:=(P.length,1)) hb l;obtain⟨F,z,I⟩:=nG (k:=h) (e:=(P.length,0)) ha h1;obtain⟨s,v,A⟩:=nG (k:=r) (e:=(P.length,1)) hb z;exact⟨⟨n,q,B _ (x _ C)⟩,s,v,A _ (I _ m1)⟩
  ·have y:i=P.length:=by
    have:=(gE1.mp o).1;simp at this;lia
   subst y;rw[List.getElem?_concat_length]at o;cases o;obtain⟨t,l,x⟩:=nG (k:=r) (e:=(P.length,1)) hb a1;exact⟨⟨t,l,x _ (mem_ins.mpr (.inl O))⟩,_,aI (gE1.mp hb).1,mem_ins.mpr (.inl O)⟩
 ·rw [lA1,aY];have old:∀ (j:Nat) (c:List (Nat×Nat)),(E.set a (ins h (P.length,0) f))[j]? = some c -> ∀ e∈c,e.1<P.length+1/\e.2<=1:=fun j c d e g=>by
   rcases kH ha d with⟨_,rfl⟩|⟨_,d⟩
   ·rcases mem_ins.mp g with rfl|g
    ·exact⟨by simp,by simp⟩
    ·have:=w.en a f ha e g;exact⟨by lia,this.2⟩
   ·have:=w.en j c d e g;exact⟨by lia,this.2⟩
  rcases kH hb d with⟨_,rfl⟩|⟨_,d⟩
  ·rcases mem_ins.mp g with rfl|g
   ·exact⟨by simp,by simp⟩
   ·exact old b u hb e g
  ·exact old j c d e g
 ·rcases kH hb d with⟨_,rfl⟩|⟨_,d⟩
  ·rw[lc];lia
  ·rcases kH ha d with⟨_,rfl⟩|⟨_,d⟩
   ·rw[lc];lia
   ·exact w.le j c d
 ·have D:=qC (row':=ins h (P.length,0) f) ha;have G:=qC (row':=ins r (P.length,1) u) hb;have:=w.tt;rw[lc]at D G;rw[lA1,aY];lia
noncomputable def webD(w:eB):D:=.tup (w.map λrow=>.tup (row.map pD))
structure oN (m:Nat)(w:eB):Prop where
 len:w.length=m
 le:∀row∈w,row.length<=4
 to:∀row∈w,∀e∈row,∃r,w[e.1]?=some r/\e.2<r.length
theorem kw(w:eB):(webD w).und 0=M:=by
 unfold webD;rw[D.und];exact eR λa _=>by rw[D.und];exact eR λ_ _=>rfl
noncomputable def vq(E:eB)(P:List (Nat×Nat))(e:Nat×Nat):Nat×Nat:=
 let p:=P.getD e.1 (0,0)
 let room:=if e.2=0 then p.2 else p.1
 (room,((E.getD room []).findIdx? (· == (e.1,1-e.2))).getD 0)
theorem A2{m:Nat}{E:eB}{P:List (Nat×Nat)}(w:WI m E P){i:Nat}{row:List (Nat×Nat)}(hr:E[i]? = some row){e:Nat×Nat}(he:e∈row):
  ∃p a r j,P[e.1]?=Z p/\e.2<=1/\a=(if e.2=0 then p.2 else p.1)/\E[a]?=Z r/\r.findIdx? (· == (e.1,1-e.2))=Z j/\j<r.length/\vq E P e=(a,j):=by
 obtain⟨h1,h2⟩:=w.en i row hr e he;obtain⟨p,c⟩:∃p,P[e.1]?=some p:=⟨_,gG1 h1⟩;obtain⟨⟨o,l,s⟩,n,q,m1⟩:=w.pr _ p c;have b:∀(r:List (Nat×Nat)) (x:Nat×Nat),x∈r -> ∃j,r.findIdx? (· == x)=Z j/\j<r.length:=λr x t=>by
  cases h:r.findIdx? (· == x)with
  |none=>
   rw[List.findIdx?_eq_none_iff]at h;have:=h x t;simp at this
  |some j=>exact⟨j,O,(b6.mp h).1⟩
 by_cases g:e.2=0
 ·obtain⟨j,f,k⟩:=b n (e.1,1) m1;refine⟨p,p.2,n,j,c,h2,by rw[ak g],q,by rw[g];exact f,k,?_⟩;simp[vq,bK,c,q,g,f]
 ·have d:e.2=1:=by lia
  obtain⟨j,f,k⟩:=b o (e.1,0) s;refine⟨p,p.1,o,j,c,h2,by rw[aj g],l,by rw[d];exact f,k,?_⟩;simp[vq,bK,c,l,d,f]
theorem EB{m:Nat}{E:eB}{P:List (Nat×Nat)}(w:WI m E P):oN m (E.map λb=>b.map (vq E P)):=by
 refine⟨by rw[lM1];exact w.len,?_,?_⟩
 ·intro b c;obtain⟨r,a,rfl⟩:=cc.mp c;obtain⟨i,hi⟩:=bq a;rw[lM1];exact w.le i r hi
 ·intro b c e k;obtain⟨r,a,rfl⟩:=cc.mp c;obtain⟨i,hi⟩:=bq a;obtain⟨x,l,rfl⟩:=cc.mp k;obtain⟨p,d,n,j,_,_,_,g,o,h,f⟩:=A2 w hi l;rw[f];exact⟨n.map (vq E P),by rw[gP1,g];rfl,by rw[lM1];exact h⟩
theorem pF:∀(k n:Nat),j7 n (k+1)=j7 n k++[.ref (n+k)]
 |0,n=>rfl
 |k+1,n=>by
  rw[j7,pF k (n+1),j7,bj,show n+1+k=n+(k+1) by lia]
theorem y0{t m:Nat}{T:Sto}(tl:T.length=t):WS t m T (aP m []) [] (T++(aP m (.lst [])++[.lst (j7 (t+1) m),.lst []])):=by
 refine⟨tl,by rw[<- tl,da],by simp,λi a h=>?_,?_,?_⟩
 ·have hi:i<m:=by have:=(gE1.mp h).1;simpa using this
  rw[aS,ak hi]at h;cases h;rw[<- tl,gF,gL1 (by simpa using hi),aS,ak hi];rfl
 ·rw[<- tl,gF,gR1 (by simp)];simp
 ·rw[<- tl,bm,gF,gR1 (by simp)];simp
theorem y1(m:Nat):WI m (aP m []) []:=by
 refine⟨by simp,λi p h=>by simp at h,λi a h=>?_,λi a h=>?_,by simp[tot]⟩
 ·rw[aS]at h;split at h
  ·cases h;intro e b;simp at b
  ·cases h
 ·rw[aS]at h;split at h
  ·cases h;simp
  ·cases h
theorem EM{t m i n:Nat}{T U:Sto}{E:eB}{P:List (Nat×Nat)}{o:Ob}{x6:Option D}{Q:Fl×Ev×Sto->Prop}(w:WS t m T E P U)(v:WI m E P)(ho:gA o n)(hn:n<=2^44)(hP:P.length=i)(hi:i+1<m)(hm:m<=8)(he:∀j row,i+1<=j->E[j]?=some row->row=[])(h:∀au S o' V N,WS t m T au S V->WI m au S->gA o' (n+3)->S.length=i+1->(∀j row,i+2<=j->au[j]?=some row->row=[]) ->
   Q (.nx,[Z (.ref 0),Z (.int 8),Z (.int m),Z (.ref (t+m+1)),Z (.ref (t+m+2)),Z (.int ((i+1:Nat):Int)),N,Y,Y,Y],o'::V)):
  W (iQ [Z (.ref 0),Z (.int 8),Z (.int m),Z (.ref (t+m+1)),Z (.ref (t+m+2)),Z (.int ((i+1:Nat):Int)),x6,Y,Y,Y] (o::U)) Q:=by
 have e:∀j,j<m -> ∃row,E[j]?=Z row:=λj f=>⟨_,gG1 (by rw[v.len];exact f)⟩
 let k:Nat->Bool:=λj=>decide ((E.getD j []).length<4)
 unfold iQ;walk_at"w";rw[mx,Int.toNat_natCast];refine⟨gx (by lia),?_⟩;refine jL k (λj:Nat=>.int j) (λr=>∃x,r=[x,Z (.ref (t+m+1))]) O (af (i+1)) _ ⟨_,O⟩ ?_ ?_
 ·rintro j f r ⟨x,rfl⟩;have p:j<m:=by have:=aB.mp f;lia
  obtain⟨row,c⟩:=e j p;walk_at"w";refine jv w p ?_;walk_at"w";refine eN (xs:=row.map pD) (by rw[gC1];exact w.row j row c) ?_;walk_at"w";refine⟨?_,⟨_,O⟩,λ_=>trivial⟩;simp only[k,bK,c,b7,lM1];rw[bQ,al,al];lia
 ·rintro r' _;walk_at"w";have u:(List.range (i+1)).filter k≠[]:=by
   intro z;have s:∀j row,j<i+1->E[j]?=Z row->4<=row.length:=λj row f wq=>by
    have:=List.filter_eq_nil_iff.mp z j (aB.mpr f);simp only[k,bK,wq,b7,al]at this;lia
   have:=zd (E:=E) (k:=i+1) (by rw[v.len];lia) s;have:=v.tt;lia
  generalize X:(af (i+1)).filter k=L at u;have ao:∀j∈L,j<i+1/\k j=M:=λj f=>by
   rw[<- X,aA]at f;exact⟨aB.mp f.1,f.2⟩
  have hLl:L.length<=8:=by
   rw[<- X];have:=dj k (af (i+1));simp at this;lia
  refine⟨ed (by rw[lM1];lia),?_⟩;refine eN (xs:=L.map λj:Nat=>D.int j) (by rw[gC1,eM];rfl) ?_;walk_at"w";rw[lM1];have hL0:0<L.length:=c8.mpr u;refine fF ho (by lia) (by lia) (by lia) λd o1 K hd=>?_;have C:d<L.length:=by lia
  refine oO (i:=d) (xs:=L.map λj:Nat=>D.int j) (x:=.int (L[d]:Nat)) (by rw[gC1,eM];rfl) (by rw[gP1,gG1 C];rfl) ?_;generalize f:L[d]=j;obtain⟨hj1,A⟩:=ao j (by rw[<- f];exact bS C);obtain⟨row,c⟩:=e j (by lia);have R:row.length<4:=by
   simp only[k,bK,c,b7,al]at A;exact A
  obtain⟨I,l⟩:=e (i+1) hi;have H:=he (i+1) I (nR1 _) l;subst H;walk_at"w";refine zi (a:=j) (b:=i+1) (w.app (G:=[Ob.lst (L.map λj:Nat=>D.int j)])) K (by lia) (by lia) hi c (by lia) (λI aq=>by rw[l]at aq;cases aq;simp) (by lia) λk1 k2 I o2 U2 am g w2=>?_;have B:j≠i+1:=by lia
  have F:I=[]:=by
   rw[gS1 B,l]at g;cases g;rfl
  walk_at"w";refine h _ _ o2 U2 _ w2 (v.tie c R g (by rw[F];simp)) (am.more (by lia)) (by simp[hP]) λj' y p q=>?_;rw[gS1 (by lia),gS1 (by lia)]at q;exact he j' y (by lia) q
theorem Ga{t m n:Nat}{T U:Sto}{E:eB}{P:List (Nat×Nat)}{o:Ob}{y am B wq au:Option D}{Q:Fl×Ev×Sto->Prop}(w:WS t m T E P U)(v:WI m E P)(ho:gA o n)(hn:n<=2^44)(hP:P.length<100)(aq:0<m)(hm:m<=8)(h:∀ao G o' K I H,WS t m T ao G K->WI m ao G->gA o' (n+4)->G.length<=P.length+1 ->
   Q (.nx,[Z (.ref 0),Z (.int 8),Z (.int m),Z (.ref (t+m+1)),Z (.ref (t+m+2)),y,am,B,I,H],o'::K)):
  W (iP [Z (.ref 0),Z (.int 8),Z (.int m),Z (.ref (t+m+1)),Z (.ref (t+m+2)),y,am,B,wq,au] (o::U)) Q:=by
 have f:∀j,j<m -> ∃row,E[j]?=Z row:=λj X=>⟨_,gG1 (by rw[v.len];exact X)⟩;unfold iP;walk_at"w";refine fF ho (by lia) (by lia) (by lia) λa o1 z ha=>?_;walk_at"w";refine fF z (by lia) (by lia) (by lia) λb N i q=>?_;obtain⟨L,d⟩:=f a (by lia);obtain⟨r,e⟩:=f b (by lia);walk_at"w";refine jv w (by lia) ?_;walk_at"w";refine eN (xs:=L.map pD) (by rw[gC1];exact w.row a L d) ?_;walk_at"w";rw[lM1];have g:Q (.nx,[Z (.ref 0),Z (.int 8),Z (.int m),Z (.ref (t+m+1)),Z (.ref (t+m+2)),y,am,B,Z (.int a),Z (.int b)],N::U):=
  h E P N U _ _ w v (i.more (by lia)) (by lia)
 split
 ·rename_i F;rw [decide_eq_true_eq] at F;refine jv w (by lia) ?_;walk_at"w";refine eN (xs:=r.map pD) (by rw [gC1];exact w.row b r e) ?_;walk_at"w";rw [lM1];have S:((a:Int) == (b:Int))=decide (a=b):=by
   rw[bQ,beq_iff_eq,al];lia
  rw[S];by_cases k:a=b
  ·subst k;rw[d]at e;cases e;walk_at"w";split
   ·rename_i l;simp at l;refine zi w i (by lia) (by lia) (by lia) d (by lia) (fun r q=>by rw [d] at q;cases q;lia) (by lia) fun R V r x u p c A=>?_;have C:r.length<4:=by
     rw[aI (by rw[v.len];lia)]at c;cases c;rw[lc];lia
    exact h _ _ x u _ _ A (v.tie d (by lia) c C) (p.more (by lia)) (by simp)
   ·exact g
  ·simp only[ai k];walk_at"w";split
   ·rename_i l;simp at l;refine zi w i (by lia) (by lia) (by lia) d (by lia) (fun s q=>by rw [e] at q;cases q;lia) (by lia) fun R V s x u p c A=>?_;have C:s.length<4:=by
     rw[gS1 k,e]at c;cases c;lia
    exact h _ _ x u _ _ A (v.tie d (by lia) c C) (p.more (by lia)) (by simp)
   ·exact g
 ·try walk_at"w"
  exact g
theorem IV{t m i:Nat}{T U:Sto}{E:eB}{P:List (Nat×Nat)}{o:Ob}{row:List (Nat×Nat)}{e:Nat×Nat}{Q:D×Sto->Prop}(w:WS t m T E P U)(v:WI m E P)(hr:E[i]? = some row)(he:e∈row)(q:Q (pD (vq E P e),o::U)):
  W (dX 3 gm [.ref (t+m+1),.ref (t+m+2),pD e] (o::U)) Q:=by
 obtain⟨p,a,r,j,h1,h2,n,c,y,B,z⟩:=A2 v hr he;have key:W (gm [.ref (t+m+1),.ref (t+m+2),pD e] (o::U)) λp=>p.2=o::U/\Q p:=by
  unfold gm;refine mR ?_;unfold oM;have b:a<m:=by rw[<- v.len];exact(gE1.mp c).1
  have h:∀Q:D×Sto->Prop,Q (.int e.1,o::U)->W (d0 (pD e) (.int 0) (o::U)) Q:=λQ q=>hV (i:=0) O q;have l:∀Q:D×Sto->Prop,Q (.int e.2,o::U)->W (d0 (pD e) (.int 1) (o::U)) Q:=λQ q=>hV (i:=1) O q;have g:((1:Int)-(e.2:Int))=((1-e.2:Nat):Int):=by lia
  walk_at"w";refine h _ ?_;refine oO (i:=e.1) (xs:=P.map pD) (x:=pD p) (by rw[gC1];exact w.prs) (by rw[gP1,h1];rfl) ?_;refine l _ ?_;walk_at"w";rw[g];refine hV (i:=1-e.2) (x:=.int a) ?_ ?_
  ·rw[n];by_cases f:e.2=0
   ·rw[f,ak O];rfl
   ·rw[aj f,show e.2=1 by lia];rfl
  walk_at"w";refine lE ?_;walk_at"w";refine jv w b ?_;refine⟨t+a+1,r.map pD,O,by rw[gC1];exact w.row a r c,?_⟩;walk_at"w";refine h _ ?_;refine l _ ?_;walk_at"w";rw[g];refine G9 (e:=(e.1,1-e.2)) (row:=r) (j:=j) (by rw[gC1];exact w.row a r c) (by have:=v.le a r c;lia) y ?_;refine⟨O,?_⟩;rw[z]at q;exact q
 obtain⟨⟨d,A⟩,u,k,s⟩:=key;dsimp only at k;subst k;exact⟨_,l9 u O O O,s⟩
theorem Hw{o:Ob}{n:Nat}{T:Sto}{Q:D×Sto->Prop}(ho:gA o n)(hn:n<=2^40)(hT:T.all (Ob.und (T.length+1))=M)(h:∀m w o',0<m->m<=8->oN m w->gA o' (n+100)->Q (webD w,o'::T)):W (dX 2 gW [.ref 0,.int 8] (o::T)) Q:=by
 refine xa O O hT ?_;unfold gW;refine mR ?_;unfold oJ;generalize aq:T.length=t;refine eZ (λr S=>∃(m:Nat) (s:Ob),0<m/\m<=8/\gA s (n+1)/\r=[Z (.ref 0),Z (.int 8),Z (.int m),Y,Y,Y,Y,Y,Y,Y]/\S=s::T) ?_ ?_
 ·walk_at"w";refine fF ho (by lia) (by lia) (by lia) λc s y hc=>?_;walk_at"w";exact⟨c+1,s,by lia,by lia,y,by simp[Int.add_comm],O⟩
 rintro r S ⟨m,s,I,wq,y,rfl,rfl⟩;refine eZ (λr S=>∃U,WS t m T (aP m []) [] U/\r=[Z (.ref 0),Z (.int 8),Z (.int m),Z (.ref (t+m+1)),Z (.ref (t+m+2)),Y,Y,Y,Y,Y]/\S=s::U) ?_ ?_
 ·walk_at"w";refine⟨gx (by lia),?_⟩;rw[Int.toNat_natCast];refine jH (λi p r S=>p=j7 (t+1) i/\S=s::(T++aP i (.lst [])) /\ ∃x,r=[x]) (gP 0 m) 0 [] _ _ ⟨O,by simp,_,O⟩ (λ_ _ _ _ _=>rfl) ?_ ?_
  ·rintro i d q p r S ⟨rfl,rfl,x,rfl⟩;walk_at"w";rw[cY];refine⟨?_,?_,_,O⟩
   ·rw[pF,aq,lR1]
    congr 3
    lia
   ·rw[List.replicate_succ']
  ·rintro xs r S ⟨e,rfl,_⟩;rw[cW,cY,f0]at e;subst e;rw[cY,f0];walk_at"w";rw[kQ];refine⟨ed (by lia),_,y0 aq,?_,O⟩;simp[aq]
 rintro r S ⟨U0,w0,rfl,rfl⟩;refine eZ (λr S=>∃E P b U g k,WS t m T E P U/\WI m E P/\P.length<=8/\gA b (n+40)/\r=[Z (.ref 0),Z (.int 8),Z (.int m),Z (.ref (t+m+1)),Z (.ref (t+m+2)),g,k,Y,Y,Y]/\S=b::U) ?_ ?_
 ·walk_at"w";refine⟨Bq (by decide) (by decide),gx (by lia),?_⟩;refine gr (λi r S=>i<=m-1 /\ ∃E P b U g k,WS t m T E P U/\WI m E P/\P.length=i/\(∀j row,i+1<=j->E[j]?=Z row->row=[])/\gA b (n+1+3*i)/\r=[Z (.ref 0),Z (.int 8),Z (.int m),Z (.ref (t+m+1)),Z (.ref (t+m+2)),g,k,Y,Y,Y]/\S=b::U) _ 0 _ _ ?_ (λ_ _ _ _=>rfl) ?_ ?_
  ·refine⟨by lia,_,_,s,U0,Y,Y,w0,y1 m,O,λj row _ K=>?_,y,O,O⟩;rw[aS]at K;split at K
   ·cases K;rfl
   ·cases K
  ·rintro i d q r S ⟨hi,E,P,b,U,g,k,w,v,H,L,a,rfl,rfl⟩;have l:=(gE1.mp q).1;rw [f0] at l;have hd':d = .int ((i+1:Nat):Int):=by
    rw[rB,gP1,cI l]at q;simp at q;rw[<- q]
    push_cast
    congr 1
    lia
   subst hd';rw[cY]at *
   walk_at"w";refine EM w v a (by lia) H (by lia) wq L λR V o' ao x6' u N z am au=>?_;exact⟨O,by lia,R,V,o',ao,_,_,u,N,am,au,z.more (by lia),O,O⟩
  ·rintro r S ⟨hi,E,P,b,U,g,k,w,v,H,L,a,rfl,rfl⟩;exact⟨O,E,P,b,U,g,k,w,v,by lia,a.more (by lia),O,O⟩
 rintro r S ⟨E,P,b,U,g,k,w,v,H,a,rfl,rfl⟩;refine eZ (λr S=>∃E P b U g k B F C,WS t m T E P U/\WI m E P/\gA b (n+100)/\r=[Z (.ref 0),Z (.int 8),Z (.int m),Z (.ref (t+m+1)),Z (.ref (t+m+2)),g,k,B,F,C]/\S=b::U) ?_ ?_
 ·walk_at"w";refine fF a (by lia) (by lia) (by lia) λc o3 X hc=>?_;walk_at"w";refine⟨gx (by lia),?_⟩;rw[Int.toNat_natCast];refine gr (λi r S=>i<=c /\ ∃E P b U g k B F C,WS t m T E P U/\WI m E P/\P.length<=8+i/\gA b (n+41+4*i)/\r=[Z (.ref 0),Z (.int 8),Z (.int m),Z (.ref (t+m+1)),Z (.ref (t+m+2)),g,k,B,F,C]/\S=b::U) _ 0 _ _ ⟨by lia,E,P,o3,U,g,k,Y,Y,Y,w,v,by lia,X,O,O⟩ (λ_ _ _ _=>rfl) ?_ ?_
  ·rintro i d q r S ⟨hi,E,P,b,U,g,k,B,F,C,w,v,H,a,rfl,rfl⟩;have l:=(gE1.mp q).1;rw[f0]at l;rw[cY]at *
   walk_at"w";refine Ga w v a (by lia) (by lia) I wq λR V o' ao x8' x9' u N z am=>?_;exact⟨O,by lia,R,V,o',ao,_,_,_,_,_,u,N,by lia,z.more (by lia),O,O⟩
  ·rintro r S ⟨hi,E,P,b,U,g,k,B,F,C,w,v,H,a,rfl,rfl⟩;rw[f0,cY]at a;exact⟨O,E,P,b,U,_,_,_,_,_,w,v,a.more (by lia),O,O⟩
 rintro r S ⟨E,P,b,U,g,k,B,F,C,w,v,a,rfl,rfl⟩;walk_at"w";refine eN (S:=b::U) (xs:=j7 (t+1) m) (by rw[gC1];exact w.ends) ?_;have A:∀j,j<m -> ∃row,E[j]?=Z row:=λj hj=>⟨_,gG1 (by rw[v.len];exact hj)⟩;refine jH (λi p r S=>∃G x,S=b::(U++G)/\r=[x,Z (.ref (t+m+1)),Z (.ref (t+m+2))]/\p=((E.take i).map λrow=>.tup ((row.map (vq E P)).map pD))) (j7 (t+1) m) 0 [] _ _ ⟨[],Y,by simp,O,O⟩ ?_ ?_ ?_
 ·rintro i p r S ⟨G,x,rfl,_⟩;exact kU (by rw[gC1];exact(w.app (G:=G)).ends)
 ·rintro i d q p r S ⟨G,x,rfl,rfl,rfl⟩;have hi:=(gE1.mp q).1;rw[kQ]at hi;rw[rh hi]at q;cases q;obtain⟨row,f⟩:=A i hi;have u:=w.app (G:=G);walk_at"w";refine eN (S:=b::(U++G)) (xs:=row.map pD) (by rw[show t+1+i=t+i+1 by lia,gC1];exact u.row i row f) ?_;refine n3 (λe=>pD (vq E P e)) (λr=>∃x,r=[x,Z (.ref (t+m+1)),Z (.ref (t+m+2))]) (kU (by rw[show t+1+i=t+i+1 by lia,gC1];exact u.row i row f)) row _ ⟨_,O⟩ ?_ ?_
  ·rintro e L r ⟨x,rfl⟩;walk_at"w";refine IV u v f L ?_;exact⟨O,O,_,O⟩
  ·rintro r' _;walk_at"w";have hl:=v.le i row f;refine⟨ed (by rw[lM1];lia),?_⟩;refine eN (xs:=row.map λe=>pD (vq E P e)) (by rw[<- bH,gC1,<- lA1,eM];rfl) ?_;refine⟨G++[Ob.lst (row.map λe=>pD (vq E P e))],_,O,O,?_⟩;rw[cY,cr,f];simp[Function.comp_def]
 ·rintro xs r S ⟨G,x,rfl,rfl,e⟩;rw [cW,cY,kQ,<- v.len,bY] at e;subst e;walk_at"w";have hlE:=v.len;refine ⟨ed (by rw [lM1];lia),?_⟩;refine eN (xs:=E.map fun row=>.tup ((row.map (vq E P)).map pD)) (by rw [<- bH,gC1,<- lA1,eM];rfl) ?_;have e:D.tup (E.map fun row=>.tup ((row.map (vq E P)).map pD))=webD (E.map fun row=>row.map (vq E P)):=by
   simp[webD,Function.comp_def]
  refine⟨webD (E.map λrow=>row.map (vq E P)),b,U.drop t++(G++[Ob.lst (E.map λrow=>.tup ((row.map (vq E P)).map pD))]),?_,kw _,a.und,?_⟩
  ·rw[e,<- bH T,<- w.split]
  ·exact h m _ b I wq (EB v) a
theorem Fn{items:List D}{k:Int}{n:Nat}{o:Ob}{T:Sto}{g:Option D}{Q:List D×Ev×Sto->Prop}(ho:gA o n)(hn:n+items.length<=2^50)(hk:0<k)(f:k<1073741824)(h:∀xs o' m,gA o' (n+items.length)->xs.Sublist items->Q (xs,[m,some (.ref 0)],o'::T)):
  W (fM [] (gN 0) (mB (m2 (b2 wU) (mN (dX 2 dY) (dV (mV 1) (dV (mC (D.int k)) dW))) (mC (D.int (0))))) (eG (mV 0)) items [g,Z (.ref 0)] (o::T)) Q:=by
 refine jH (λi b r S=>∃o x,S=o::T/\r=[x,Z (.ref 0)]/\gA o (n+i)/\i<=items.length/\b.Sublist (items.take i)) items 0 [] _ _ ⟨o,g,O,O,by simpa using ho,by lia,by simp⟩ (λ_ _ _ _ _=>rfl) ?_ ?_
 ·rintro i d l b r S ⟨o,x,rfl,rfl,ho,hi,a⟩;have p:i<items.length:=(gE1.mp l).1;have j:items.take (i+1)=items.take i++[d]:=by rw[cr,l];rfl
  walk_at"w";refine fF ho (by lia) hk f λe o' c q=>?_;walk_at"w";split
  ·exact⟨o',Z d,O,O,c.more (by lia),by lia,by rw[cY,j];simp at a;exact a.append (List.Sublist.refl _)⟩
  ·exact⟨o',Z d,O,O,c.more (by lia),by lia,by rw[cY,j];simp at a;exact a.trans (List.sublist_append_left _ _)⟩
 ·rintro xs r S ⟨o,x,rfl,rfl,ho,_,a⟩;refine h _ _ _ (by simpa using ho) (by simpa using a)
theorem GQ{o:Ob}{n:Nat}{T:Sto}{Q:D×Sto->Prop}(ho:gA o n)(hn:n<=2^45)(g:T.all (Ob.und (T.length+1))=M)(h:∀a b c d o',gA o' (n+4)->Q (.tup (gl a b c d),o'::T)):W (dX 1 ft [.ref 0] (o::T)) Q:=by
 refine xa O O g ?_;unfold ft;refine mR ?_;unfold iF;walk_at"w";rw[gO];refine Fn ho (by simp;lia) (by decide) (by decide) λxs f j e i=>?_;obtain⟨a,b,c,d,rfl⟩:=A4 i;walk_at"w";have k:=A5 a b c d;refine⟨ed (by lia),?_⟩;refine eN (xs:=gl a b c d) (by rw[gC1,eM];rfl) ?_;exact⟨_,f,_,O,by rw[D.und];exact ox a b c d,e.und,h a b c d f e⟩
theorem Ep{w:eB}{i:Nat}{row:List (Nat×Nat)}{S:Sto}{Q:D×Sto->Prop}(h:w[i]?=Z row)(q:Q (.tup (row.map pD),S)):W (d0 (webD w) (.int i) S) Q:=
 hV (x:=.tup (row.map pD)) (by rw[gP1,h];rfl) q
theorem wC{w:eB}{S:Sto}:fv (webD w) S=Z (.int w.length,S):=by simp[webD,fv,d5]
noncomputable def crowd(ws:List Wk)(rm:Nat):Nat:=(ws.filter λu=>u.1 == rm).length
noncomputable def zw(a b c d:Bool)(ws:List Wk)(cs:List Nat)(u:Wk)(row:List (Nat×Nat)):D:=
 uO a b c d u.2.1 (if cs.contains u.1 then 1 else 0) row.length (if 1<crowd ws u.1 then 1 else 0)
theorem yv{ws:List Wk}{a:Nat}{S:Sto}{c:Option D}{Q:List D×Ev×Sto->Prop}(h:∀ b,Q ((ws.filter fun u=>u.1 == a).map gZ,b,S)):
  W (fM [] (gN 0) (mB (m2 (b2 wU) (m2 (b2 d0) (mV 0) (mC (D.int (0)))) (mV 1))) (eG (mV 0)) (eU ws) [c,Z (.int a)] S) Q:=by
 refine jL (λu:Wk=>u.1 == a) gZ (λr=>∃x,r=[x,Z (.int a)]) O ws _ ⟨_,O⟩ ?_ λb _=>h b;rintro u d r ⟨x,rfl⟩;walk_at"w";refine hV (i:=0) O ?_;walk_at"w";refine⟨?_,⟨_,O⟩,λ_=>trivial⟩;rw[bQ,beq_iff_eq,beq_iff_eq];lia
theorem I1 {w x y z:D}{S:Sto}{r:Ev}{m1 m2 b a:FE}{Q:D×Sto->Prop}(h1:m1 r S=some (w,S))(h2:m2 r S=some (x,S))(d:b r S=some (y,S))(c:a r S=some (z,S))
  (q:Q (.ref S.length,S++[.dct [(.inr "came",w),(.inr "chalk",x),(.inr "doors",y),(.inr "others",z)]])):
  W (wy [(mC (.str "came"),m1),(mC (.str "chalk"),m2),(mC (.str "doors"),b),(mC (.str "others"),a)] r S) Q:=by
 refine W.of ?_ q;simp only[wy,Da,mC,h1,h2,d,c,oS1,oP1,wJ,tz];rfl
theorem Dp {w x y z:D}{S:Sto}{n:Nat}(h:S[n]? = some (.dct [(.inr "came",w),(.inr "chalk",x),(.inr "doors",y),(.inr "others",z)])):
  d0 (.ref n) (.str "came") S=Z (w,S)/\d0 (.ref n) (.str "chalk") S=Z (x,S)/\d0 (.ref n) (.str "doors") S=Z (y,S)/\d0 (.ref n) (.str "others") S=Z (z,S):=by
 refine⟨?_,?_,?_,?_⟩<;>(simp only[d0,h,mQ,tz,oS1];rfl)
noncomputable def vr:Nat->D
 |0=>.str "came" |1=>.str "chalk" |2=>.str "doors" |_=>.str "others"
noncomputable def jT(a b c d:Bool)(w x y z:Int):Nat->D
 |0=>if a then .int w else .non
 |1=>if b then .int x else .non
 |2=>if c then .int y else .non
 |_=>if d then .int z else .non
theorem CI {a b c d:Bool}{w x y z:Int}{S:Sto}{n:Nat}(h:S[n]? = some (.dct [(.inr "came",.int w),(.inr "chalk",.int x),(.inr "doors",.int y),(.inr "others",.int z)])){i:Nat}(hi:i∈[0,1,2,3]){r:Ev}{f j g:Nat}
  (h1:r[f]?=Z (Z (vr i))) (h2:r[j]?=Z (Z (.tup (gl a b c d)))) (e:r[g]?=Z (Z (.ref n))):
  Ay (mB (m2 (b2 iV) (mV f) (mV j))) (m2 (b2 d0) (mV g) (mV f)) (mC D.non) r S=Z (jT a b c d w x y z i,S):=by
 obtain⟨l,m,k,o⟩:=Dp h;simp only[aF,bM,or_false]at hi;rcases hi with rfl|rfl|rfl|rfl
 ·cases a<;>simp only[Ay,mB,m2,b2,mV,h1,h2,e,vr,oS1,Dv,l,jT,mC]<;>rfl
 ·cases b<;>simp only[Ay,mB,m2,b2,mV,h1,h2,e,vr,oS1,AN,m,jT,mC]<;>rfl
 ·cases c<;>simp only[Ay,mB,m2,b2,mV,h1,h2,e,vr,oS1,AM,k,jT,mC]<;>rfl
 ·cases d<;>simp only[Ay,mB,m2,b2,mV,h1,h2,e,vr,oS1,yo,o,jT,mC]<;>rfl
theorem tq{w:eB}{ws:List Wk}{cs:List Nat}{a b c d:Bool}{k:Nat}{u:Wk}{row:List (Nat×Nat)}{S:Sto}{Q:D×Sto->Prop}(n:ws[k]? = Z u)(hr:w[u.1]? = Z row)(t:ws.length<=1000)(q:Q (zw a b c d ws cs u row,S)):W (dX 4 ff [webD w,.tup (gl a b c d),eh ws cs,.int k] S) Q:=by
 refine hK O (by simp[D.unds,kw,lI];rw[D.und];exact⟨ox a b c d,O⟩) ?_;unfold ff;refine mR ?_;unfold lr;have g:∀(S:Sto) (Q:D×Sto->Prop),Q (.tup (eU ws),S)->W (d0 (eh ws cs) (.int 0) S) Q:=λS Q q=>hV (i:=0) O q;have l:∀(S:Sto),d0 (eh ws cs) (.int 1) S=Z (.tup (fA cs),S):=λS=>by
  obtain⟨p,e,h⟩:W (d0 (eh ws cs) (.int 1) S) λp=>p=(.tup (fA cs),S):=hV (i:=1) O O;rw[e,h]
 refine eZ (λr S=>S=[]/\r=[Z (webD w),Z (.tup (gl a b c d)),Z (eh ws cs),Z (.int k),Z (.int u.1),Z (.int u.2.1),Z (.int u.2.2),Y,Y]) ?_ ?_
 ·walk_at"w";refine g _ _ ?_;refine hV (i:=k) (x:=gZ u) (by rw[eU,gP1,n];rfl) ?_;rw[gZ];walk_at"w"
 rintro r S ⟨rfl,rfl⟩;refine eZ (λr S=>r=[Z (webD w),Z (.tup (gl a b c d)),Z (eh ws cs),Z (.int k),Z (.int u.1),Z (.int u.2.1),Z (.int u.2.2),Z (.int (crowd ws u.1)),Y]) ?_ ?_
 ·walk_at"w";refine g _ _ ?_;rw[gO];refine yv λs=>?_;walk_at"w";have:=dj (λv:Wk=>v.1 == u.1) ws;have h2:((ws.filter λv:Wk=>v.1 == u.1).map gZ).length<=100000:=by rw[lM1];lia
  refine⟨ed h2,?_⟩;refine eN (xs:=(ws.filter λv:Wk=>v.1 == u.1).map gZ) O ?_;rw[lM1];rfl
 rintro r f rfl;refine eZ (λr S=>S=f++[.dct [(.inr "came",.int u.2.1),(.inr "chalk",.int (if cs.contains u.1 then 1 else 0)),(.inr "doors",.int row.length),(.inr "others",.int (if 1<crowd ws u.1 then 1 else 0))]]/\r=[Z (webD w),Z (.tup (gl a b c d)),Z (eh ws cs),Z (.int k),Z (.int u.1),Z (.int u.2.1),Z (.int u.2.2),Z (.int (crowd ws u.1)),Z (.ref f.length)]) ?_ ?_
 ·unfold eE;rw[ee];refine I1 (w:=.int u.2.1) (x:=.int (if cs.contains u.1 then 1 else 0)) (y:=.int row.length) (z:=.int (if 1<crowd ws u.1 then 1 else 0)) O ?_ ?_ ?_ ?_
  ·simp only[mN,dV,dW,b1,m2,b2,mV,gC1,di,oS1,l,Ef,mC,oZ]
  ·obtain⟨p,e,rfl⟩:W (d0 (webD w) (.int u.1) f) λp=>p=(.tup (row.map pD),f):=Ep hr O;simp only[mN,dV,dW,m2,b1,b2,mV,gC1,di,oS1,e,jI,lM1]
  ·simp only[mN,dV,dW,m2,b1,b2,mV,mC,gC1,di,oS1,iD,oZ];by_cases h1:1<crowd ws u.1
   ·rw[ak h1,ak (by rw[al];lia)]
   ·rw[aj h1,aj (by rw[al];lia)]
  ·walk_at"w"
 rintro r S ⟨rfl,rfl⟩;generalize m:f++[Ob.dct [(.inr "came",.int u.2.1),(.inr "chalk",.int (if cs.contains u.1 then 1 else 0)),(.inr "doors",.int row.length),(.inr "others",.int (if 1<crowd ws u.1 then 1 else 0))]]=S2;have o:S2[f.length]?=Z (Ob.dct [(.inr "came",.int u.2.1),(.inr "chalk",.int (if cs.contains u.1 then 1 else 0)),(.inr "doors",.int row.length),(.inr "others",.int (if 1<crowd ws u.1 then 1 else 0))]):=by rw[<- m,eM];rfl
 walk_at"w";have j:([D.str "came",D.str "chalk",D.str "doors",D.str "others"]:List D)=[0,1,2,3].map vr:=rfl;rw[gO,j];refine n3 (jT a b c d u.2.1 (if cs.contains u.1 then 1 else 0) row.length (if 1<crowd ws u.1 then 1 else 0)) (λr=>∃x,r=[x,Z (.tup (gl a b c d)),Z (.ref f.length)]) O _ _ ⟨_,O⟩ ?_ ?_
 ·rintro i hi r ⟨x,rfl⟩;refine⟨([Z (vr i),Z (.tup (gl a b c d)),Z (.ref f.length)],S2),O,?_⟩;refine⟨(M,S2),O,O,?_⟩;exact⟨_,CI o hi O O O,O,O,_,O⟩
 ·rintro s _;walk_at"w";refine eN (xs:=[jT a b c d u.2.1 (if cs.contains u.1 then 1 else 0) row.length (if 1<crowd ws u.1 then 1 else 0) 0,jT a b c d u.2.1 (if cs.contains u.1 then 1 else 0) row.length (if 1<crowd ws u.1 then 1 else 0) 1,jT a b c d u.2.1 (if cs.contains u.1 then 1 else 0) row.length (if 1<crowd ws u.1 then 1 else 0) 2,jT a b c d u.2.1 (if cs.contains u.1 then 1 else 0) row.length (if 1<crowd ws u.1 then 1 else 0) 3]) (by rw[eM];rfl) ?_;exact⟨xI,q⟩
noncomputable def pt(b:Bool)(x:Nat):D:=if b=M then .int x else .non
noncomputable def Jw(a b c d:Bool)(x y z w:Nat):D:=.tup [pt a x,pt b y,pt c z,pt d w]
noncomputable def iB:List D:=[.str "leave",.str "mark",.str "wipe"]
noncomputable def io:List D:=[.non,.int 0,.int 1,.int 2,.int 3]
structure gp (x:D):Prop where
 is:∃m h t,x = .tup [.int (m:Nat),h,t]/\m<4000/\h∈iB/\t∈io
theorem gp.und{x:D}(h:gp x):x.und 0=M:=by
 obtain⟨m,x,t,rfl,_,h1,h2⟩:=h.is;have b:x.und 0=M:=by simp[iB]at h1;rcases h1 with z|z|z<;>subst z<;>rfl
 have a:t.und 0=M:=by simp[io]at h2;rcases h2 with z|z|z|z|z<;>subst z<;>rfl
 simp[D.und,D.unds,b,a]
noncomputable def cx(b:Bool)(x:Nat):Nat:=if b=M then x else 0
noncomputable def km:List Bool->List Nat->Nat
 |b::bs,x::xs=>cx b x*8^bs.length+km bs xs
 |_,_=>0
theorem l8:∀{bs:List Bool} {xs:List Nat},(∀x∈xs,x<=7)->km bs xs<8^bs.length
 |[],_,_=>by rw[km];simp;simp
 |b::bs,[],_=>by
  rw[km]
  ·exact Nat.pos_of_ne_zero (by simp)
  ·simp
 |b::bs,x::xs,h=>by
  have h1:=l8 (bs:=bs) λy a=>h y (mC1 _ a);have h2:cx b x<=7:=by unfold cx;split;exact h x mS1;lia
  rw[km,lC1,Nat.pow_succ];have c:cx b x*8^bs.length<=7*8^bs.length:=dk _ h2;lia
theorem Ht{S:Sto}{n:Nat}{xs ys:List D}:fW S (n+1) (.tup xs) (.tup ys)=ll (fW S n) xs ys:=by
 rw[fW];simp[d5]
theorem Kl{S:Sto}{n:Nat}{xs ys:List D}:kb S (n+1) (.tup xs) (.tup ys)=oX (fW S n) (kb S n) xs ys:=by
 rw[kb];simp[JC,d5]
theorem Ek{S:Sto}{n:Nat}{b:Bool}{x y:Nat}:fW S (n+1) (pt b x) (pt b y)=Z (decide (cx b x=cx b y)):=by
 cases b with
 |false=>rfl
 |true=>
  show Z ((x:Int) == (y:Int))=Z (decide (x=y))
  congr 1
  rw[bQ,beq_iff_eq,al];lia
theorem ID{S:Sto}{n:Nat}{b:Bool}{x y:Nat}(h:cx b x≠cx b y):kb S (n+1) (pt b x) (pt b y)=Z (decide (cx b x<cx b y)):=by
 cases b with
 |false=>exact absurd O h
 |true=>
  show Z (decide ((x:Int)<(y:Int)))=Z (decide (x<y))
  congr 1
  rw[bQ,al,al];omega
theorem JI{A B P u v:Nat}(a:u<P)(hv:v<P):(A*P+u=B*P+v↔A=B/\u=v)/\(A*P+u<B*P+v↔A<B\/(A=B/\u<v)):=by
 rcases Nat.lt_trichotomy A B with h|h|h
 ·have:=dk P (show A+1<=B from h);rw[Nat.succ_mul]at this;constructor<;>lia
 ·subst h;constructor<;>lia
 ·have:=dk P (show B+1<=A from h);rw[Nat.succ_mul]at this;constructor<;>lia
theorem vv{S:Sto}{n:Nat}:∀ {bs:List Bool} {xs ys:List Nat},xs.length=bs.length->ys.length=bs.length->(∀ x∈xs,x<=7)->(∀ y∈ys,y<=7) ->
  ll (fW S (n+1)) (dq pt bs xs) (dq pt bs ys)=Z (decide (km bs xs=km bs ys))
 |[],xs,ys,_,_,_,_=>by simp[ll,km]
 |b::bs,[],ys,h,_,_,_=>by simp at h
 |b::bs,x::xs,[],_,h,_,_=>by simp at h
 |b::bs,x::xs,y::ys,h1,h2,hx,hy=>by
  have ih:=vv (S:=S) (n:=n) (bs:=bs) (xs:=xs) (ys:=ys) (by simpa using h1) (by simpa using h2) (λz a=>hx z (mC1 _ a)) (λz a=>hy z (mC1 _ a));have b1:=l8 (bs:=bs) (xs:=xs) λz a=>hx z (mC1 _ a);have b2:=l8 (bs:=bs) (xs:=ys) λz a=>hy z (mC1 _ a);rw[dr,dr,ll,Ek,ih,km,km];have c:=(JI (A:=cx b x) (B:=cx b y) b1 b2).1;rw[oS1,oP1]
  congr 1
  rw[bQ,bA1,al,al,al];exact c.symm
theorem AA{S:Sto}{n:Nat}:∀ {bs:List Bool} {xs ys:List Nat},xs.length=bs.length->ys.length=bs.length->(∀ x∈xs,x<=7)->(∀ y∈ys,y<=7) ->
  oX (fW S (n+1)) (kb S (n+1)) (dq pt bs xs) (dq pt bs ys)=Z (decide (km bs xs<km bs ys))
 |[],xs,ys,_,_,_,_=>by simp[oX,km]
 |b::bs,[],ys,h,_,_,_=>by simp at h
 |b::bs,x::xs,[],_,h,_,_=>by simp at h
 |b::bs,x::xs,y::ys,h1,h2,hx,hy=>by
  have ih:=AA (S:=S) (n:=n) (bs:=bs) (xs:=xs) (ys:=ys) (by simpa using h1) (by simpa using h2) (λz a=>hx z (mC1 _ a)) (λz a=>hy z (mC1 _ a));have b1:=l8 (bs:=bs) (xs:=xs) λz a=>hx z (mC1 _ a);have b2:=l8 (bs:=bs) (xs:=ys) λz a=>hy z (mC1 _ a);have c:=(JI (A:=cx b x) (B:=cx b y) b1 b2).2;rw[dr,dr,oX,Ek,oS1,km,km];by_cases z:cx b x=cx b y
  ·rw[ak (ah z),ih]
   congr 1
   rw[bQ,al,al];lia
  ·rw[aj (by rw[al];exact z),ID z]
   congr 1
   rw[bQ,al,al];lia
structure Ky where
 m:Nat
 x:Nat
 y:Nat
 z:Nat
 w:Nat
structure Ky.Ok (k:Ky):Prop where
 m:k.m<4000
 x:k.x<=4
 y:k.y<=4
 z:k.z<=4
 w:k.w<=4
abbrev E4:=Bool×Bool×Bool×Bool
noncomputable def E4.bs(e:E4):List Bool:=[e.1,e.2.1,e.2.2.1,e.2.2.2]
noncomputable def Ky.xs(k:Ky):List Nat:=[k.x,k.y,k.z,k.w]
noncomputable def Ec(b:Bool)(x:Nat):TK:=if b=M then .int x else .non
noncomputable def Ky.sg(k:Ky)(e:E4):D:=Jw e.1 e.2.1 e.2.2.1 e.2.2.2 k.x k.y k.z k.w
noncomputable def Ky.d(k:Ky)(e:E4):D:=.tup [.int k.m,k.sg e]
noncomputable def Ky.tk(k:Ky)(e:E4):TK:=.tup [.int k.m,.tup [Ec e.1 k.x,Ec e.2.1 k.y,Ec e.2.2.1 k.z,Ec e.2.2.2 k.w]]
noncomputable def Ky.code(k:Ky)(e:E4):Nat:=k.m*4096+km e.bs k.xs
theorem Ky.keyT(k:Ky)(e:E4):Mi.keyT (k.d e)=Z (k.tk e):=by
 obtain⟨a,b,c,d⟩:=e;cases a<;>cases b<;>cases c<;>cases d<;>rfl
theorem Ky.tkD(k:Ky)(e:E4):Mi.tkD (k.tk e)=k.d e:=(wK (k.keyT e)).1
theorem Ky.sg_zip(k:Ky)(e:E4):k.sg e = .tup (dq pt e.bs k.xs):=rfl
theorem Ky.Ok.all{k:Ky}(h:k.Ok):∀x∈k.xs,x<=7:=by
 intro x a;have:=h.x;have:=h.y;have:=h.z;have:=h.w
 simp[Ky.xs]at a;lia
theorem jp{k:Ky}(h:k.Ok)(e:E4):km e.bs k.xs<4096:=l8 (bs:=e.bs) h.all
theorem Ky.eq{k l:Ky}{e:E4}{S:Sto}{n:Nat}(hk:k.Ok)(a:l.Ok):fW S (n+3) (k.d e) (l.d e)=Z (decide (k.code e=l.code e)):=by
 have d:fW S (n+2) (.int k.m) (.int l.m)=Z ((k.m:Int) == (l.m:Int)):=rfl;have b:fW S (n+2) (k.sg e) (l.sg e)=Z (decide (km e.bs k.xs=km e.bs l.xs)):=by rw[Ky.sg_zip,Ky.sg_zip,Ht,vv O O hk.all a.all]
 unfold Ky.d Ky.code;rw[Ht,ll,d,oS1,ll,b,ll];have c:=(JI (A:=k.m) (B:=l.m) (jp hk e) (jp a e)).1;show Z (((k.m:Int) == (l.m:Int))&&(decide (km e.bs k.xs=km e.bs l.xs)&&M))=_
 congr 1
 rw[bQ,bN,bA1,al,al,beq_iff_eq,c];lia
theorem Ky.lt{k l:Ky}{e:E4}{S:Sto}{n:Nat}(hk:k.Ok)(a:l.Ok):kb S (n+3) (k.d e) (l.d e)=Z (decide (k.code e<l.code e)):=by
 have c:fW S (n+2) (.int k.m) (.int l.m)=Z ((k.m:Int) == (l.m:Int)):=rfl;have d:kb S (n+2) (.int k.m) (.int l.m)=Z (decide ((k.m:Int)<(l.m:Int))):=rfl;have f:fW S (n+2) (k.sg e) (l.sg e)=Z (decide (km e.bs k.xs=km e.bs l.xs)):=by rw[Ky.sg_zip,Ky.sg_zip,Ht,vv O O hk.all a.all]
 have g:kb S (n+2) (k.sg e) (l.sg e)=Z (decide (km e.bs k.xs<km e.bs l.xs)):=by rw[Ky.sg_zip,Ky.sg_zip,Kl,AA O O hk.all a.all]
 unfold Ky.d Ky.code;have h:=(JI (A:=k.m) (B:=l.m) (jp hk e) (jp a e)).2;rw[Kl,oX,c,oS1];by_cases z:k.m=l.m
 ·rw[ak (by rw[beq_iff_eq];lia),oX,f,oS1];by_cases b:km e.bs k.xs=km e.bs l.xs
  ·rw[ak (ah b),oX]
   congr 1
   rw[eq_comm,decide_eq_false_iff_not];lia
  ·rw[aj (by rw[al];exact b),g]
   congr 1
   rw[bQ,al,al];lia
 ·rw[aj (by rw[beq_iff_eq];lia),d]
  congr 1
  rw[bQ,al,al];lia
theorem Ky.und(k:Ky)(e:E4)(n:Nat):(k.d e).und n=M:=by
 rw[<- k.tkD e];exact uE _
theorem Ky.sgu(k:Ky)(e:E4)(n:Nat):(k.sg e).und n=M:=by
 have:=k.und e n;unfold Ky.d at this;simp only[D.und,D.unds,bN,Bool.true_and]at this;exact this
noncomputable def dO(F:List (TK×D)):Ob:=match F with
 |[]=>.dct []
 |_=>.dcT F
theorem I7{F:List (TK×D)}(h:F≠[]):dO F = .dcT F:=by
 cases F with
 |nil=>exact absurd O h
 |cons _ _=>rfl
structure RW (e:E4)(F:List (TK×D)):Prop where
 row:∀p∈F,∃k:Ky,k.Ok/\p.1=k.tk e/\gp p.2
 nd:(F.map (·.1)).Nodup
theorem RW.und{e:E4}{F:List (TK×D)}(h:RW e F)(n:Nat):(dO F).und n=M:=by
 have:D.unds n (F.map (·.2))=M:=Mi.eR λp a=>by
  obtain⟨_,_,_,b⟩:=h.row p a;exact fE b.und
 cases F with
 |nil=>rfl
 |cons _ _=>exact this
theorem HU{e:E4}{F:List (TK×D)}{k:Ky}{x:D}{n:Nat}{S:Sto}(b:S[n]?=Z (dO F))(c:F.length<=100000):jl (.ref n) (k.d e) x S=Z (.non,S.set n (dO (fm F (k.tk e) x))):=by
 cases F with
 |nil=>
  have a:S[n]?=Z (.dct []):=b;simp only[jl,a,k.keyT e];rfl
 |cons p F=>
  have a:S[n]?=Z (.dcT (p::F)):=b;rw[I7 Fe];simp only[jl,a,k.keyT e,oS1];rw[ak (bI c (by decide))]
abbrev Rw:=Ky×D
noncomputable def eI(e:E4)(p:Rw):D:=.tup [p.1.d e,p.2]
def g9(p:Rw):Prop:=p.1.Ok/\gp p.2
theorem RW.list{e:E4}:∀{F:List (TK×D)},(∀p∈F,∃k:Ky,k.Ok/\p.1=k.tk e/\gp p.2) -> ∃L:List Rw,L.map (λp=>(p.1.tk e,p.2))=F /\ ∀p∈L,g9 p
 |[],_=>⟨[],O,λp a=>by cases a⟩
 |x::F,h=>by
  obtain⟨L,h1,h2⟩:=RW.list (F:=F) λp a=>h p (mC1 _ a);obtain⟨k,b,c,d⟩:=h x mS1;refine⟨(k,x.2)::L,by rw[mP1,h1,<- c],λp a=>?_⟩;rcases aF.mp a with z|z
  ·subst z;exact⟨b,d⟩
  ·exact h2 p z
theorem Fg(b:Bool)(x:Nat):Ec b x=if b=M then .int (cx b x)else .non:=by unfold Ec cx;cases b<;>rfl
theorem qi{b:Bool}{x y:Nat}(h:Ec b x=Ec b y):cx b x=cx b y:=by
 cases b with
 |false=>rfl
 |true=>
  have h':TK.int (x:Int)=TK.int (y:Int):=h;injection h' with h';exact(by lia:x=y)
theorem I9(a b c d x y z w:_):km [a,b,c,d] [x,y,z,w]=((cx a x*8+cx b y)*8+cx c z)*8+cx d w:=by
 simp only[km,lC1,bf];lia
theorem kB{k l:Ky}{e:E4}(hk:k.Ok)(g:l.Ok):k.tk e=l.tk e↔k.code e=l.code e:=by
 obtain⟨a,b,c,d⟩:=e;have r:k.code (a,b,c,d)=k.m*4096+(((cx a k.x*8+cx b k.y)*8+cx c k.z)*8+cx d k.w):=by unfold Ky.code;rw[<- I9];rfl
 have p:l.code (a,b,c,d)=l.m*4096+(((cx a l.x*8+cx b l.y)*8+cx c l.z)*8+cx d l.w):=by unfold Ky.code;rw[<- I9];rfl
 have f:∀(b:Bool) (x:Nat),x<=4->cx b x<=4:=λb x h=>by unfold cx;split<;>lia
 rw[r,p];constructor
 ·intro h;unfold Ky.tk at h;injection h with h;injection h with h1 h2;injection h1 with h1;injection h2 with h2 _;injection h2 with h2;injection h2 with n h2;injection h2 with p2 h2;injection h2 with i h2;injection h2 with m _;rw[qi n,qi p2,qi i,qi m,show k.m=l.m by lia]
 ·intro h;have A:=f a _ hk.x;have v:=f b _ hk.y;have B:=f c _ hk.z;have z:=f d _ hk.w
  have u:=f a _ g.x;have r2:=f b _ g.y;have y:=f c _ g.z;have w:=f d _ g.w
  have t:k.m=l.m:=by lia
  have j:cx a k.x=cx a l.x:=by lia
  have s:cx b k.y=cx b l.y:=by lia
  have o:cx c k.z=cx c l.z:=by lia
  have q:cx d k.w=cx d l.w:=by lia
  unfold Ky.tk;simp only[Fg,t,j,s,o,q]
def BJ(e:E4)(L:List Rw):Prop:=L.Pairwise λp q=>p.1.code e<q.1.code e
theorem iW{α:Type}{p q:α->Bool}:∀{l:List α},(∀x∈l,p x=q x)->l.find? p=l.find? q
 |[],_=>rfl
 |a::l,h=>by
  rw[bc,bc,h a mS1,iW λx b=>h x (mC1 _ b)]
theorem iE{α:Type}{f:α->Nat}{c:Nat}{a:α}:∀{l:List α},(l.map f).Nodup->((l.find? λx=>decide (f x=c))=Z a↔a∈l/\f a=c)
 |[],_=>by simp
 |b::l,nd=>by
  rw[mP1,aO]at nd;rw[bc];by_cases z:f b=c
  ·rw[ah z];constructor
   ·intro h;cases h;exact⟨mS1,z⟩
   ·rintro⟨h1,h2⟩;rcases aF.mp h1 with y|y
    ·rw[y]
    ·exact absurd (cc.mpr ⟨a,y,h2.trans z.symm⟩) nd.1
  ·rw[ai z];show(l.find? λx=>decide (f x=c))=Z a↔_;rw[iE nd.2];constructor
   ·rintro⟨h1,h2⟩;exact⟨mC1 _ h1,h2⟩
   ·rintro⟨h1,h2⟩;rcases aF.mp h1 with y|y
    ·rw[y]at h2;exact absurd h2 z
    ·exact⟨y,h2⟩
theorem yu{α:Type}{f:α->Nat}{c:Nat}{l m:List α}(p:l.Perm m)(nd:(m.map f).Nodup):(l.find? λx=>decide (f x=c))=m.find? λx=>decide (f x=c):=by
 have b:(l.map f).Nodup:=(p.map f).nodup_iff.mpr nd;apply Option.ext;intro a;rw[iE b,iE nd,p.mem_iff]
theorem i8{e:E4}{L:List Rw}(ok:∀p∈L,g9 p)(n:Nat):(D.tup (L.map (eI e))).und n=M:=by
 rw[D.und];refine Mi.eR λp a=>?_;have h1:=p.1.und e n;have h2:=fE (n:=n) (ok p a).2.und;simp[eI,D.und,D.unds,h1,h2]
theorem BJ.nd{e:E4}:∀{L:List Rw},BJ e L->(L.map λp=>p.1.code e).Nodup:=λh=>
 dg.mpr (List.Pairwise.imp (λz=>nN1 z) h)
noncomputable def Be(k:Ky):D:=.tup [.int k.m,.str "leave",.non]
noncomputable def mS(e:E4)(L:List Rw)(k:Ky):D:=((L.find? λp=>decide (p.1.code e=k.code e)).map (·.2)).getD (Be k)
noncomputable def dm:D->Nat
 | .tup [.int m,_,_]=>m.toNat
 |_=>0
noncomputable def dh:D->Str
 | .tup [_,.str h,_]=>h
 |_=>""
noncomputable def dt:D->Option Nat
 | .tup [_,_,.int t]=>Z t.toNat
 |_=>Y
noncomputable def tD:Option Nat->D
 |none=>.non
 |some t=>.int (t:Nat)
theorem gp.eta{x:D}(h:gp x):x = .tup [.int (dm x:Nat),.str (dh x),tD (dt x)]/\dm x<4000:=by
 obtain⟨m,y,t,rfl,a,h1,h2⟩:=h.is;simp only[iB,aF,bM,or_false]at h1;simp only[io,aF,bM,or_false]at h2;rcases h1 with e|e|e<;>subst e<;>rcases h2 with e|e|e|e|e<;>subst e<;>exact⟨O,a⟩
noncomputable def e6(w:eB)(u:Wk)(x:D):Wk:=match dt x with
 |some t=>match (w[u.1]?).bind (·[t]?)with
  |some p=>(p.1,p.2+1,dm x)
  |none=>(u.1,u.2.1,dm x)
 |none=>(u.1,u.2.1,dm x)
theorem Do{x:D}(h:gp x)(S:Sto):d0 x (.int 1) S=Z (.str (dh x),S):=by
 have e:=h.eta.1;generalize dm x=a at e;generalize dt x=c at e;generalize dh x=b at *
 subst e;rfl
theorem Dm{u:Wk}{S:Sto}:d0 (gZ u) (.int 0) S=Z (.int u.1,S):=rfl
theorem wL{u:Wk}{S:Sto}:d0 (gZ u) (.int 2) S=Z (.int u.2.2,S):=rfl
noncomputable def ig(ws:List Wk)(dd:Wk->D)(h:Str)(r:Nat):Bool:=ws.any λu=>u.1 == r&&dh (dd u) == h
noncomputable def ej(m:Nat)(ws:List Wk)(dd:Wk->D)(cs:List Nat):List Nat:=(af m).filter λr=>ig ws dd "mark" r||(cs.contains r && !ig ws dd "wipe" r)
theorem F0(a b:List Nat):fA a++fA b=fA (a++b):=by simp[fA]
noncomputable def eyD(e:E4):D:=.tup (gl e.1 e.2.1 e.2.2.1 e.2.2.2)
theorem gH(e:E4):(eyD e).und 0=M:=by unfold eyD;rw[D.und];exact ox _ _ _ _
noncomputable def mcD(e:E4)(L:List Rw):D:=.tup [eyD e,.tup (L.map (eI e))]
theorem nh{e:E4}{L:List Rw}(ok:∀p∈L,g9 p):(mcD e L).und 0=M:=by
 have h1:=gH e;have h2:=i8 (e:=e) ok 0;unfold mcD;rw[D.und,D.unds,D.unds,h1,h2];rfl
theorem GT{e:E4}{L:List Rw}{k:Ky}(ok:∀p∈L,g9 p)(hk:k.Ok):gp (mS e L k):=by
 unfold mS;cases h:L.find? λp=>decide (p.1.code e=k.code e)with
 |none=>exact⟨k.m,_,_,O,hk.m,by simp[iB],by simp[io]⟩
 |some p=>exact(ok p (dw h)).2
noncomputable def ky(w:eB)(ws:List Wk)(cs:List Nat)(u:Wk):Ky:=⟨u.2.2,u.2.1,if cs.contains u.1 then 1 else 0,((w[u.1]?).getD []).length,if 1<crowd ws u.1 then 1 else 0⟩
theorem vY{w:eB}{ws:List Wk}{cs:List Nat}{u:Wk}{row:List (Nat×Nat)}{e:E4}(h:w[u.1]?=Z row):zw e.1 e.2.1 e.2.2.1 e.2.2.2 ws cs u row=(ky w ws cs u).sg e:=by
 have c:∀b:Bool,((if b=M then 1 else 0:Nat):Int)=if b=M then(1:Int)else 0:=λb=>by cases b<;>rfl
 have a:((if 1<crowd ws u.1 then 1 else 0:Nat):Int)=if 1<crowd ws u.1 then(1:Int)else 0:=by split<;>rfl
 unfold zw uO Ky.sg Jw ky pt;rw[h];dsimp only;rw[c,a];rfl
structure i3 (m:Nat)(w:eB)(ws:List Wk)(cs:List Nat):Prop where
 web:oN m w
 m8:m<=8
 few:ws.length<=8
 cl:cs.length<=8
 wk:∀u∈ws,∃row,w[u.1]?=some row/\u.2.1<=row.length/\u.2.2<4000
 ch:∀r∈cs,r<m
theorem i3.ky{m:Nat}{w:eB}{ws:List Wk}{cs:List Nat}(h:i3 m w ws cs):∀u∈ws,(ky w ws cs u).Ok:=λu b=>by
 obtain⟨a,e,h1,h2⟩:=h.wk u b;have c:=h.web.le a (gM1 e);refine⟨h2,?_,?_,?_,?_⟩
 ·show u.2.1<=4;lia
 ·show(if cs.contains u.1 then 1 else 0)<=4;split<;>lia
 ·show((w[u.1]?).getD []).length<=4;rw[e];exact c
 ·show(if 1<crowd ws u.1 then 1 else 0)<=4;split<;>lia
noncomputable def ddW(w:eB)(ws:List Wk)(cs:List Nat)(e:E4)(L:List Rw)(u:Wk):D:=mS e L (ky w ws cs u)
noncomputable def jr(m:Nat)(w:eB)(ws:List Wk)(cs:List Nat)(e:E4)(L:List Rw):D:=eh (ws.map λu=>e6 w u (ddW w ws cs e L u)) (ej m ws (ddW w ws cs e L) cs)
theorem rK{S:Sto}{n:Nat}{x:Str}:∀a:List Str,BO (fW S (n+1)) (.str x) (a.map D.str)=Z (a.contains x)
 |[]=>rfl
 |c::a=>by
  have d:fW S (n+1) (.str c) (.str x)=Z (c == x):=rfl;have b:(c == x)=(x == c):=by rw[bQ,beq_iff_eq,beq_iff_eq];exact eq_comm
  rw[mP1,BO,d,b,rK a,List.contains_cons];rfl
theorem Du{S:Sto}{x:Str}{n:Nat}{cs:List Str}(h:S[n]?=Z (.lst (cs.map D.str))):iV (.str x) (.ref n) S=Z (.bl (cs.contains x),S):=by
 simp only[iV,vm,Hs,h,d5,oS1,eO,show(60:Nat)=59+1 from rfl,rK,oP1]
theorem u5{S:Sto}{x:Str}{n:Nat}{cs:List Str}(h:S[n]?=Z (.lst (cs.map D.str))):gt (.str x) (.ref n) S=Z (.bl (!cs.contains x),S):=by
 simp only[gt,jK,ot,h,d5,oS1,eO,show(60:Nat)=59+1 from rfl,rK,oP1]
noncomputable def oY(ws:List Wk)(dd:Wk->D)(r:Nat):List Str:=(ws.filter λu=>u.1 == r).map λu=>dh (dd u)
theorem Dw{ws:List Wk}{dd:Wk->D}{r:Nat}{h:Str}:(oY ws dd r).contains h=ig ws dd h r:=by
 unfold oY ig;rw[bQ,cN,cc,bR];constructor
 ·rintro⟨u,b,e⟩;obtain⟨h1,h2⟩:=aA.mp b;exact⟨u,h1,by rw[h2,e];simp⟩
 ·rintro⟨u,b,e⟩;rw[bA1,beq_iff_eq (a:=dh (dd u))]at e;exact⟨u,aA.mpr ⟨b,e.1⟩,e.2⟩
theorem nw{ws:List Wk}{cs:List Nat}{S:Sto}:d0 (eh ws cs) (.int 0) S=Z (.tup (eU ws),S):=rfl
theorem y2{ws:List Wk}{cs:List Nat}{S:Sto}:d0 (eh ws cs) (.int 1) S=Z (.tup (fA cs),S):=rfl
theorem yE{m:Nat}{w:eB}{ws:List Wk}{cs:List Nat}{dd:Wk->D}{n:Nat}{S:Sto}{Q:D×Sto->Prop}(v:w.length=m)(hm:m<=8)(hd:∀ u∈ws,gp (dd u))(U:ws.length<=8)(F:S[n]? = Z (.lst (ws.map dd)))(z:S.all (Ob.und S.length)=M)(q:Q (.tup (fA (ej m ws dd cs)),S)):W (dX 3 fI [webD w,eh ws cs,.ref n] S) Q:=by
 refine oD O (by simp[D.unds,D.und]) ?_;unfold fI;refine mR ?_;unfold ju;have N:=(gE1.mp F).1;refine eZ (λr V=>V=S++[.lst (fA [])]/\r=[Z (webD w),Z (eh ws cs),Z (.ref n),Z (.ref S.length),Y,Y]) ?_ ?_
 ·walk_at"w";exact⟨O,trivial⟩
 rintro r V ⟨L,rfl⟩;refine eZ (λr V=>∃G a c,V=S ++ .lst (fA (ej m ws dd cs))::G/\r=[Z (webD w),Z (eh ws cs),Z (.ref n),Z (.ref S.length),a,c]) ?_ ?_
 ·((try walk_at"w");repeat(simp only[wC];try walk_at"w"))
  rw[mx,Int.toNat_natCast,v];refine⟨gx (by lia),?_⟩;refine gr (λi r V=>∃G a c,i<=m/\V=S ++ .lst (fA (ej i ws dd cs))::G/\r=[Z (webD w),Z (eh ws cs),Z (.ref n),Z (.ref S.length),a,c]) _ 0 _ _ ⟨[],_,_,by lia,L,O⟩ (λ_ _ _ _=>rfl) ?_ ?_
  ·rintro i d g r I ⟨G,a,c,hi,rfl,rfl⟩;have s:=(gE1.mp g).1;rw[lM1,dy]at s;rw[cY]at *
   have A:d = .int (i:Nat):=by
    rw[gP1,cI s]at g;exact(Option.some.inj g).symm
   subst A;walk_at"w";unfold ix;have B:(S++Ob.lst (fA (ej i ws dd cs))::G)[n]?=Z (.lst (ws.map dd)):=by rw[gL1 N];exact F
   have H:(S++Ob.lst (fA (ej i ws dd cs))::G)[S.length]?=Z (.lst (fA (ej i ws dd cs))):=by rw[eM];rfl
   refine eZ (λr V=>V=S ++ .lst (fA (ej i ws dd cs))::G++[.lst ((oY ws dd i).map D.str)]/\r=[Z (webD w),Z (eh ws cs),Z (.ref n),Z (.ref S.length),Z (.int (i:Nat)),Z (.ref (S++Ob.lst (fA (ej i ws dd cs))::G).length)]) ?_ ?_
   ·unfold eE;rw[ee,rZ];refine BB (xs:=eU ws) (ys:=ws.map dd) (n:=n) O B ?_;dsimp only;rw[eU,uv];refine jL (λu:Wk=>u.1 == i) (λu:Wk=>D.str (dh (dd u))) (λr=>∃x y,r=[x,y,Z (.int (i:Nat))]) (kU B) ws _ ⟨_,_,O⟩ ?_ λX _=>?_
    ·rintro u P r ⟨x,y,rfl⟩
     ((try walk_at"w");repeat(simp only[Dm];try walk_at"w"))
     refine⟨?_,⟨_,_,O⟩,λ_=>?_⟩
     ·rw[bQ,beq_iff_eq,beq_iff_eq];lia
     ·((try walk_at"w");repeat(simp only[Do (hd u P)];try walk_at"w"))
    ·have e:(ws.filter λu:Wk=>u.1 == i).map (λu:Wk=>D.str (dh (dd u)))=(oY ws dd i).map D.str:=by unfold oY;rw[bu];rfl
     rw[e];have t:=dj (λu:Wk=>u.1 == i) ws;refine⟨ed (by dsimp only;unfold oY;rw[lM1,lM1];lia),?_⟩;walk_at"w"
   rintro r k ⟨j,rfl⟩;have am:k[(S++Ob.lst (fA (ej i ws dd cs))::G).length]?=Z (.lst ((oY ws dd i).map D.str)):=by rw[j,eM];rfl
   have E:k[S.length]?=Z (.lst (fA (ej i ws dd cs))):=by rw[j,gL1 (gE1.mp H).1];exact H
   have f:k=S++Ob.lst (fA (ej i ws dd cs))::(G++[Ob.lst ((oY ws dd i).map D.str)]):=by rw[j];simp
   have o:k.set S.length (.lst (fA (ej i ws dd cs)++[.int (i:Nat)]))=S++Ob.lst (fA (ej i ws dd cs++[i]))::(G++[Ob.lst ((oY ws dd i).map D.str)]):=by
    rw[f,cZ _ _ (nR1 _),cM,c5];simp[fA]
   have K:∀b:Bool,(ig ws dd "mark" i||(cs.contains i && !ig ws dd "wipe" i))=b->ej (i+1) ws dd cs=if b=M then ej i ws dd cs++[i]else ej i ws dd cs:=λb ao=>by
    unfold ej;rw[List.range_succ,List.filter_append,df,ao];cases b<;>simp
   have au:(ej i ws dd cs).length<=8:=by
    have:=dj (λr=>ig ws dd "mark" r||(cs.contains r && !ig ws dd "wipe" r)) (af i);rw[dy]at this;exact aC this (by lia)
   generalize T:(S++Ob.lst (fA (ej i ws dd cs))::G).length=t at *
   have app:∀ Q':D×Sto->Prop,Q' (.non,S++Ob.lst (fA (ej i ws dd cs++[i]))::(G++[Ob.lst ((oY ws dd i).map D.str)])) ->
     W (tm (b2 lZ) (mV 3) (dV (mV 4) dW) [Z (webD w),Z (eh ws cs),Z (.ref n),Z (.ref S.length),Z (.int (i:Nat)),Z (.ref t)] k) Q':=λQ' R=>by
    refine lE ?_;walk_at"w";refine⟨S.length,_,O,E,?_⟩;refine(ug E).mpr ⟨ed (by rw[lU];lia),?_⟩;rw[o];exact R
   unfold g0;rw[ee]
   ((try walk_at"w");repeat(simp only[Du am,u5 am,y2,Ef,Dw];try walk_at"w"))
   have l:(ig ws dd "mark" i||(cs.contains i && !ig ws dd "wipe" i))=M->W (tm (b2 lZ) (mV 3) (dV (mV 4) dW) [Z (webD w),Z (eh ws cs),Z (.ref n),Z (.ref S.length),Z (.int (i:Nat)),Z (.ref t)] k) λx=>∃G a c,i+1<=m/\x.2=S++Ob.lst (fA (ej (i+1) ws dd cs))::G/\[Z (webD w),Z (eh ws cs),Z (D.ref n),Z (.ref S.length),Z (.int (i:Nat)),Z (.ref t)]=[Z (webD w),Z (eh ws cs),Z (.ref n),Z (.ref S.length),a,c]:=λh=>by
    have h2:=K M h;rw[ak O]at h2;exact app _ ⟨_,_,_,by lia,by rw[h2],O⟩
   have C:(ig ws dd "mark" i||(cs.contains i && !ig ws dd "wipe" i))=J -> ∃G a c,i+1<=m/\k=S++Ob.lst (fA (ej (i+1) ws dd cs))::G/\[Z (webD w),Z (eh ws cs),Z (D.ref n),Z (.ref S.length),Z (.int (i:Nat)),Z (.ref t)]=[Z (webD w),Z (eh ws cs),Z (.ref n),Z (.ref S.length),a,c]:=λh=>by
    have h2:=K J h;rw[aj (by decide)]at h2;exact⟨_,_,_,by lia,by rw[h2];exact f,O⟩
   generalize ig ws dd "mark" i=b1 at *
   generalize cs.contains i=b2 at *
   generalize ig ws dd "wipe" i=b3 at *
   cases b1
   ·rw[aj (by decide)];cases b2
    ·rw[aj (by decide)];exact C O
    ·rw[ak O];cases b3
     ·rw[ak (by decide)];exact l O
     ·rw[aj (by decide)];exact C O
   ·rw[ak O];exact l O
  ·rintro r I ⟨G,a,c,hi,rfl,rfl⟩;rw[lM1,dy,cY];exact⟨O,_,_,_,O,O⟩
 rintro r I ⟨G,a,c,p,rfl⟩;walk_at"w";refine eN (xs:=fA (ej m ws dd cs)) (by rw[p,eM];rfl) ?_;rw[AV (by rw[D.und];exact u6 _) z (by rw[p];exact bv _ _)];exact q
theorem DL{F:List (TK×D)}{n:Nat}{S:Sto}(h:S[n]?=Z (dO F)):yz S n=Z F:=by
 unfold yz;rw[h];cases F<;>rfl
structure RL (e:E4)(F:List (TK×D))(L:List Rw):Prop where
 inc:BJ e L
 ok:∀p∈L,g9 p
 len:L.length<=4000
 lk:∀k:Ky,k.Ok->d3 F (k.tk e)=(L.find? λp=>decide (p.1.code e=k.code e)).map (·.2)
theorem IP{e:E4}{F:List (TK×D)}{L:List Rw}{k:Ky}{n:Nat}{S:Sto}{a b c:FE}{r:Ev}{Q:D×Sto->Prop}(d:RL e F L)(hk:k.Ok)(ha:a r S=Z (.ref n,S))(f:S[n]?=Z (dO F))(hb:b r S=Z (k.d e,S))(hc:c r S=Z (Be k,S))(q:Q (mS e L k,S)):W (rE a b c r S) Q:=by
 refine W.of (x:=(mS e L k,S)) ?_ q;simp only[rE,ha,hb,hc,oS1,DL f,k.keyT e];rw[oP1,d.lk k hk];rfl
theorem wE{m:Nat}{w:eB}{ws:List Wk}{cs:List Nat}{e:E4}{F:List (TK×D)}{L:List Rw}{n:Nat}{S:Sto}{Q:D×Sto->Prop}(h:i3 m w ws cs)(rl:RL e F L)(hS:S[n]? = some (dO F))(K:S.all (Ob.und S.length)=true)(q:Q (jr m w ws cs e L,S)):
  W (dX 4 fJ [webD w,eyD e,.ref n,eh ws cs] S) Q:=by
 refine oD O (by simp[D.unds,D.und]) ?_;unfold fJ
 refine mR ?_;unfold mK
 have hn:=(gE1.mp hS).1;have hf:=h.few;have hd:∀u∈ws,gp (ddW w ws cs e L u):=λu A=>GT rl.ok (h.ky u A);have N:∀a b:Ob,(S++[a,b])[S.length]?=Z a:=λa b=>by rw[eM];rfl
 have H:∀a b:Ob,(S++[a,b])[S.length+1]?=Z b:=λa b=>by rw[gF];rfl
 have st:∀a b c:Ob,(S++[a,b]).set S.length c=S++[c,b]:=λa b c=>by rw[cZ _ _ (nR1 _),cM];rfl
 have R:∀a b c:Ob,(S++[a,b]).set (S.length+1) c=S++[a,c]:=λa b c=>by rw[cZ _ _ (by lia),show S.length+1-S.length=1 by lia];rfl
 have T:∀a b:Ob,(S++[a,b])[n]?=Z (dO F):=λa b=>by rw[gL1 hn];exact hS
 refine eZ (λr V=>V=S++[.lst [],.lst []]/\r=[Z (webD w),Z (eyD e),Z (.ref n),Z (eh ws cs),Z (.ref S.length),Z (.ref (S.length+1)),Y,Y,Y,Y,Y,Y,Y]) ?_ ?_
 ·walk_at"w"
 rintro r V ⟨rfl,rfl⟩;refine eZ (λr V=>∃j y,V=S++[.lst (ws.map (ddW w ws cs e L)),.lst []]/\r=[Z (webD w),Z (eyD e),Z (.ref n),Z (eh ws cs),Z (.ref S.length),Z (.ref (S.length+1)),j,y,Y,Y,Y,Y,Y]) ?_ ?_
 ·((try walk_at"w");repeat(simp only[nw,jI,ku];try walk_at"w"))
  rw[mx,Int.toNat_natCast];refine⟨gx (by lia),?_⟩;refine gr (λi r V=>∃j y,i<=ws.length/\V=S++[.lst ((ws.take i).map (ddW w ws cs e L)),.lst []]/\r=[Z (webD w),Z (eyD e),Z (.ref n),Z (eh ws cs),Z (.ref S.length),Z (.ref (S.length+1)),j,y,Y,Y,Y,Y,Y]) _ 0 _ _ ⟨_,_,by lia,O,O⟩ (λ_ _ _ _=>rfl) ?_ ?_
  ·rintro i d x r P ⟨j,y,hi,rfl,rfl⟩;have z:=(gE1.mp x).1;rw[lM1,dy]at z;rw[cY]at *
   have hd':d = .int (i:Nat):=by
    rw[gP1,cI z]at x;exact(Option.some.inj x).symm
   subst hd';walk_at"w";unfold jV;obtain⟨u,A⟩:∃u,ws[i]?=some u:=⟨_,gG1 z⟩;have B:=gM1 A;obtain⟨g,ao,_⟩:=h.wk u B;have eu:∀f,d0 (.tup (eU ws)) (.int (i:Nat)) f=Z (gZ u,f):=λf=>by
    obtain⟨p,e,h⟩:W (d0 (.tup (eU ws)) (.int (i:Nat)) f) λp=>p=(gZ u,f):=hV (by rw[eU,gP1,A];rfl) O;rw[e,h]
   refine eZ (λr V=>V=S++[.lst ((ws.take i).map (ddW w ws cs e L)),.lst []]/\r=[Z (webD w),Z (eyD e),Z (.ref n),Z (eh ws cs),Z (.ref S.length),Z (.ref (S.length+1)),Z (.int (i:Nat)),Z (.int u.2.2),Y,Y,Y,Y,Y]) ?_ ?_
   ·((try walk_at"w");repeat(simp only[nw,eu,wL];try walk_at"w"))
   rintro r P ⟨rfl,rfl⟩;unfold fV;rw[ee];refine lE ?_;walk_at"w";refine⟨S.length,_,O,N _ _,?_⟩;have es:W (eS (dV (mV 7) (dV (mN (dX 4 ff) (dV (mV 0) (dV (mV 1) (dV (mV 3) (dV (mV 6) dW))))) dW)) [Z (webD w),Z (eyD e),Z (.ref n),Z (eh ws cs),Z (.ref S.length),Z (.ref (S.length+1)),Z (.int (i:Nat)),Z (.int u.2.2),Y,Y,Y,Y,Y] (S++[.lst ((ws.take i).map (ddW w ws cs e L)),.lst []])) λp=>p=((ky w ws cs u).d e,S++[.lst ((ws.take i).map (ddW w ws cs e L)),.lst []]):=by
    walk_at"w";refine tq A ao (by lia) ?_;walk_at"w";rw[vY ao];rfl
   obtain⟨p,es,rfl⟩:=es;refine IP (n:=n) (F:=F) (L:=L) (e:=e) (k:=ky w ws cs u) rl (h.ky u B) O (T _ _) es O ?_;walk_at"w";refine(ug (N _ _)).mpr ⟨ed (by rw[lM1,aR];lia),?_⟩;refine⟨_,_,by lia,?_,O⟩;rw[st,cr,A,cu];rfl
  ·rintro r P ⟨j,y,hi,rfl,rfl⟩;rw[lM1,dy,cY,bY];exact⟨O,_,_,O,O⟩
 rintro r V ⟨j,y,rfl,rfl⟩;refine eZ (λr V=>∃j y E C v l s,V=S++[.lst (ws.map (ddW w ws cs e L)),.lst (eU (ws.map λu=>e6 w u (ddW w ws cs e L u)))]/\r=[Z (webD w),Z (eyD e),Z (.ref n),Z (eh ws cs),Z (.ref S.length),Z (.ref (S.length+1)),j,y,E,C,v,l,s]) ?_ ?_
 ·unfold jg;rw[ee];refine BB (xs:=eU ws) (ys:=ws.map (ddW w ws cs e L)) (n:=S.length) O (N _ _) ?_;dsimp only;have aq:uw (eU ws) (ws.map (ddW w ws cs e L))=ws.map λu=>D.tup [gZ u,ddW w ws cs e L u]:=uv ws;rw[aq];refine gr (λi r V=>∃j y E C v l s,i<=ws.length/\V=S++[.lst (ws.map (ddW w ws cs e L)),.lst (eU ((ws.take i).map λu=>e6 w u (ddW w ws cs e L u)))]/\r=[Z (webD w),Z (eyD e),Z (.ref n),Z (eh ws cs),Z (.ref S.length),Z (.ref (S.length+1)),j,y,E,C,v,l,s]) _ 0 _ _ ⟨_,_,_,_,_,_,_,by lia,O,O⟩ (λ_ _ V ⟨_,_,_,_,_,_,_,_,hv,_⟩=>by rw[hv];exact kU (N _ _)) ?_ ?_
  ·rintro i d x r P ⟨j,y,E,C,v,l,s,hi,rfl,rfl⟩;have z:=(gE1.mp x).1;rw[lM1]at z;rw[cY]at *
   obtain ⟨u,A⟩:∃ u,ws[i]? = some u:=⟨_,gG1 z⟩;have B:=gM1 A;obtain ⟨g,ao,_⟩:=h.wk u B;rw [gP1,A] at x;obtain rfl:d=D.tup [gZ u,ddW w ws cs e L u]:=(Option.some.inj x).symm;have hx:=hd u B;have I:e6 w u (ddW w ws cs e L u)=match dt (ddW w ws cs e L u) with
     |some t=>match g[t]? with
      |some p=>(p.1,p.2+1,dm (ddW w ws cs e L u))
      |none=>(u.1,u.2.1,dm (ddW w ws cs e L u))
     |none=>(u.1,u.2.1,dm (ddW w ws cs e L u)):=by
    unfold e6;rw[ao];rfl
   have eT:(ws.take (i+1)).map (λu=>e6 w u (ddW w ws cs e L u))=(ws.take i).map (λu=>e6 w u (ddW w ws cs e L u))++[e6 w u (ddW w ws cs e L u)]:=by
    rw[cr,A,cu];rfl
   have ex:=hx.eta.1;generalize hX:ddW w ws cs e L u=X at *
   generalize hm:dm X=dmx at *
   generalize hh:dh X=dhx at *
   generalize ht:dt X=dtx at *
   have eu:gZ u = .tup [.int u.1,.int u.2.1,.int u.2.2]:=rfl;rw[eu,ex];walk_at"w";unfold jU;have G:∀f,d0 (webD w) (.int (u.1:Nat)) f=Z (.tup (g.map pD),f):=λf=>by
    obtain⟨p,e,h⟩:W (d0 (webD w) (.int (u.1:Nat)) f) λp=>p=(.tup (g.map pD),f):=Ep ao O;rw[e,h]
   have lw:((ws.take i).map λu=>e6 w u (ddW w ws cs e L u)).length<=8:=by rw[lM1,aR];lia
   have am:∀(a b:Nat) (j:Option D),e6 w u X=(a,b,dmx)->W (fV (tm (b2 lZ) (mV 5) (dV (eS (dV (mV 8) (dV (mV 9) (dV (mV 10) dW)))) dW)) [Z (webD w),Z (eyD e),Z (.ref n),Z (eh ws cs),Z (.ref S.length),Z (.ref (S.length+1)),j,Z (.int u.2.2),Z (.int (a:Nat)),Z (.int (b:Nat)),Z (.int (dmx:Nat)),Z (.str dhx),Z (tD dtx)] (S++[.lst (ws.map (ddW w ws cs e L)),.lst (eU ((ws.take i).map λu=>e6 w u (ddW w ws cs e L u)))])) λq=>q.1 = .nx /\ ∃j y E C v l s,i+1<=ws.length/\q.2.2=S++[.lst (ws.map (ddW w ws cs e L)),.lst (eU ((ws.take (i+1)).map λu=>e6 w u (ddW w ws cs e L u)))]/\q.2.1=[Z (webD w),Z (eyD e),Z (.ref n),Z (eh ws cs),Z (.ref S.length),Z (.ref (S.length+1)),j,y,E,C,v,l,s]:=by
    intro a b j U;unfold fV;rw[ee];refine lE ?_;walk_at"w";refine⟨S.length+1,_,O,H _ _,?_⟩;refine(ug (H _ _)).mpr ⟨ed (by rw[ku];lia),?_⟩;refine⟨_,_,_,_,_,_,_,by lia,?_,O⟩;rw[R,eT,U];simp[eU,gZ]
   cases dtx with
   |none=>
    dsimp only at I;refine eZ (λr V=>V=S++[.lst (ws.map (ddW w ws cs e L)),.lst (eU ((ws.take i).map λu=>e6 w u (ddW w ws cs e L u)))]/\r=[Z (webD w),Z (eyD e),Z (.ref n),Z (eh ws cs),Z (.ref S.length),Z (.ref (S.length+1)),j,Z (.int u.2.2),Z (.int u.1),Z (.int u.2.1),Z (.int (dmx:Nat)),Z (.str dhx),Z (tD Y)]) ?_ ?_
    ·have au:gG (tD Y) .non (S++[.lst (ws.map (ddW w ws cs e L)),.lst (eU ((ws.take i).map λu=>e6 w u (ddW w ws cs e L u)))])=Z (.bl J,S++[.lst (ws.map (ddW w ws cs e L)),.lst (eU ((ws.take i).map λu=>e6 w u (ddW w ws cs e L u)))]):=rfl
     ((try walk_at"w");repeat(simp only[au];try walk_at"w"))
    rintro r V ⟨rfl,rfl⟩;exact am u.1 u.2.1 j I
   |some t=>
    dsimp only at I;have au:∀f,gG (tD (Z t)) .non f=Z (.bl M,f):=λf=>rfl;have el:∀f,wT (tD (Z t)) (.int (g.length:Nat)) f=Z (.bl (decide ((t:Int)<(g.length:Int))),f):=λf=>rfl;by_cases hl:t<g.length
    ·have eg:=gG1 hl;rw [eg] at I;have wq:∀ f,d0 (.tup (g.map pD)) (tD (some t)) f=some (pD g[t],f):=fun f=>by
      obtain⟨p,e,h⟩:W (d0 (.tup (g.map pD)) (.int (t:Nat)) f) λp=>p=(pD g[t],f):=hV (by rw[gP1,eg];rfl) O;show d0 (.tup (g.map pD)) (.int (t:Nat)) f=_;rw[e,h]
     generalize g[t]=p at *
     refine eZ (λr V=>V=S++[.lst (ws.map (ddW w ws cs e L)),.lst (eU ((ws.take i).map λu=>e6 w u (ddW w ws cs e L u)))]/\r=[Z (webD w),Z (eyD e),Z (.ref n),Z (eh ws cs),Z (.ref S.length),Z (.ref (S.length+1)),j,Z (.int u.2.2),Z (.int p.1),Z (.int ((p.2+1:Nat):Int)),Z (.int (dmx:Nat)),Z (.str dhx),Z (tD (Z t))]) ?_ ?_
     ·have p0:∀f,d0 (pD p) (.int 0) f=Z (.int p.1,f):=λf=>rfl;have p1:∀f,d0 (pD p) (.int 1) f=Z (.int p.2,f):=λf=>rfl
      ((try walk_at"w");repeat(simp only[au,G,jI,lM1,el];try walk_at"w"))
      rw[ak (by rw[al];lia)]
      ((try walk_at"w");repeat(simp only[G,wq,p0,p1];try walk_at"w"))
      rw[show(1:Int)+(p.2:Int)=((p.2+1:Nat):Int) by lia]
     rintro r V ⟨rfl,rfl⟩;exact am p.1 (p.2+1) j I
    ·rw[b4 (by lia)]at I;refine eZ (λr V=>V=S++[.lst (ws.map (ddW w ws cs e L)),.lst (eU ((ws.take i).map λu=>e6 w u (ddW w ws cs e L u)))]/\r=[Z (webD w),Z (eyD e),Z (.ref n),Z (eh ws cs),Z (.ref S.length),Z (.ref (S.length+1)),j,Z (.int u.2.2),Z (.int u.1),Z (.int u.2.1),Z (.int (dmx:Nat)),Z (.str dhx),Z (tD (Z t))]) ?_ ?_
     ·((try walk_at"w");repeat(simp only[au,G,jI,lM1,el];try walk_at"w"))
      rw[aj (by rw[al];lia)];trivial
     rintro r V ⟨rfl,rfl⟩;exact am u.1 u.2.1 j I
  ·rintro r P ⟨j,y,E,C,v,l,s,hi,rfl,rfl⟩;rw[lM1,cY,bY];exact⟨O,_,_,_,_,_,_,_,O,O⟩
 rintro r V ⟨j,y,E,C,v,l,s,rfl,rfl⟩;walk_at"w";refine eN (H _ _) ?_;refine yE (dd:=ddW w ws cs e L) h.web.len h.m8 hd h.few (N _ _) ?_ ?_
 ·rw[dz,bA1,lA1];rw[bC]at K;refine⟨bC.mpr λo ho=>kW (br _ _) (K o ho),?_⟩;rw[bP,bP,Ob.und,Ob.und,jz (m4 _),Mi.eR λu A=>fE (hd u A).und];rfl
 walk_at"w";have wq:D.tup [.tup (eU (ws.map λu=>e6 w u (ddW w ws cs e L u))),.tup (fA (ej m ws (ddW w ws cs e L) cs))]=jr m w ws cs e L:=rfl;rw[wq,AV (d:=jr m w ws cs e L) lI K (bv _ _)];exact q
noncomputable def qM:List D:=[.non,.int 0,.int 1,.int 2,.int 3,.int 0,.int 1]
noncomputable def ol:List D:=[.str "leave",.str "leave",.str "mark",.str "wipe"]
theorem xC:∀x∈qM,x∈io:=by
 intro x a;simp only[qM,aF,bM,or_false]at a;rcases a with e|e|e|e|e|e|e<;>subst e<;>simp[io]
theorem yq:∀x∈ol,x∈iB:=by
 intro x a;simp only[ol,aF,bM,or_false]at a;rcases a with e|e|e|e<;>subst e<;>simp[iB]
noncomputable def Ak:List D:=[.int 0,.int 1,.int 2,.int 3998]
theorem GZ{o:Ob}{n:Nat}{T:Sto}{Q:D×Sto->Prop}(ho:gA o n)(hn:n<=2^45)(l:T.all (Ob.und (T.length+1))=M)(q:∀x o',gp x->dm x<3999->gA o' (n+5)->Q (x,o'::T)):W (dX 1 gz [.ref 0] (o::T)) Q:=by
 refine xa O O l ?_;unfold gz;refine mR ?_;unfold mJ;refine eZ (λr S=>∃(m:Nat) (c:Ob),m<3999/\gA c (n+1)/\S=c::T/\r=[Z (.ref 0),Z (.int (m:Nat)),Y]) ?_ ?_
 ·walk_at"w";refine fF ho (by lia) (by lia) (by lia) λy b a p=>?_;have f:y<4:=by lia
  obtain⟨m,g,j⟩:∃m:Nat,m<3999/\Ak[y]?=some (.int (m:Nat)):=by
   match y,f with
   |0,_=>exact⟨0,by decide,O⟩
   |1,_=>exact⟨1,by decide,O⟩
   |2,_=>exact⟨2,by decide,O⟩
   |3,_=>exact⟨3998,by decide,O⟩
  refine hV (i:=y) (xs:=Ak) j ?_;exact⟨m,b,g,a,O,O⟩
 rintro r S ⟨m,c,g,e,rfl,rfl⟩;refine eZ (λr S=>∃(t:D) (c:Ob),t∈io/\gA c (n+2)/\S=c::T/\r=[Z (.ref 0),Z (.int (m:Nat)),Z t]) ?_ ?_
 ·walk_at"w";refine fF e (by lia) (by lia) (by lia) λy b a p=>?_;refine hV (i:=y) (xs:=qM) (x:=qM[y]'(by show y<7;lia)) (gG1 _) ?_;exact⟨_,b,xC _ (bS _),a,O,O⟩
 rintro r S ⟨t,s,k,d,rfl,rfl⟩;walk_at"w";refine fF d (by lia) (by lia) (by lia) λx b a u=>?_;refine hV (i:=x) (xs:=ol) (x:=ol[x]'(by show x<4;lia)) (gG1 _) ?_;walk_at"w";have h:gp (.tup [.int (m:Nat),ol[x]'(by show x<4;lia),t]):=⟨m,_,_,O,by lia,yq _ (bS _),k⟩;exact⟨_,b,[],by rw[aN],h.und,a.und,q _ b h (by show(m:Int).toNat<3999;lia) (a.more (by lia))⟩
def Kf(e:E4)(k:Ky):Prop:=(e.2.1=M->k.y<=1)/\(e.2.2.2=M->k.w<=1)/\k.m<3999
theorem Kf.of{e:E4}{k l:Ky}(h:Kf e k)(z:l.tk e=k.tk e):Kf e l:=by
 obtain⟨a,b,c,d⟩:=e;unfold Ky.tk at z;injection z with z;injection z with j z;injection j with j;injection z with f _;injection f with f;injection f with p f;injection f with p2 f;injection f with r f;injection f with o _;have m:=qi p2;have n:=qi o;obtain⟨h1,h2,q⟩:=h;refine⟨λg=>?_,λi=>?_,by lia⟩
 ·have:=h1 g;unfold cx at m;dsimp only at g;rw[g,ak O,ak O]at m;lia
 ·have:=h2 i;unfold cx at n;dsimp only at i;rw[i,ak O,ak O]at n;lia
theorem Kn{w:eB}{ws:List Wk}{cs:List Nat}{u:Wk}{e:E4}(h:u.2.2<3999):Kf e (ky w ws cs u):=by
 refine⟨λ_=>?_,λ_=>?_,h⟩
 ·show(if cs.contains u.1 then 1 else 0)<=1;split<;>lia
 ·show(if 1<crowd ws u.1 then 1 else 0)<=1;split<;>lia
structure RN (e:E4)(F:List (TK×D)):Prop where
 row:∀p∈F,∃k:Ky,k.Ok/\p.1=k.tk e/\(gp p.2\/p.2 = .non)
 nd:(F.map (·.1)).Nodup
 fine:∀p∈F,dm p.2<3999 /\ ∀k:Ky,p.1=k.tk e->Kf e k
theorem RN.nil{e:E4}:RN e []:=⟨λp a=>(by cases a),bo,λp a=>(by cases a)⟩
theorem RN.vu{e:E4}{F:List (TK×D)}(h:RN e F){p:TK×D}(hp:p∈F)(n:Nat):p.2.und n=M:=by
 obtain⟨_,_,_,a⟩:=h.row p hp;rcases a with a|a
 ·exact fE a.und
 ·rw[a];rfl
theorem RN.und{e:E4}{F:List (TK×D)}(h:RN e F)(n:Nat):(dO F).und n=M:=by
 have:D.unds n (F.map (·.2))=M:=Mi.eR λp a=>h.vu a n;cases F with
 |nil=>rfl
 |cons _ _=>exact this
theorem RN.put{e:E4}{F:List (TK×D)}{k:Ky}{x:D}(h:RN e F)(hk:k.Ok)(hx:gp x\/x = .non)(hd:dm x<3999)(hf:Kf e k):RN e (fm F (k.tk e) x):=by
 unfold fm;split
 ·refine⟨λp c=>?_,?_,λp c=>?_⟩
  ·obtain⟨f,d,rfl⟩:=cc.mp c;obtain⟨l,h1,h2,q⟩:=h.row f d;by_cases z:f.1=k.tk e
   ·rw[ak z];exact⟨l,h1,h2,hx⟩
   ·rw[aj z];exact⟨l,h1,h2,q⟩
  ·rw [bu];have:(F.map ((fun p:TK×D=>p.1)∘fun p=>if p.1=k.tk e then (p.1,x) else p))=F.map (·.1):=by
    apply de;intro p _;simp only[Function.comp];split<;>rfl
   rw[this];exact h.nd
  ·obtain⟨f,d,rfl⟩:=cc.mp c;obtain⟨r,i⟩:=h.fine f d;by_cases z:f.1=k.tk e
   ·rw[ak z];exact⟨hd,i⟩
   ·rw[aj z];exact⟨r,i⟩
 ·rename_i o;refine⟨λp c=>?_,?_,λp c=>?_⟩
  ·rcases aG.mp c with z|z
   ·exact h.row p z
   ·simp at z;subst z;exact⟨k,hk,O,hx⟩
  ·rw[cu,bA];refine⟨h.nd,by simp,λa j b g z=>?_⟩;simp at g;subst g;subst z;obtain⟨p,c,n⟩:=cc.mp j;exact o (bR.mpr ⟨p,c,ah n⟩)
  ·rcases aG.mp c with z|z
   ·exact h.fine p z
   ·simp at z;subst z;exact⟨hd,λl m=>hf.of m.symm⟩
theorem FZ{S:Sto}{n:Nat}{F:List (TK×D)}{d:D}{k:TK}(h:S[n]?=Z (dO F))(hk:keyT d=Z k):jJ d (.ref n) S=Z (.bl (!(d3 F k).isSome),S):=by
 cases F with
 |nil=>
  have h':S[n]?=Z (.dct []):=h;simp only[jJ,h',hk];rfl
 |cons p F=>
  have h':S[n]?=Z (.dcT (p::F)):=h;simp only[jJ,gt,h',hk,oP1]
theorem gc_same{n:Nat}{p:D×Sto}(h:p.2.length=n):gc n p=p:=by
 unfold gc;rw[<- h,bY];split<;>rfl
def Sub(F F':List (TK×D)):Prop:=∀k d,d3 F k=Z d->d3 F' k=Z d
theorem Sub.refl(F:List (TK×D)):Sub F F:=λ_ _ h=>h
theorem Sub.trans{F G am:List (TK×D)}(a:Sub F G)(b:Sub G am):Sub F am:=λk d h=>b k d (a k d h)
theorem Sub.put{F a:List (TK×D)}{k:TK}{v:D}(s:Sub F a)(h:(d3 F k).isSome=J):Sub F (fm a k v):=λb d e=>by
 rw[tu];split
 ·rename_i z;subst z;rw[e]at h;cases h
 ·exact s b d e
theorem Co{F:List (TK×D)}{k:TK}{a b:D}:fm (fm F k a) k b=fm F k b:=by
 by_cases h:(F.any λp=>decide (p.1=k))=M
 ·have h2:((F.map fun p=>if p.1=k then (p.1,a) else p).any fun p=>decide (p.1=k))=true:=by
   obtain⟨p,c,e⟩:=bR.mp h;have e:=of_decide_eq_true e;exact bR.mpr ⟨(p.1,a),cc.mpr ⟨p,c,by rw[ak e]⟩,ah e⟩
  unfold fm;rw[ak h,ak h2,ak h,bu];apply de;intro p _;simp only[Function.comp];by_cases z:p.1=k
  ·rw[ak z,ak z,ak z]
  ·rw[aj z,aj z]
 ·have h2:((F++[(k,a)]).any fun p=>decide (p.1=k))=true:=bR.mpr ⟨(k,a),mA1 _ (cU.mpr rfl),decide_eq_true rfl⟩;unfold fm;rw [if_neg h,if_neg h,if_pos h2,cu];have e:F.map (fun p=>if p.1=k then (p.1,b) else p)=F:=by
   conv=>rhs;rw[<- List.map_id F]
   apply de;intro p c;rw[aj λz=>h (bR.mpr ⟨p,c,ah z⟩)];rfl
  rw[e];simp
theorem Dy{m:Nat}{w:eB}{ws:List Wk}{cs:List Nat}{e:E4}{F:List (TK×D)}{o:Ob}{n:Nat}{T:Sto}{Q:D×Sto->Prop}(h:i3 m w ws cs)(N:∀ u∈ws,u.2.2<3999)(hF:RN e F)(hT:T.all (Ob.und 0)=true)(ho:gA o n)(hn:n<=2^40)(hl:F.length<=10000)(q:∀g o',RN e g->g.length<=F.length+ws.length->gA o' (n+100)->Sub F g->(∀u∈ws,(d3 g ((ky w ws cs u).tk e)).isSome=true)->Q (.non,o'::dO g::T)):
  W (dX 5 ge [.ref 0,webD w,eyD e,.ref 1,eh ws cs] (o::dO F::T)) Q:=by
 refine oD O O ?_;unfold ge;refine mR ?_;unfold lA;have hf:=h.few;have U:∀F,RN e F->(dO F::T).all (Ob.und ((dO F::T).length+1))=M:=λF hF=>by
  rw[bP,hF.und,Bool.true_and,bC];exact λx wq=>kW (bi _) (bC.mp hT x wq)
 ((try walk_at"w");repeat(simp only[nw,jI,ku];try walk_at"w"))
 rw[mx,Int.toNat_natCast];refine⟨gx (by lia),?_⟩;refine gr (λi r S=>∃g o' y5 R,i<=ws.length/\RN e g/\g.length<=F.length+i/\gA o' (n+10*i)/\Sub F g/\(∀j u,j<i->ws[j]?=Z u->(d3 g ((ky w ws cs u).tk e)).isSome=M)/\S=o'::dO g::T/\r=[Z (.ref 0),Z (webD w),Z (eyD e),Z (.ref 1),Z (eh ws cs),y5,R]) _ 0 _ _ ⟨F,o,_,_,by lia,hF,by lia,ho,Sub.refl F,λj u P _=>by lia,O,O⟩ (λ_ _ _ _=>rfl) ?_ ?_
 ·rintro i d C r S ⟨a,B,y5,R,hi,l,am,y,b,s,rfl,rfl⟩;have G:=(gE1.mp C).1;rw[lM1,dy]at G;rw[cY]at *
  have hd':d = .int (i:Nat):=by
   rw[gP1,cI G]at C;exact(Option.some.inj C).symm
  subst hd';walk_at"w";unfold jc;obtain⟨u,H⟩:∃u,ws[i]?=some u:=⟨_,gG1 G⟩;have E:=gM1 H;obtain⟨row,er,_,hmd⟩:=h.wk u E;have hk:=h.ky u E;have ao:Kf e (ky w ws cs u):=Kn (N u E);have eu:∀K,d0 (.tup (eU ws)) (.int (i:Nat)) K=Z (gZ u,K):=λK=>by
   obtain⟨p,e,h⟩:W (d0 (.tup (eU ws)) (.int (i:Nat)) K) λp=>p=(gZ u,K):=hV (by rw[eU,gP1,H];rfl) O;rw[e,h]
  refine eZ (λr S=>S=B::dO a::T/\r=[Z (.ref 0),Z (webD w),Z (eyD e),Z (.ref 1),Z (eh ws cs),Z (.int (i:Nat)),Z ((ky w ws cs u).d e)]) ?_ ?_
  ·((try walk_at"w");repeat(simp only[nw,eu,wL];try walk_at"w"))
   refine tq H er (by lia) ?_;rw[vY er];walk_at"w";rfl
  rintro r S ⟨rfl,rfl⟩;have aq:∀(au:List (TK×D)),(∀k d,d3 a k=Z d->d3 au k=Z d)->(d3 au ((ky w ws cs u).tk e)).isSome=M -> ∀j v,j<i+1->ws[j]?=Z v->(d3 au ((ky w ws cs v).tk e)).isSome=M:=λau h1 h2 j v P X=>by
   by_cases z:j=i
   ·subst z;rw[H]at X;cases X;exact h2
   ·obtain⟨d,hd⟩:=aQ.mp (s j v (by lia) X);rw[h1 _ _ hd];rfl
  have A:=FZ (S:=B::dO a::T) (n:=1) (F:=a) O ((ky w ws cs u).keyT e);cases hin:(d3 a ((ky w ws cs u).tk e)).isSome with
  |true=>
   rw[hin]at A
   ((try walk_at"w");repeat(simp only[A];try walk_at"w"))
   exact⟨a,B,_,_,by lia,l,by lia,y.more (by lia),b,aq a (λ_ _ h=>h) hin,O,O⟩
  |false=>
   rw[hin]at A;have s1:=HU (e:=e) (F:=a) (k:=ky w ws cs u) (x:=.non) (n:=1) (S:=B::dO a::T) O (by lia);have L:=l.put hk (x:=.non) (.inr O) (by decide) ao;have l2:(fm a ((ky w ws cs u).tk e) D.non).length<=a.length+1:=v9;have f:∀x,(d3 (fm a ((ky w ws cs u).tk e) x) ((ky w ws cs u).tk e)).isSome=M:=λx=>by rw[tu,ak O];rfl
   have c:∀x,Sub a (fm a ((ky w ws cs u).tk e) x):=λx=>(Sub.refl a).put hin
   ((try walk_at"w");repeat(simp only[A,s1];try walk_at"w"))
   refine fF y (by lia) (by lia) (by lia) λt o2 I ht=>?_;walk_at"w";split
   ·refine GZ I (by lia) (U _ L) λx o3 wq V ho3=>?_;have s2:=HU (e:=e) (F:=fm a ((ky w ws cs u).tk e) .non) (k:=ky w ws cs u) (x:=x) (n:=1) (S:=o3::dO (fm a ((ky w ws cs u).tk e) .non)::T) O (by lia)
    ((try walk_at"w");repeat(simp only[s2];try walk_at"w"))
    have e2:fm (fm a ((ky w ws cs u).tk e) .non) ((ky w ws cs u).tk e) x=fm a ((ky w ws cs u).tk e) x:=Co;rw[e2];have l3:(fm a ((ky w ws cs u).tk e) x).length<=a.length+1:=v9;exact⟨_,o3,_,_,by lia,l.put hk (.inl wq) V ao,by lia,ho3.more (by lia),b.trans (c x),aq _ (c x) (f x),O,O⟩
   ·exact⟨_,o2,_,_,by lia,L,by lia,I.more (by lia),b.trans (c .non),aq _ (c .non) (f .non),O,O⟩
 ·rintro r S ⟨a,B,y5,R,hi,l,am,y,b,s,rfl,rfl⟩;rw[lM1,dy,cY]at *
  have e1:gc (T.length+2) (D.non,B::dO a::T)=(D.non,B::dO a::T):=gc_same O;show Q (gc (T.length+2) (D.non,B::dO a::T));rw[e1];exact q a B l am (y.more (by lia)) b λu H=>by
   obtain⟨j,P⟩:=bq H;exact s j u (gE1.mp P).1 P
noncomputable def isT:D->Bool
 | .tup _=>M
 |_=>J
noncomputable def dv(d:D):Option D:=if isT d=M then Z d else Y
noncomputable def gi(F:List (TK×D)):List (TK×D):=F.filter λp=>isT p.2
noncomputable def uR(p:TK×D):D:=.tup [Mi.tkD p.1,p.2]
theorem gp.isT{x:D}(h:gp x):isT x=M:=by
 obtain⟨_,_,_,rfl,_⟩:=h.is;rfl
theorem k7{e:E4}{F:List (TK×D)}(h:RN e F):RW e (gi F):=by
 refine⟨λp d=>?_,List.Sublist.nodup (List.Sublist.map _ List.filter_sublist) h.nd⟩;obtain⟨h1,h2⟩:=aA.mp d;obtain⟨k,b,c,a⟩:=h.row p h1;rcases a with a|a
 ·exact⟨k,b,c,a⟩
 ·rw[a]at h2;cases h2
theorem live_len(F:List (TK×D)):(gi F).length<=F.length:=dj _ _
theorem pV:∀{F:List (TK×D)} (k:TK),(F.map (·.1)).Nodup->d3 (gi F) k=(d3 F k).bind dv
 |[],_,_=>rfl
 |(a,d)::F,k,nd=>by
  rw[mP1,aO]at nd;have ih:=pV (F:=F) k nd.2;unfold gi at ih ⊢;rw[df,fc];by_cases z:a=k
  ·have b:d3 F k=none:=lW (by
    rw[Bool.eq_false_iff];intro y;obtain⟨p,c,e⟩:=bR.mp y;exact nd.1 (cc.mpr ⟨p,c,(of_decide_eq_true e).trans z.symm⟩))
   rw[b]at ih;rw[ak z];cases hd:isT d with
   |true=>rw[ak O,fc,ak z];simp[dv,hd]
   |false=>rw[aj (by simp),ih];simp[dv,hd]
  ·rw[aj z];cases hd:isT d with
   |true=>rw[ak O,fc,aj z,ih]
   |false=>rw[aj (by simp),ih]
theorem rQ:∀(ps acc:List (TK×D)),((acc++ps).map (·.1)).Nodup->ps.foldl (λF p=>fm F p.1 p.2) acc=acc++ps
 |[],acc,_=>by simp
 |p::ps,acc,nd=>by
  have e:fm acc p.1 p.2=acc++[p]:=by
   unfold fm;rw[aj];intro y;obtain⟨q,a,e⟩:=bR.mp y;rw[cu,bA]at nd;exact nd.2.2 _ (cc.mpr ⟨q,a,O⟩) _ (cc.mpr ⟨p,mS1,O⟩) (of_decide_eq_true e)
  rw[b9,e,rQ ps (acc++[p]) (by rw[bH];exact nd),bH];rfl
theorem lS:∀{F:List (TK×D)},(∀p∈F,Mi.keyT (Mi.tkD p.1)=Z p.1)->i9 (F.map uR)=Z F
 |[],_=>rfl
 |p::F,h=>by
  rw[mP1,i9,lS λq a=>h q (mC1 _ a)];have:=h p mS1;simp only[uR,wj,this,oP1,oS1]
theorem RN.key{e:E4}{F:List (TK×D)}(h:RN e F){p:TK×D}(hp:p∈F):Mi.keyT (Mi.tkD p.1)=Z p.1:=by
 obtain⟨k,_,h2,_⟩:=h.row p hp;rw[h2,k.tkD,k.keyT e]
theorem Bf(F:List (TK×D)):KY F=dO F:=by cases F<;>rfl
theorem Cu{e:E4}{F:List (TK×D)}(h:RN e F)(n:Nat):D.unds n ((gi F).map uR)=M:=Mi.eR λp a=>by
 have a:=(aA.mp a).1;unfold uR;simp only[D.und,D.unds,h.vu a,uE,db]
theorem wB:∀{F:List (TK×D)},(F.map (·.1)).Nodup -> ∀{p:TK×D},p∈F->d3 F p.1=Z p.2
|[],_,_,hp=>by cases hp
|y::F,nd,p,hp=>by
 rw[mP1,aO]at nd;obtain⟨a,b⟩:=y;rw[fc];rcases aF.mp hp with z|z
 ·subst z;rw[ak rfl]
 ·rw[aj (λw=>nd.1 (cc.mpr ⟨p,z,w.symm⟩))];exact wB nd.2 z
theorem wh{e:E4}{F:List (TK×D)}{n:Nat}{r:Ev}{S:Sto}{Q:D×Sto->Prop}(d:RN e F)(u:F.length<=10000)(l:S[n]? = Z (dO F))(hr:r[5]? = Z (Z (.ref n)))(q:Q (.ref S.length,S++[.lst ((gi F).map uR)])):W (l0 1 [5] (mV 5) (gN 0) (mB (m2 (b2 gG) (m2 (b2 d0) (mV 1) (mV 0)) (mC D.non))) (eG (eS (dV (mV 0) (dV (m2 (b2 d0) (mV 1) (mV 0)) dW)))) r S) Q:=by
 have m:=(gE1.mp l).1;have t:mV 5 r S=Z (.ref n,S):=by simp[mV,hr]
 have g:rL 1 [5] r=[Y,Z (.ref n)]:=by simp[rL,hr]
 have c:(S.set n (.dcF F))[n]?=Z (.dcF F):=by rw[aI m]
 unfold l0;rw[t,oS1];dsimp only;have v:AG (dO F)=Z F:=by cases F<;>rfl
 rw[l,oS1,v,oS1,ee,g];refine jL (f:=λq:TK×D=>Mi.tkD q.1) (λp:TK×D=>isT p.2) uR (λr=>∃z,r=[z,Z (.ref n)]) O F _ ⟨_,O⟩ ?_ λw _=>?_
 ·rintro p b r ⟨z,rfl⟩;have o:d0 (.ref n) (Mi.tkD p.1) (S.set n (.dcF F))=some (p.2,S.set n (.dcF F)):=by
   simp only[d0,c];rw[d.key b,oS1,wB d.nd b];rfl
  have s:gG p.2 .non (S.set n (.dcF F))=Z (.bl (isT p.2),S.set n (.dcF F)):=by
   obtain⟨k,_,_,a⟩:=d.row p b;rcases a with a|a
   ·obtain⟨_,_,_,z,_⟩:=a.is;rw[z];rfl
   ·rw[a];rfl
  ((try walk_at"w");repeat(simp only[o,s];try walk_at"w"))
  exact⟨⟨_,O⟩,λ_=>⟨O,trivial⟩⟩
 ·dsimp only;have j:=live_len F;rw [if_pos (by rw [lM1];exact aC (aC j u) (by decide)),ew,aW,List.set_set];have:S.set n (dO F)=S:=by
   apply bZ;intro i;by_cases h:n=i
   ·subst h;rw[aI m,l]
   ·rw[gS1 h]
  rw[this];exact q
theorem GU{e:E4}{F:List (TK×D)}{n:Nat}{S:Sto}{Q:D×Sto->Prop}(a:RN e F)(d:F.length<=10000)(c:S[n]?=Z (.lst ((gi F).map uR)))(q:Q (.ref S.length,S++[dO (gi F)])):W (jm (.ref n) S) Q:=by
 refine W.of ?_ q;unfold jm;rw[iM c];dsimp only;rw[lS (F:=gi F) λp b=>a.key (aA.mp b).1,oS1,lM1,ak (aC (live_len F) (by lia))];have:jY (gi F)=gi F:=by
  unfold jY;rw[rQ _ _ (by rw[cW];exact(k7 a).nd),cW]
 rw[this,Bf]
theorem wO{α:Type}{f:α->D}{c:α->Nat}{a:α}:∀ {zs:List α},(∀ b∈zs,kb [] 51 (f a) (f b)=some (decide (c a<c b)))->(∀ b∈zs,c b≠c a)->zs.Pairwise (fun x y=>c x<c y) ->
  ∃ys:List α,yn (f a) (zs.map f)=ys.map f/\ys.Perm (a::zs)/\ys.Pairwise (λx y=>c x<c y)
 |[],_,_,_=>⟨[a],O,.refl _,by simp⟩
 |b::zs,h,hn,hp=>by
  rw[ca]at hp;rw[mP1,yn];have j:=h b mS1;unfold Km;rw[j];by_cases z:c a<c b
  ·rw[ah z,ak (show(Z M == Z M)=M from rfl)];refine⟨a::b::zs,O,.refl _,ca.mpr ⟨λy d=>?_,ca.mpr hp⟩⟩;rcases aF.mp d with rfl|d
   ·exact z
   ·exact bh z (hp.1 y d)
  ·rw[ai z,aj (by decide)];obtain⟨ys,e,i,k⟩:=wO (λx g=>h x (mC1 _ g)) (λx g=>hn x (mC1 _ g)) hp.2;refine⟨b::ys,by rw[e];rfl,(i.cons b).trans (.swap _ _ _),ca.mpr ⟨λy d=>?_,k⟩⟩;rcases aF.mp (i.mem_iff.mp d)with rfl|d
   ·have:=hn b mS1;lia
   ·exact hp.1 y d
theorem sv{α:Type}{f:α->D}{c:α->Nat}:∀ {ks:List α},(∀ a∈ks,∀ b∈ks,kb [] 51 (f a) (f b)=some (decide (c a<c b)))->(ks.map c).Nodup ->
  ∃zs:List α,kF (ks.map f)=zs.map f/\zs.Perm ks/\zs.Pairwise (λx y=>c x<c y)/\mo (zs.map f)=M
 |[],_,_=>⟨[],O,.refl _,.nil,O⟩
 |a::ks,h,hn=>by
  rw[mP1,aO]at hn;obtain⟨zs,e,n,r,_⟩:=sv (ks:=ks) (λx j y k=>h x (mC1 _ j) y (mC1 _ k)) hn.2;obtain⟨ys,p,l,i⟩:=wO (a:=a) (zs:=zs) (λb m=>h a mS1 b (mC1 _ (n.mem_iff.mp m))) (λb m z=>hn.1 (cc.mpr ⟨b,n.mem_iff.mp m,z⟩)) r;have g:ys.Perm (a::ks):=l.trans (n.cons a);refine⟨ys,by rw[mP1,kF,e,p],g,i,?_⟩;have k:∀x∈ys,∀y∈ys,kb [] 51 (f x) (f y)=Z (decide (c x<c y)):=λx j y k=>h x (g.mem_iff.mp j) y (g.mem_iff.mp k);clear p l g
  induction ys with
  |nil=>rfl
  |cons y ys ih=>
   rw[ca]at i;rw[mP1,mo,ih i.2 λx j z q=>k x (mC1 _ j) z (mC1 _ q),bN,bC];intro d s;obtain⟨x,j,rfl⟩:=cc.mp s;unfold pW;have o:=i.1 x j;rw[k y mS1 x (mC1 _ j),k x (mC1 _ j) y mS1,ah o,ai (by lia)];rfl
theorem DK{x:D}{S:Sto}{n:Nat}(h:gp x):fW S (n+3) x x=Z M:=by
 have e:=h.eta.1;generalize dm x=a at e;generalize dh x=b at e;generalize dt x=c at e;subst e;have d:∀i:Int,fW S (n+2) (.int i) (.int i)=Z M:=λi=>by show Z (i == i)=_;simp
 have g:fW S (n+2) (.str b) (.str b)=Z M:=by show Z (b == b)=_;simp
 have f:fW S (n+2) (tD c) (tD c)=Z M:=by
  cases c with
  |none=>rfl
  |some t=>exact d t
 rw[Ht,ll,d,oS1,ll,g,oS1,ll,f,oS1,ll];rfl
theorem E7{e:E4}{p q:Rw}(hp:g9 p)(a:g9 q)(h:p.1.code e=q.1.code e->p=q):kb [] 51 (eI e p) (eI e q)=Z (decide (p.1.code e<q.1.code e)):=by
 unfold eI;rw[Kl,oX,Ky.eq (n:=47) hp.1 a.1,oS1];by_cases z:p.1.code e=q.1.code e
 ·rw[ak (ah z),oX];have:=h z;subst this;rw[DK (n:=47) hp.2,oS1,ak O,oX];simp
 ·rw[aj (by rw[al];exact z),Ky.lt (n:=47) hp.1 a.1]
theorem pl_tk:∀k:TK,pl (Mi.tkD k)=M:=λk=>k.rec (motive_1:=λk=>pl (Mi.tkD k)=M) (motive_2:=λks=>m7 (Mi.ic ks)=M) O (λ_=>rfl) (λ_ ih=>by rw[Mi.tkD,pl];exact ih) O (λ_ _ a b=>by rw[Mi.ic,m7,a,b];rfl)
theorem Cz{x:D}(h:gp x):pl x=M:=by
 have e:=h.eta.1;generalize dm x=a at e;generalize dh x=b at e;generalize dt x=c at e;subst e;cases c<;>rfl
theorem wc{α:Type}{f:α->D}:∀{l:List α},(∀x∈l,pl (f x)=M)->m7 (l.map f)=M
 |[],_=>rfl
 |x::l,h=>by rw[mP1,m7,h x mS1,wc λy a=>h y (mC1 _ a)];rfl
theorem vh{e:E4}:∀L:List Rw,∃f,oj (L.map (eI e))=Z f
 |[]=>⟨_,O⟩
 |p::L=>by
  refine⟨J,?_⟩;have a:∀q:Rw,jk (eI e q)=Z J:=λq=>rfl;rw[mP1,oj,a];dsimp only;rw[ak];rw[bC];intro d b;obtain⟨q,_,rfl⟩:=cc.mp b;rw[a];rfl
theorem nB{e:E4}{F:List (TK×D)}(h:RW e F)(C:F.length<=4000):
  ∃L:List Rw,RL e F L/\L.length<=F.length /\ ∀(n:Nat) (S:Sto),S[n]?=Z (.lst (F.map uR))->om (.ref n) S=Z (.ref S.length,S++[.lst (L.map (eI e))]):=by
 obtain⟨d,m,ok⟩:=RW.list h.row;have q:∀p∈d,p.1.Ok:=λp g=>(ok p g).1;have nd:(d.map λp=>p.1.code e).Nodup:=by
  have:=h.nd;rw[<- m,bu]at this;refine(dg.mpr ((dg.mp this).imp_of_mem λ{a b} j i o z=>?_));exact o ((kB (q a j) (q b i)).mpr z)
 have inj:∀a∈d,∀b∈d,a.1.code e=b.1.code e->a=b:=λa j b i z=>by
  have x:=(iE (f:=λp:Rw=>p.1.code e) (c:=b.1.code e) (a:=a) nd).mpr ⟨j,z⟩;have s:=(iE (f:=λp:Rw=>p.1.code e) (c:=b.1.code e) (a:=b) nd).mpr ⟨i,O⟩;rw[x]at s;exact Option.some.inj s
 obtain⟨L,v,l,B,t⟩:=sv (f:=eI e) (c:=λp:Rw=>p.1.code e) (ks:=d) (λa j b i=>E7 (ok a j) (ok b i) (inj a j b i)) nd;have y:d.length=F.length:=by rw[<- m,lM1]
 have A:∀k:Ky,k.Ok->d3 F (k.tk e)=(L.find? λp=>decide (p.1.code e=k.code e)).map (·.2):=λk u=>by
  have a1:d3 F (k.tk e)=(d.find? λp=>decide (p.1.code e=k.code e)).map (·.2):=by
   rw[<- m];unfold d3;rw[List.find?_map,Option.map_map];have:(d.find? ((λp:TK×D=>decide (p.1=k.tk e))∘λp:Rw=>(p.1.tk e,p.2)))=d.find? λp=>decide (p.1.code e=k.code e):=by
    apply iW;intro p g;simp only[Function.comp];rw[bQ,al,al];exact kB (q p g) u
   rw[this];rfl
  rw[a1,yu (f:=λp:Rw=>p.1.code e) l nd]
 refine⟨L,⟨B,λp g=>ok p (l.mem_iff.mp g),by rw[l.length_eq];lia,A⟩,by rw[l.length_eq];lia,λn S r=>?_⟩;have ep:F.map uR=d.map (eI e):=by
  rw[<- m,bu];apply de;intro p _;show D.tup [Mi.tkD (p.1.tk e),p.2]=_;rw[p.1.tkD];rfl
 rw[ep]at r;obtain⟨f,w⟩:=vh (e:=e) d;unfold om;rw[iM r];dsimp only;have g:m7 (d.map (eI e))=M:=wc λp g=>by
  unfold eI;rw[pl,m7,m7,m7,Cz (ok p g).2,<- p.1.tkD e,pl_tk];rfl
 rw[w,oS1,v,ak (by rw[g,t,lM1,ah (by lia)];rfl)]
noncomputable def tS(e:E4)(F:List (TK×D))(k:Ky):D:=((d3 F (k.tk e)).bind dv).getD (Be k)
theorem RL.due{e:E4}{F:List (TK×D)}{L:List Rw}(a:RL e (gi F) L)(b:RN e F){k:Ky}(hk:k.Ok):mS e L k=tS e F k:=by
 unfold mS tS;rw[<- a.lk k hk,pV _ b.nd]
theorem n9{F:List (TK×D)}{k:TK}{d:D}(h:d3 F k=Z d):(k,d)∈F:=by
 unfold d3 at h;obtain⟨p,f,e⟩:=oM1.mp h;have c:=List.find?_some f;have g:=dw f;obtain⟨a,b⟩:=p;have c:=of_decide_eq_true c;dsimp only at e c;subst e;subst c;exact g
theorem DH{e:E4}{F:List (TK×D)}(c:RN e F){k:Ky}(hk:k.Ok):gp (tS e F k):=by
 have b:gp (Be k):=⟨k.m,_,_,O,hk.m,by simp[iB],by simp[io]⟩;unfold tS;cases h:d3 F (k.tk e)with
 |none=>exact b
 |some d=>
  obtain⟨_,_,_,a⟩:=c.row _ (n9 h);rcases a with a|a
  ·rw[oS1,dv,ak a.isT];exact a
  ·dsimp only at a;rw[a];exact b
abbrev Wh:=List Wk×List Nat
noncomputable def im(a:Wh):D:=eh a.1 a.2
noncomputable def En(w:eB)(e:E4)(F:List (TK×D))(a:Wh)(u:Wk):D:=tS e F (ky w a.1 a.2 u)
noncomputable def ip(m:Nat)(w:eB)(e:E4)(F:List (TK×D))(a:Wh):Wh:=(a.1.map λu=>e6 w u (En w e F a u),ej m a.1 (En w e F a) a.2)
theorem iG{α:Type}{p q:α->Bool}:∀{l:List α},(∀x∈l,p x=q x)->l.any p=l.any q
 |[],_=>rfl
 |x::l,h=>by rw[bd,bd,h x mS1,iG λy a=>h y (mC1 _ a)]
theorem rT{m:Nat}{ws:List Wk}{f g:Wk->D}{cs:List Nat}(h:∀u∈ws,f u=g u):ej m ws f cs=ej m ws g cs:=by
 have:∀s r,ig ws f s r=ig ws g s r:=λs r=>iG λu a=>by rw[h u a]
 unfold ej;simp only[this]
theorem nA{m:Nat}{w:eB}{ws:List Wk}{f g:Wk->D}{cs:List Nat}(h:∀u∈ws,f u=g u):((ws.map λu=>e6 w u (f u),ej m ws f cs):Wh)=(ws.map λu=>e6 w u (g u),ej m ws g cs):=by
 rw[rT h]
 congr 1
 apply de;intro u a;rw[h u a]
theorem Br{m:Nat}{w:eB}{e:E4}{F:List (TK×D)}{L:List Rw}{a:Wh}(h:i3 m w a.1 a.2)(b:RL e (gi F) L)(c:RN e F):jr m w a.1 a.2 e L=im (ip m w e F a):=by
 have:=nA (m:=m) (w:=w) (ws:=a.1) (cs:=a.2) (f:=ddW w a.1 a.2 e L) (g:=En w e F a) λu d=>b.due c (h.ky u d);unfold jr im ip;rw[<- this]
theorem xE{m:Nat}{w:eB}{e:E4}{F b:List (TK×D)}{a:Wh}(s:Sub F b)(h:∀u∈a.1,(d3 F ((ky w a.1 a.2 u).tk e)).isSome=M):ip m w e b a=ip m w e F a:=by
 refine nA λu f=>?_;obtain⟨d,c⟩:=aQ.mp (h u f);unfold En tS;rw[c,s _ _ c]
theorem yF{m:Nat}{ws:List Wk}{f:Wk->D}{cs:List Nat}(hm:m<=8):(ej m ws f cs).length<=8 /\ ∀r∈ej m ws f cs,r<m:=by
 unfold ej;refine⟨?_,λr a=>aB.mp (aA.mp a).1⟩;refine aC (dj _ _) ?_;rw[dy];exact hm
theorem zo{m:Nat}{w:eB}{ws:List Wk}{cs:List Nat}(h:i3 m w ws cs){u:Wk}(f:u∈ws){x:D}(hx:gp x):∃a,w[(e6 w u x).1]?=Z a/\(e6 w u x).2.1<=a.length/\(e6 w u x).2.2<4000:=by
 have c:=hx.eta.2;obtain⟨a,b,h1,h2⟩:=h.wk u f;unfold e6;rw[b];have base:∃a,w[(u.1,u.2.1,dm x).1]?=Z a/\(u.1,u.2.1,dm x).2.1<=a.length/\(u.1,u.2.1,dm x).2.2<4000:=⟨a,b,h1,c⟩;cases dt x with
 |none=>exact base
 |some t=>
  dsimp only[oS1];cases ep:a[t]? with
  |none=>exact base
  |some p=>
   obtain⟨r,d,e⟩:=h.web.to a (gM1 b) p (gM1 ep);exact⟨r,d,e,c⟩
theorem i3.step{m:Nat}{w:eB}{e:E4}{F:List (TK×D)}{a:Wh}(h:i3 m w a.1 a.2)(d:RN e F):i3 m w (ip m w e F a).1 (ip m w e F a).2:=by
 have hc:=yF (m:=m) (ws:=a.1) (f:=En w e F a) (cs:=a.2) h.m8;refine⟨h.web,h.m8,by show(a.1.map _).length<=8;rw[lM1];exact h.few,hc.1,λv c=>?_,hc.2⟩;obtain⟨u,b,rfl⟩:=cc.mp c;exact zo h b (DH d (h.ky u b))
theorem A9{e:E4}{F:List (TK×D)}(b:RN e F){k:Ky}(hk:k.m<3999):dm (tS e F k)<3999:=by
 have a:dm (Be k)<3999:=by show(k.m:Int).toNat<3999;lia
 unfold tS;cases h:d3 F (k.tk e)with
 |none=>exact a
 |some d=>
  have:=(b.fine _ (n9 h)).1;rw[oS1,dv];split
  ·exact this
  ·exact a
theorem xD{w:eB}{u:Wk}{x:D}:(e6 w u x).2.2=dm x:=by
 unfold e6;split
 ·split<;>rfl
 ·rfl
theorem xF{m:Nat}{w:eB}{e:E4}{F:List (TK×D)}{a:Wh}(h:i3 m w a.1 a.2)(d:∀u∈a.1,u.2.2<3999)(c:RN e F):∀u∈(ip m w e F a).1,u.2.2<3999:=λv b=>by
 obtain⟨u,f,rfl⟩:=cc.mp b;rw[xD];exact A9 c (d u f)
theorem qy(a:Wh)(n:Nat):(im a).und n=M:=fE lI
theorem vO(b:List Wh)(n:Nat):D.unds n (b.map im)=M:=Mi.eR λa _=>qy a n
structure rY (m:Nat)(w:eB)(e:E4)(F:List (TK×D))(k:Nat)(Ws:List Wh):Prop where
 ok:∀a∈Ws,i3 m w a.1 a.2/\a.1.length=k /\ ∀u∈a.1,u.2.2<3999
 nx:∀(j:Nat) (a b:Wh),Ws[j]?=some a->Ws[j+1]?=some b->b=ip m w e F a /\ ∀u∈a.1,(d3 F ((ky w a.1 a.2 u).tk e)).isSome=true
theorem rY.more{m:Nat}{w:eB}{e:E4}{F i:List (TK×D)}{k:Nat}{g:List Wh}{a:Wh}(h:rY m w e F k g)(s:Sub F i)(l:RN e i)(o:g[g.length-1]?=Z a)(ha:∀u∈a.1,(d3 i ((ky w a.1 a.2 u).tk e)).isSome=M):rY m w e i k (g++[ip m w e i a]):=by
 have t:=(gE1.mp o).1;have n:=gM1 o;refine⟨λb f=>?_,λj b c f hc=>?_⟩
 ·rcases aG.mp f with f|f
  ·exact h.ok b f
  ·rw[cU.mp f];exact⟨(h.ok a n).1.step l,by show(a.1.map _).length=k;rw[lM1];exact(h.ok a n).2.1,xF (h.ok a n).1 (h.ok a n).2.2 l⟩
 ·by_cases z:j+1<g.length
  ·rw[gL1 (by lia)]at f;rw[gL1 z]at hc;obtain⟨h1,h2⟩:=h.nx j b c f hc;refine⟨by rw[xE s h2];exact h1,λu q=>?_⟩;obtain⟨d,r⟩:=aQ.mp (h2 u q);rw[s _ _ r];rfl
  ·have p:j+1=g.length:=by
    have:=(gE1.mp hc).1;rw[lA1,aY]at this;lia
   rw[gL1 (by lia),show j=g.length-1 by lia,o]at f;rw[gR1 (by lia),p,cM]at hc;cases f;have:ip m w e i a=c:=by simpa using hc
   exact⟨this.symm,ha⟩
structure uh (m:Nat)(rs cs:List Nat):Prop where
 few:rs.length<=8
 cl:cs.length<=8
 rs:∀r∈rs,r<m
 cs:∀r∈cs,r<m
noncomputable def standD(rs cs:List Nat):D:=.tup [.tup (fA rs),.tup (fA cs)]
noncomputable def fb(rs cs:List Nat):Wh:=(rs.map λr=>(r,0,0),cs)
theorem xh{m:Nat}{w:eB}{rs cs:List Nat}(hw:oN m w)(hm:m<=8)(h:uh m rs cs):i3 m w (fb rs cs).1 (fb rs cs).2:=by
 refine⟨hw,hm,by show(rs.map _).length<=8;rw[lM1];exact h.few,h.cl,λu b=>?_,h.cs⟩;obtain⟨r,a,rfl⟩:=cc.mp b;exact⟨_,gG1 (by rw[hw.len];exact h.rs r a),bi _,by show 0<4000;decide⟩
theorem lK(rs cs:List Nat)(n:Nat):(standD rs cs).und n=M:=fE (by simp[standD,D.und,D.unds,u6])
theorem uL{rs cs:List Nat}{S:Sto}:d0 (standD rs cs) (.int 0) S=Z (.tup (fA rs),S):=rfl
theorem uK{rs cs:List Nat}{S:Sto}:d0 (standD rs cs) (.int 1) S=Z (.tup (fA cs),S):=rfl
theorem xg{rs:List Nat}{S:Sto}{c:Option D}{Q:List D×Ev×Sto->Prop}(h:∀ b,Q (eU (fb rs []).1,b,S)):
  W (fM [] (gN 0) fB (eG (eS (dV (mV 0) (dV (mC (D.int 0)) (dV (mC (D.int 0)) dW))))) (fA rs) [c] S) Q:=by
 refine n3 (f:=λr:Nat=>D.int r) (λr:Nat=>gZ (r,0,0)) (λr=>∃x,r=[x]) O rs _ ⟨_,O⟩ ?_ λb _=>?_
 ·rintro a d r ⟨x,rfl⟩;walk_at"w";exact⟨O,_,O⟩
 ·have e:(rs.map λr:Nat=>gZ (r,0,0))=eU (fb rs []).1:=by unfold eU fb;rw[bu];rfl
  rw[e];exact h b
theorem G7{g:G1}{m:FE}{r:Ev}{S:Sto}{Q:D×Sto->Prop}(h:W (m r S) λp=>W (g p.1 p.2) Q):W (mN (b1 g) (dV m dW) r S) Q:=by
 obtain⟨p,e,h⟩:=h;unfold mN dV dW;rw[e];exact h
theorem BE{a:FE}{b:FA}{r:Ev}{S:Sto}{Q:List D×Sto->Prop}(h:W (a r S) λp=>W (b r p.2) λq=>Q (p.1::q.1,q.2)):W (dV a b r S) Q:=by
 obtain⟨p,e,q,c,h⟩:=h;unfold dV;rw[e,oS1,c];exact⟨_,O,h⟩
theorem Jf{S:Sto}(h:S.all (Ob.und 0)=M)(n:Nat):S.all (Ob.und n)=M:=by
 rw[bC]at h ⊢;exact λx a=>kW (bi _) (h x a)
theorem lR{e:E4}{F:List (TK×D)}(h:RN e F)(n:Nat):(Ob.lst ((gi F).map uR)).und n=M:=by rw[Ob.und];exact Cu h n
theorem DI{m:Nat}{w:eB}{e:E4}{rs cs:List Nat}{o:Ob}{n b:Nat}{Q:D×Sto->Prop}(hw:oN m w)(hm:m<=8)(hst:uh m rs cs)(ho:gA o n)(hn:n<=2^35)(hb:b<=400){t:Nat}(hlim:b*rs.length<=t)(hlim2:t<=3000)(q:∀F L c o' G,RN e F->L.length<=t->RL e (gi F) L->rY m w e F rs.length c->c.length=b+1->c[0]?=some (fb rs cs)->gA o' (n+100*b)->G.all (Ob.und 0)=true->G[2]?=some (.lst (c.map im))->Q (.tup [mcD e L,.ref 3],o'::G)):
  W (dX 5 eQ [.ref 0,webD w,eyD e,standD rs cs,.int b] [o]) Q:=by
 refine oD O O ?_;unfold eQ;refine mR ?_;unfold hU;have wq:(eU (fb rs []).1).length=rs.length:=by rw[ku];exact lM1 _
 have hfew:=hst.few;refine eZ (λr S=>r=[Z (.ref 0),Z (webD w),Z (eyD e),Z (standD rs cs),Z (.int (b:Nat)),Z (.ref 1),Z (.ref 3),Y,Y,Y]/\S=[o,.dct [],.lst (eU (fb rs []).1),.lst [im (fb rs cs)]]) ?_ ?_
 ·((try walk_at"w");repeat(simp only[Az,uL,uK];try walk_at"w"))
  rw[gO];refine xg λr'=>?_;walk_at"w";refine⟨ed (by rw[wq];lia),?_⟩;refine eN (xs:=eU (fb rs []).1) O ?_
  first|rfl|exact⟨rfl,rfl⟩
 rintro r S ⟨rfl,rfl⟩;refine eZ (λr S=>∃F c o' G B y,RN e F/\F.length<=t/\gA o' (n+100*b)/\rY m w e F rs.length c/\c.length=b+1/\c[0]?=Z (fb rs cs)/\G.all (Ob.und 0)=M/\S=o'::dO F :: .lst (eU (fb rs []).1) :: .lst (c.map im)::G/\r=[Z (.ref 0),Z (webD w),Z (eyD e),Z (standD rs cs),Z (.int (b:Nat)),Z (.ref 1),Z (.ref 3),B,y,Y]) ?_ ?_
 ·walk_at"w";rw[mx,Int.toNat_natCast];refine⟨gx (by lia),?_⟩;refine gr (λi r S=>∃F c o' G B y,i<=b/\RN e F/\F.length<=i*rs.length/\gA o' (n+100*i)/\rY m w e F rs.length c/\c.length=i+1/\c[0]?=Z (fb rs cs)/\G.all (Ob.und 0)=M/\S=o'::dO F :: .lst (eU (fb rs []).1) :: .lst (c.map im)::G/\r=[Z (.ref 0),Z (webD w),Z (eyD e),Z (standD rs cs),Z (.int (b:Nat)),Z (.ref 1),Z (.ref 3),B,y,Y]) _ 0 _ _ ?_ (λ_ _ _ _=>rfl) ?_ ?_
  ·refine⟨[],[fb rs cs],o,[],Y,Y,bi _,RN.nil,bi _,ho,⟨λa au=>?_,λj a b au hb=>?_⟩,O,O,O,O,O⟩
   ·rw [cU.mp au];exact ⟨xh hw hm hst,lM1 _,fun u hu=>by
     obtain⟨r,_,rfl⟩:=cc.mp hu;show 0<3999;decide⟩
   ·simp at hb
  ·rintro i d A r S ⟨F,c,aq,G,B,y,hi,v,C,p,N,k,l,E,rfl,rfl⟩;have U:=(gE1.mp A).1;rw[lM1,dy]at U;rw[cY]at *
   have hd':d = .int (i:Nat):=by
    rw[gP1,cI U]at A;exact(Option.some.inj A).symm
   subst hd';have hmul:(i+1)*rs.length<=b*rs.length:=dk _ (by lia);have hmul2:(i+1)*rs.length=i*rs.length+rs.length:=by rw[Nat.add_mul,Nat.one_mul]
   obtain⟨a,au⟩:∃a,c[i]?=some a:=⟨_,gG1 (by lia)⟩;have ham:=gM1 au;obtain⟨K,hal,hlow⟩:=N.ok a ham;have R:(c.map im)[i]?=Z (im a):=by rw[gP1,au];rfl
   walk_at"w";unfold gC;have hX:(Ob.lst (eU (fb rs []).1)).und 0=M:=by rw[Ob.und];exact m4 _
   have hY:(Ob.lst (c.map im)).und 0=M:=by rw[Ob.und];exact vO _ 0
   refine eZ (λr S=>∃g ao,RN e g/\g.length<=F.length+rs.length/\gA ao (n+100*i+100)/\Sub F g/\(∀u∈a.1,(d3 g ((ky w a.1 a.2 u).tk e)).isSome=M)/\S=ao::dO g :: .lst (eU (fb rs []).1) :: .lst (c.map im)::G/\r=[Z (.ref 0),Z (webD w),Z (eyD e),Z (standD rs cs),Z (.int (b:Nat)),Z (.ref 1),Z (.ref 3),Z (.int (i:Nat)),y,Y]) ?_ ?_
   ·walk_at"w";refine oO (i:=i) (xs:=c.map im) (x:=im a) O R ?_;walk_at"w";refine Dy (ws:=a.1) (cs:=a.2) (T:=.lst (eU (fb rs []).1) :: .lst (c.map im)::G) K hlow v (by rw[bP,bP,hX,hY,E];rfl) p (by lia) (by lia) λg ao f I s H am=>?_;rw[hal]at I;exact⟨g,ao,f,I,s,H,am,O,trivial⟩
   rintro r S ⟨g,ao,f,I,s,H,am,rfl,rfl⟩;obtain⟨L2',P,_,_⟩:=nB (k7 f) (aC (live_len g) (by lia));generalize h:ao::dO g::Ob.lst (eU (fb rs []).1)::Ob.lst (c.map im)::G=S2;have g1:S2[1]?=Z (dO g):=by rw[<- h];rfl
   have c2:S2.all (Ob.und 0)=M:=by rw[<- h,bP,bP,bP,bP,s.und,f.und,hX,hY,E];rfl
   refine eZ (λr S=>S=S2++[.lst ((gi g).map uR),dO (gi g)]/\r=[Z (.ref 0),Z (webD w),Z (eyD e),Z (standD rs cs),Z (.int (b:Nat)),Z (.ref 1),Z (.ref 3),Z (.int (i:Nat)),Z (.ref (S2.length+1)),Y]) ?_ ?_
   ·unfold eE;refine ee.mpr (G7 (wh f (by lia) g1 O ?_));refine GU f (by lia) (by rw[eM];rfl) ?_;walk_at"w"
   rintro r S ⟨hS,rfl⟩;have g3:S[S2.length+1]?=Z (dO (gi g)):=by rw[hS,gF];rfl
   have g4:S[3]?=Z (.lst (c.map im)):=by rw[hS,<- h];rfl
   have c3:S.all (Ob.und 0)=M:=by
    rw[hS,dz,c2,bP,bP,lR f,(k7 f).und];rfl
   unfold fV;rw[ee];refine lE ?_;walk_at"w";refine⟨3,c.map im,O,g4,?_⟩
   try walk_at"w"
   refine oO (i:=i) (xs:=c.map im) (x:=im a) g4 R ?_
   try walk_at"w"
   refine wE (ws:=a.1) (cs:=a.2) K P g3 (Jf c3 _) ?_;rw[Br K P f];walk_at"w";refine(ug g4).mpr ⟨ed (by rw[lM1];lia),?_⟩;have z:c[c.length-1]?=Z a:=by rw[k];exact au
   refine⟨g,c++[ip m w e g a],ao,G++[.lst ((gi g).map uR),dO (gi g)],_,_,by lia,f,by lia,s.more (by lia),N.more H f z am,by rw[lA1,k];rfl,?_,?_,?_,O⟩
   ·rw[gL1 (by lia)];exact l
   ·rw[dz,E,bP,bP,lR f,(k7 f).und];rfl
   ·rw[hS,<- h];simp only[bj,c7,c5,cu,mP1,aZ]
  ·rintro r S ⟨F,c,aq,G,B,y,hi,v,C,p,N,k,l,E,rfl,rfl⟩;rw[lM1,dy,cY]at *
   exact⟨O,F,c,aq,G,_,_,v,by lia,p,N,k,l,E,O,O⟩
 rintro r S ⟨F,c,aq,G,B,y,v,C,p,N,k,l,E,rfl,rfl⟩;obtain⟨L,rl,hLl,X⟩:=nB (k7 v) (aC (live_len F) (by lia));have hX:(Ob.lst (eU (fb rs []).1)).und 0=M:=by rw[Ob.und];exact m4 _
 have hY:(Ob.lst (c.map im)).und 0=M:=by rw[Ob.und];exact vO _ 0
 generalize h:aq::dO F::Ob.lst (eU (fb rs []).1)::Ob.lst (c.map im)::G=S2;have g1:S2[1]?=Z (dO F):=by rw[<- h];rfl
 refine eZ (λr S=>S=S2++[.lst ((gi F).map uR),.lst (L.map (eI e))]/\r=[Z (.ref 0),Z (webD w),Z (eyD e),Z (standD rs cs),Z (.int (b:Nat)),Z (.ref 1),Z (.ref 3),B,y,Z (mcD e L)]) ?_ ?_
 ·unfold eE;refine ee.mpr (BC.mpr (BE ?_));refine W.of (x:=(eyD e,S2)) O ?_;refine BE (G7 (G7 (wh v (by lia) g1 O ?_)));dsimp only;refine W.of (X S2.length _ (by rw[eM];rfl)) ?_;dsimp only;refine BD.mpr (eN (xs:=L.map (eI e)) (by rw[eM];rfl) ?_);refine W.of (x:=([],_)) O ?_;refine⟨KW,?_⟩;refine W.of (x:=_) O ?_;refine⟨O,?_,O⟩;simp
 rintro r S ⟨rfl,rfl⟩;have ur:=i8 (e:=e) rl.ok 0;simp only[D.und]at ur;have hg:∀V,gc 1 (D.tup [mcD e L,.ref 3],V)=(D.tup [mcD e L,.ref 3],V):=λV=>by
  unfold gc;rw[aj];simp[D.und,D.unds]
 walk_at"w";show Q (gc 1 (D.tup [mcD e L,.ref 3],_));rw[hg,<- h];refine q F L c aq (dO F::Ob.lst (eU (fb rs []).1)::Ob.lst (c.map im)::(G++[.lst ((gi F).map uR),.lst (L.map (eI e))])) v (aC hLl (aC (live_len F) C)) rl N k l p ?_ O;rw[bP,bP,bP,dz,v.und,hX,hY,E,bP,bP,lR v,Ob.und,ur];rfl
noncomputable def rg(b:Bool)(n:Nat):List Nat:=if b=M then af n else[0]
noncomputable def SG(e:E4):List Ky:=(rg e.1 5).flatMap λx=>(rg e.2.1 2).flatMap λy=>(rg e.2.2.1 5).flatMap λz=>(rg e.2.2.2 2).map λw=>⟨0,x,y,z,w⟩
theorem v7{b:Bool}{n x:Nat}(hn:0<n)(h:b=M->x<n):cx b x∈rg b n:=by
 unfold rg cx;cases b with
 |false=>simp
 |true=>simpa using h O
structure Ew (e:E4)(k:Ky):Prop where
 x:k.x<=4
 y:e.2.1=true->k.y<=1
 z:k.z<=4
 w:e.2.2.2=true->k.w<=1
noncomputable def Ho(e:E4)(k:Ky):Ky:=⟨0,cx e.1 k.x,cx e.2.1 k.y,cx e.2.2.1 k.z,cx e.2.2.2 k.w⟩
theorem z9{e:E4}{k:Ky}(h:Ew e k):Ho e k∈SG e:=by
 unfold SG Ho;refine dA.mpr ⟨_,v7 (by decide) λ_=>dB h.x,?_⟩;refine dA.mpr ⟨_,v7 (by decide) λz=>dB (h.y z),?_⟩;refine dA.mpr ⟨_,v7 (by decide) λ_=>dB h.z,?_⟩;exact cc.mpr ⟨_,v7 (by decide) λz=>dB (h.w z),O⟩
theorem H9(b:Bool)(x:Nat):pt b (cx b x)=pt b x:=by cases b<;>rfl
theorem FY(e:E4)(k:Ky):(Ho e k).sg e=k.sg e:=by
 unfold Ho Ky.sg Jw;simp only[H9]
theorem v6{b:Bool}{n x:Nat}(hn:0<n)(h:x∈rg b n):x<n:=by
 unfold rg at h;cases b with
 |false=>simp at h;lia
 |true=>simpa using h
theorem ui{e:E4}{k:Ky}(h:k∈SG e):k.m=0/\k.Ok/\Ew e k:=by
 unfold SG at h;obtain⟨x,d,h⟩:=dA.mp h;obtain⟨y,c,h⟩:=dA.mp h;obtain⟨z,a,h⟩:=dA.mp h;obtain⟨w,b,rfl⟩:=cc.mp h;have h1:=v6 (by decide) d;have h2:=v6 (by decide) c;have f:=v6 (by decide) a;have g:=v6 (by decide) b;exact⟨O,⟨by show 0<4000;decide,by show x<=4;lia,by show y<=4;lia,by show z<=4;lia,by show w<=4;lia⟩,⟨by show x<=4;lia,λ_=>by show y<=1;lia,by show z<=4;lia,λ_=>by show w<=1;lia⟩⟩
noncomputable def AJ(o:Option (D×Sto)):Bool:=match o with
 |some (.bl M,_)=>M
 |_=>J
theorem vd{n:Nat}{f:FN}{ds:List D}{S:Sto}{Q:D×Sto->Prop}(hn:ds.length=n)(a:D.unds 0 ds=M)(h:AJ (f ds [])=M)(q:Q (.bl M,S)):W (dX n f ds S) Q:=by
 refine hK hn a ?_;unfold AJ at h;split at h
 ·rename_i G e;exact⟨_,e,O,q⟩
 ·cases h
theorem xJ:∀a b c d:Bool,(SG (a,b,c,d)).all (λk=>AJ (gQ [eyD (a,b,c,d),k.sg (a,b,c,d)] []))=M:=by
 intro a b c d;cases a<;>cases b<;>cases c<;>cases d<;>decide+kernel
theorem A6:∀a b c d:Bool,AJ (gU [eyD (a,b,c,d)] [])=M:=by
 intro a b c d;cases a<;>cases b<;>cases c<;>cases d<;>decide+kernel
theorem xH(e:E4):(je [eyD e] []).map (·.1)=Z (.tup ((SG e).map (·.sg e))):=by
 obtain⟨a,b,c,d⟩:=e;cases a<;>cases b<;>cases c<;>cases d<;>kernel_rfl!
theorem EY(e:E4):D.unds 0 ((SG e).map (·.sg e))=M:=Mi.eR λk _=>k.sgu e 0
theorem zt{e:E4}{S:Sto}{Q:D×Sto->Prop}(q:Q (.tup ((SG e).map (·.sg e)),S)):W (dX 1 je [eyD e] S) Q:=by
 refine hK O (by rw[D.unds,gH];rfl) ?_;obtain⟨⟨d,G⟩,b,a⟩:=oM1.mp (xH e);dsimp only at a;subst a;exact⟨_,b,by rw[D.und];exact EY e,q⟩
noncomputable def An:D:=.tup [.int 1,.str "mark",.non]
noncomputable def Hy(x:D):D:=.tup [.int ((dm x+1:Nat):Int),.str (dh x),tD (dt x)]
noncomputable def BM(k:Ky):Ky:=⟨k.m+1,k.x,k.y,k.z,k.w⟩
noncomputable def B5(p:Rw):Rw:=(BM p.1,Hy p.2)
noncomputable def MK(e:E4)(L:List Rw):List Rw:=(SG e).map (λk=>(k,An))++L.map B5
theorem CW{e:E4}{p:Rw}{S:Sto}{Q:D×Sto->Prop}(hp:g9 p)(q:Q (eI e (B5 p),S)):W (dX 1 fT [eI e p] S) Q:=by
 obtain⟨k,x⟩:=p;have ex:=hp.2.eta.1;dsimp only at ex;refine hK O (by rw[D.unds,show(eI e (k,x)).und 0=M by have:=i8 (e:=e) (L:=[(k,x)]) (λp h=>by rw[cU.mp h];exact hp) 0;simpa[D.und,D.unds]using this];rfl) ?_;unfold fT;refine mR ?_;unfold oF;have d:eI e (B5 (k,x)) = .tup [.tup [.int ((k.m+1:Nat):Int),k.sg e],.tup [.int ((dm x+1:Nat):Int),.str (dh x),tD (dt x)]]:=rfl;have f:(eI e (B5 (k,x))).und 0=M:=by
  have h1:=k.sgu e 0;have h2:(tD (dt x)).und 0=M:=by cases dt x<;>rfl
  rw[d];simp[D.und,D.unds,h1,h2]
 rw[d]at q f;have g:eI e (k,x) = .tup [.tup [.int k.m,k.sg e],.tup [.int (dm x:Nat),.str (dh x),tD (dt x)]]:=by
  show D.tup [k.d e,x]=_;rw[<- ex];rfl
 rw[g];generalize dm x=a at *
 generalize dh x=b at *
 generalize tD (dt x)=c at *
 generalize k.sg e=s at *
 have j:((k.m:Int)+1)=((k.m+1:Nat):Int):=by push_cast;rfl
 have i:((a:Int)+1)=((a+1:Nat):Int):=by push_cast;rfl
 ((try walk_at"w");repeat(simp only[j,i];try walk_at"w"))
 exact⟨f,q⟩
theorem Cg{e:E4}{p:Rw}(hp:g9 p)(n:Nat):(eI e p).und n=M:=by
 have h1:=p.1.und e n;have h2:=fE (n:=n) hp.2.und;simp[eI,D.und,D.unds,h1,h2]
theorem pR{e:E4}{L:List Rw}{S:Sto}{Q:D×Sto->Prop}(ok:∀p∈L,g9 p)(m:L.length<=3000)(hm:∀p∈MK e L,g9 p)(q:Q (mcD e (MK e L),S)):W (dX 1 gJ [mcD e L] S) Q:=by
 refine hK O (by rw[D.unds,nh ok];rfl) ?_;unfold gJ;refine mR ?_;unfold qr;refine eZ (λr V=>V=[]/\r=[Z (mcD e L),Z (eyD e),Z (.tup (L.map (eI e))),Y]) ?_ ?_
 ·unfold mcD;walk_at"w"
 rintro r V ⟨rfl,rfl⟩;have h:(SG e).length<=1000:=by
  obtain⟨a,b,c,d⟩:=e;cases a<;>cases b<;>cases c<;>cases d<;>decide
 refine eZ (λr V=>V=[.lst ((SG e).map λk=>eI e (k,An))]/\r=[Z (mcD e L),Z (eyD e),Z (.tup (L.map (eI e))),Z (.ref 0)]) ?_ ?_
 ·walk_at"w";refine zt ?_;rw[gO];refine n3 (f:=λk:Ky=>k.sg e) (λk:Ky=>eI e (k,An)) (λr=>∃x,r=[x]) O (SG e) _ ⟨_,O⟩ ?_ λg _=>?_
  ·rintro k l r ⟨x,rfl⟩;walk_at"w";refine⟨?_,_,O⟩;unfold eI Ky.d;rw[(ui l).1];rfl
  ·walk_at"w";exact⟨ed (by rw[lM1];lia),trivial⟩
 rintro r V ⟨rfl,rfl⟩;have key:W (eW 1 [] (gB (mV 2)) (gN 0) fB (eG (mN (dX 1 fT) (dV (mV 0) dW))) [Z (mcD e L),Z (eyD e),Z (.tup (L.map (eI e))),Z (.ref 0)] [.lst ((SG e).map λk=>eI e (k,An))]) λp=>p=(.ref 1,[.lst ((SG e).map λk=>eI e (k,An)),.lst ((L.map B5).map (eI e))]):=by
  rw[rZ];walk_at"w";rw[gO];refine n3 (f:=eI e) (λp:Rw=>eI e (B5 p)) (λr=>∃x,r=[x]) O L _ ⟨_,O⟩ ?_ λg _=>?_
  ·rintro p j r ⟨x,rfl⟩;walk_at"w";refine CW (ok p j) ?_;exact⟨O,O,_,O⟩
  ·refine⟨ed (by dsimp only;rw[lM1];lia),?_⟩;rw[bu];rfl
 obtain⟨p,i,rfl⟩:=key;generalize eW 1 [] (gB (mV 2)) (gN 0) fB (eG (mN (dX 1 fT) (dV (mV 0) dW)))=ao at *
 ((try walk_at"w");repeat(simp only[i];try walk_at"w"))
 refine(Hc (a:=0) (b:=1) (xs:=(SG e).map λk=>eI e (k,An)) (ys:=(L.map B5).map (eI e)) O O).mpr ⟨ed (by rw[lM1,lM1,lM1];lia),?_⟩;refine eN (xs:=(MK e L).map (eI e)) ?_ ?_
 ·unfold MK;rw[cu,bu,bu];rfl
 ·exact⟨nh hm,q⟩
theorem qz{xs:List D}{n:Nat}{S:Sto}{Q:D×Sto->Prop}(a:D.unds 0 xs=M)(hn:xs.length=n)(q:Q (.bl M,S)):W (dX 2 ev [.tup xs,.int (n:Nat)] S) Q:=by
 refine hK O (by rw[D.unds,D.und,a];rfl) ?_;unfold ev;refine mR ?_;unfold j5
 ((try walk_at"w");repeat(simp only[ka,vc];try walk_at"w"))
 subst hn;rw[show(((xs.length:Nat):Int) == (xs.length:Int))=M from beq_self_eq_true _];exact⟨O,q⟩
theorem Jh{f g:FN}{a b c:FE}{r:Ev}{S:Sto}{Q:D×Sto->Prop}:W (Gy f g a b c r S) Q↔W (a r S) λp=>W (b r p.2) λq=>W (f [p.1,q.1] q.2) λt=>W (match t.1 with | .bl k=>if k=true then(c r t.2).bind λz=>g [q.1,z.1] z.2 else some (.bl false,t.2)|_=>none) Q:=by
 unfold Gy;simp only[ee]
 try exact Iff.rfl
theorem DO{r:Ev}{S:Sto}{m i:Nat}{j:Int}{c:FE}{Q:D×Sto->Prop}(hi:r[i]?=Z (Z (.int j)))(hc:c r S=Z (.int m,S))(q:Q (.bl (decide (0<=j)&&decide (j<m)),S)):W (Gy (b2 (iD λi j=>decide (i<=j))) (b2 wT) (mC (D.int (0))) (mV i) c r S) Q:=by
 have e:mV i r S=Z (.int j,S):=by unfold mV;rw[hi]
 rw[Jh];unfold mC;rw[ew];dsimp only;rw[e,ew];dsimp only;unfold b2 iD;dsimp only;rw[ew];dsimp only;cases h:decide (0<=j)with
 |false=>
  rw[aj (by decide),ew];rw[h]at q;exact q
 |true=>
  rw[ak O,hc,ee,ew];rw[h]at q;exact W.of O q
theorem jN{n m:Nat}{S:Sto}{Q:D×Sto->Prop}(h:n<m)(q:Q (.bl M,S)):W (dX 2 fh [.int (n:Nat),.int (m:Nat)] S) Q:=by
 refine hK O O ?_;unfold fh;refine mR ?_;unfold oH;walk_at"w";refine hK O O ?_;unfold iT;refine mR ?_;unfold oG
 ((try walk_at"w");repeat(simp only[ka,vc];try walk_at"w"))
 have h1:decide ((0:Int)<=(n:Nat))=M:=ah (by lia);have h2:decide ((n:Int)<(m:Nat))=M:=ah (by lia);refine⟨O,?_⟩
 try rw[ak O]
 refine DO (m:=m) (j:=n) O O ?_;rw[h1,h2];exact⟨O,q⟩
theorem GO{h:D}{S:Sto}{Q:D×Sto->Prop}(a:h∈iB)(q:Q (.bl M,S)):W (dX 1 jG [h] S) Q:=by
 simp only[iB,aF,bM,or_false]at a;rcases a with rfl|rfl|rfl<;>exact vd O (by decide) (by decide+kernel) q
theorem Jg{a b:FE}{r:Ev}{S:Sto}{Q:D×Sto->Prop}:W (Db a b r S) Q↔W (a r S) λp=>W (qB p.2 p.1) λk=>if k=M then Q p else W (b r p.2) Q:=by
 unfold Db;simp only[ee,qu,ew]
theorem G0{x:D}{S:Sto}{Q:D×Sto->Prop}(hx:gp x)(q:Q (.bl M,S)):W (dX 1 iy [x] S) Q:=by
 have a:=hx.und;refine hK O (by rw[D.unds,a];rfl) ?_;obtain⟨m,h,t,rfl,c,d,b⟩:=hx.is;unfold iy;refine mR ?_;unfold qt;walk_at"w";refine qz (n:=3) (by rw[D.und]at a;exact a) O ?_
 ((try walk_at"w");repeat(simp only[iX,nj];try walk_at"w"))
 refine jN (m:=4000) c ?_;walk_at"w";refine GO d ?_
 ((try walk_at"w");repeat(simp only[Jg];try walk_at"w"))
 simp only[io,aF,bM,or_false]at b;rcases b with rfl|rfl|rfl|rfl|rfl
 ·exact W.of (x:=(.bl M,[])) O (W.of (x:=M) O (by rw[ak O];exact⟨O,q⟩))
 all_goals
  refine W.of (x:=(.bl J,[])) O (W.of (x:=J) O ?_);rw[aj (by decide)]
 ·exact jN (n:=0) (m:=4) (by decide) ⟨O,q⟩
 ·exact jN (n:=1) (m:=4) (by decide) ⟨O,q⟩
 ·exact jN (n:=2) (m:=4) (by decide) ⟨O,q⟩
 ·exact jN (n:=3) (m:=4) (by decide) ⟨O,q⟩
theorem Cf{e:E4}{k:Ky}{S:Sto}{Q:D×Sto->Prop}(hk:Ew e k)(q:Q (.bl M,S)):W (dX 2 gQ [eyD e,k.sg e] S) Q:=by
 obtain⟨a,b,c,d⟩:=e;have h:=bC.mp (xJ a b c d) _ (z9 hk);rw[FY]at h;exact vd O (by rw[D.unds,gH,D.unds,k.sgu (a,b,c,d) 0];rfl) h q
theorem HX{e:E4}{p:Rw}{S:Sto}{Q:D×Sto->Prop}(hp:g9 p)(hk:Ew e p.1)(q:Q (.bl M,S)):W (dX 2 jf [eyD e,eI e p] S) Q:=by
 have a:=p.1.und e 0;have b:=hp.2.und;refine hK O (by rw[D.unds,gH,D.unds,Cg hp 0];rfl) ?_;unfold jf;refine mR ?_;unfold ub eI;walk_at"w";refine qz (n:=2) (by rw[D.unds,a,D.unds,b];rfl) O ?_;walk_at"w";refine W.of (x:=(p.1.d e,[])) O ?_;walk_at"w";refine hK O (by rw[D.unds,gH,D.unds,a];rfl) ?_;unfold k4;refine mR ?_;unfold uc Ky.d;walk_at"w";refine qz (n:=2) (by rw[Ky.d,D.und]at a;exact a) O ?_;walk_at"w";refine W.of (x:=(.int p.1.m,[])) O ?_
 ((try walk_at"w");repeat(simp only[iX];try walk_at"w"))
 refine jN (m:=4000) hp.1.m ?_;walk_at"w";refine W.of (x:=(p.1.sg e,[])) O ?_;walk_at"w";refine Cf hk ?_;refine⟨O,?_⟩;walk_at"w";refine W.of (x:=(p.2,[])) O ?_;walk_at"w";exact G0 hp.2 ⟨O,q⟩
theorem Eo{α:Type}{F:α->Bool}{xs:List α}{n:Nat}{S:Sto}(h:S[n]?=Z (.lst (xs.map λx=>D.bl (F x)))):vo (.ref n) S=Z (.bl (xs.all F),S):=by
 unfold vo;rw[iM h,oS1];dsimp only;rw[ue];rfl
theorem E8{α:Type}{f:α->D}{c:α->Nat}{L:List α}{n:Nat}{U:Sto}{Q:D×Sto->Prop}(h:∀ a∈L,∀ b∈L,wT (f a) (f b) U=Z (.bl (decide (c a<c b)),U))(l:L.length<=10000)(d:U[n]?=Z (.lst (L.map f)))(hs:L.Pairwise λa b=>c a<c b)(q:∀G,Q (.bl M,U++G)):W (fG [.ref n] U) Q:=by
 have e:fv (.ref n) U=Z (.int L.length,U):=by
  unfold fv;rw[iM d];dsimp only;rw[oP1];dsimp only;rw[lM1]
 unfold fG;refine mR ?_;unfold mI
 ((try walk_at"w");repeat(simp only[e];try walk_at"w"))
 refine⟨Bq (by lia) (by lia),?_⟩;rw[mx,show((L.length:Int)-1).toNat=L.length-1 by lia];refine n3 (f:=λj:Nat=>D.int j) (λ_=>D.bl M) (λg=>∃x,g=[x,Z (.ref n)]) O (af (L.length-1)) _ ⟨_,O⟩ ?_ ?_
 ·rintro i hi g ⟨x,rfl⟩;have hi:=aB.mp hi;have h1:i<L.length:=by lia
  have h2:i+1<L.length:=by lia
  walk_at"w";refine oO (x:=f (L[i]'(h1))) d (by rw[gP1,gG1 h1];rfl) ?_;walk_at"w";rw[show((i:Int)+1)=((i+1:Nat):Int) by push_cast;rfl];refine oO (x:=f (L[i+1]'(h2))) d (by rw[gP1,gG1 h2];rfl) ?_
  ((try walk_at"w");repeat(simp only[h _ (bS h1) _ (bS h2)];try walk_at"w"))
  have:=cw.mp hs i (i+1) h1 h2 (by lia);rw[ah this];exact⟨O,_,O⟩
 ·rintro g _;refine⟨ed (by rw[lM1,dy];lia),?_⟩;walk_at"w";have k:=Eo (F:=λ_:Nat=>M) (xs:=af (L.length-1)) (n:=U.length) (S:=U++[.lst ((af (L.length-1)).map λ_=>D.bl M)]) (by rw[eM];rfl);rw[bC.mpr (λ_ _=>rfl)]at k
  ((try walk_at"w");repeat(simp only[k];try walk_at"w"))
  exact q _
theorem E6{e:E4}{L:List Rw}{S:Sto}{Q:D×Sto->Prop}(ok:∀p∈L,g9 p)(hk:∀p∈L,Ew e p.1)(m:L.length<=4000)(hs:BJ e L)(q:Q (.bl M,S)):W (dX 2 gR [eyD e,.tup (L.map (eI e))] S) Q:=by
 refine hK O (by rw[D.unds,gH,D.unds,i8 ok];rfl) ?_;unfold gR;refine mR ?_;unfold oI;refine eZ (λr V=>V=[]/\r=[Z (eyD e),Z (.tup (L.map (eI e)))]) ?_ ?_
 ·((try walk_at"w");repeat(simp only[hI,ka,vc];try walk_at"w"))
  rw[aj (by rw[al,lM1];lia)];trivial
 rintro r V ⟨rfl,rfl⟩;refine eZ (λr V=>V=[.lst (L.map λ_=>.bl M)]/\r=[Z (eyD e),Z (.tup (L.map (eI e)))]) ?_ ?_
 ·walk_at"w";rw[gO];refine n3 (f:=eI e) (λ_=>D.bl M) (λr=>∃x,r=[x,Z (eyD e)]) O L _ ⟨_,O⟩ ?_ ?_
  ·rintro p d r ⟨x,rfl⟩;walk_at"w";refine HX (ok p d) (hk p d) ?_;exact⟨O,O,_,O⟩
  ·rintro l _;refine⟨ed (by rw[lM1];lia),?_⟩;have h:=Eo (F:=λ_:Rw=>M) (xs:=L) (n:=0) (S:=[.lst (L.map λ_=>D.bl M)]) O;rw[bC.mpr (λ_ _=>rfl)]at h
   ((try walk_at"w");repeat(simp only[h];try walk_at"w"))
 rintro r V ⟨rfl,rfl⟩;walk_at"w";rw[gO];refine n3 (f:=eI e) (λp=>p.1.d e) (λr=>∃x y,r=[x,y]) O L _ ⟨_,_,O⟩ ?_ ?_
 ·rintro p d r ⟨x,y,rfl⟩;unfold eI;walk_at"w";exact⟨_,_,O⟩
 rintro l _;refine⟨ed (by rw[lM1];lia),?_⟩;walk_at"w";have k:∀o∈[Ob.lst (L.map λ_=>D.bl M),Ob.lst (L.map λp=>p.1.d e)],o.und 2=M:=λo g=>by
  simp only[aF,bM,or_false]at g;rcases g with rfl|rfl
  ·rw[Ob.und];exact Mi.eR λ_ _=>rfl
  ·rw[Ob.und];exact Mi.eR λp _=>p.1.und e 2
 refine oD O O ((E8 (n:=1) (f:=λp:Rw=>p.1.d e) (c:=λp:Rw=>p.1.code e) (L:=L) (λa i b j=>?_) (by lia) O hs λG=>?_))
 ·unfold wT;rw[show kb _ eO (a.1.d e) (b.1.d e)=_ from Ky.lt (n:=57) (ok a i).1 (ok b j).1];rfl
 ·rw[vj O (bC.mpr k)];exact⟨O,q⟩
theorem x4{e:E4}{L:List Rw}{S:Sto}{Q:D×Sto->Prop}(ok:∀p∈L,g9 p)(hk:∀p∈L,Ew e p.1)(h:L.length<=4000)(hs:BJ e L)(q:Q (.bl M,S)):W (dX 1 ga [mcD e L] S) Q:=by
 have f:=nh (e:=e) ok;refine hK O (by rw[D.unds,f];rfl) ?_;unfold ga;refine mR ?_;unfold lp mcD;walk_at"w";refine qz (n:=2) (by rw[mcD,D.und]at f;exact f) O ?_;walk_at"w";refine W.of (x:=(eyD e,[])) O ?_;walk_at"w";have g:AJ (gU [eyD e] [])=M:=by
  obtain⟨a,b,c,d⟩:=e;exact A6 a b c d
 refine vd O (by rw[D.unds,gH];rfl) g ?_;walk_at"w";refine W.of (x:=(eyD e,[])) O ?_;walk_at"w";refine W.of (x:=(.tup (L.map (eI e)),[])) O ?_;walk_at"w";refine E6 ok hk h hs ?_;exact⟨O,q⟩
theorem RL.fine{e:E4}{F:List (TK×D)}{L:List Rw}(b:RL e (gi F) L)(h:RN e F){p:Rw}(hp:p∈L):Kf e p.1/\dm p.2<3999:=by
 have i:=(b.ok p hp).1;have h1:=(iE (f:=λq:Rw=>q.1.code e) (c:=p.1.code e) (a:=p) b.inc.nd).mpr ⟨hp,O⟩;have h2:=b.lk p.1 i;rw[h1]at h2;have g:=(aA.mp (n9 h2)).1;have d:=h.fine _ g;exact⟨d.2 p.1 O,d.1⟩
theorem gp.parts{x:D}(h:gp x):D.str (dh x)∈iB/\tD (dt x)∈io:=by
 obtain⟨m,y,t,rfl,c,h1,h2⟩:=h.is;have b:=h1;have a:=h2;simp only[iB,aF,bM,or_false]at h1;simp only[io,aF,bM,or_false]at h2;rcases h1 with e|e|e<;>subst e<;>rcases h2 with e|e|e|e|e<;>subst e<;>exact⟨b,a⟩
theorem Hx{e:E4}{p:Rw}(h:g9 p)(hf:Kf e p.1)(hd:dm p.2<3999):g9 (B5 p):=by
 obtain⟨h1,h2⟩:=h.2.parts;have:=hf.2.2;exact⟨⟨by show p.1.m+1<4000;lia,h.1.x,h.1.y,h.1.z,h.1.w⟩,⟨dm p.2+1,_,_,O,by lia,h1,h2⟩⟩
theorem Am:gp An:=⟨1,_,_,O,by decide,by simp[iB],by simp[io]⟩
theorem BI{e:E4}{F:List (TK×D)}{L:List Rw}(c:RL e (gi F) L)(f:RN e F){p:Rw}(hp:p∈MK e L):g9 p/\Ew e p.1:=by
 unfold MK at hp;rcases aG.mp hp with hp|hp
 ·obtain⟨k,d,rfl⟩:=cc.mp hp;exact⟨⟨(ui d).2.1,Am⟩,(ui d).2.2⟩
 ·obtain⟨q,b,rfl⟩:=cc.mp hp;obtain⟨h1,h2⟩:=c.fine f b;have a:=c.ok q b;exact⟨Hx a h1 h2,⟨a.1.x,h1.1,a.1.z,h1.2.1⟩⟩
theorem Hh(e:E4):(SG e).Pairwise λk l=>k.code e<l.code e:=by
 obtain⟨a,b,c,d⟩:=e;cases a<;>cases b<;>cases c<;>cases d<;>decide+kernel
theorem BG(e:E4):(SG e).length<=100:=by
 obtain⟨a,b,c,d⟩:=e;cases a<;>cases b<;>cases c<;>cases d<;>decide
theorem jy(k:Ky)(e:E4):(BM k).code e=k.code e+4096:=by
 unfold Ky.code;show(k.m+1)*4096+km e.bs k.xs=_;lia
theorem xl{e:E4}{k:Ky}(h:k∈SG e):k.code e<4096:=by
 have:=jp (ui h).2.1 e;unfold Ky.code;rw[(ui h).1];lia
theorem Hl{e:E4}{L:List Rw}(h:BJ e L):BJ e (MK e L):=by
 unfold MK BJ;refine cB.mpr ⟨dg.mpr (Hh e),dg.mpr (List.Pairwise.imp (λ{a b} z=>?_) h),?_⟩
 ·show(BM a.1).code e<(BM b.1).code e;rw[jy,jy];lia
 ·intro p f q c;obtain⟨k,d,rfl⟩:=cc.mp f;obtain⟨l,_,rfl⟩:=cc.mp c;show k.code e<(BM l.1).code e;rw[jy];have:=xl d;lia
theorem Hk{e:E4}{L:List Rw}(h:L.length<=3000):(MK e L).length<=4000:=by
 unfold MK;have:=BG e;rw[lA1,lM1,lM1];lia
noncomputable def FD(e:E4)(L:List Rw):List (TK×D):=L.map λp=>(p.1.tk e,p.2)
theorem RL.of{e:E4}{L:List Rw}(hi:BJ e L)(ok:∀p∈L,g9 p)(a:L.length<=4000):RL e (FD e L) L:=by
 refine⟨hi,ok,a,λk b=>?_⟩;unfold d3 FD;rw[List.find?_map,Option.map_map];have:(L.find? ((λp:TK×D=>decide (p.1=k.tk e))∘λp:Rw=>(p.1.tk e,p.2)))=L.find? λp=>decide (p.1.code e=k.code e):=by
  apply iW;intro p c;simp only[Function.comp];rw[bQ,al,al];exact kB (ok p c).1 b
 rw[this];rfl
theorem GV{e:E4}{L:List Rw}{n:Nat}{S:Sto}{Q:D×Sto->Prop}(hi:BJ e L)(ok:∀p∈L,g9 p)(i:L.length<=4000)(c:S[n]?=Z (.lst (L.map (eI e))))(q:Q (.ref S.length,S++[dO (FD e L)])):W (jm (.ref n) S) Q:=by
 refine W.of ?_ q;have ep:L.map (eI e)=(FD e L).map uR:=by
  unfold FD;rw[bu];apply de;intro p _;show _=D.tup [Mi.tkD (p.1.tk e),p.2];rw[p.1.tkD];rfl
 have hnd:((FD e L).map (·.1)).Nodup:=by
  unfold FD;rw[bu];refine dg.mpr (List.Pairwise.imp_of_mem (λ{a b} d f z h=>?_) hi);have:=(kB (ok a d).1 (ok b f).1).mp h;lia
 rw[ep]at c;unfold jm;rw[iM c];dsimp only;rw[lS (F:=FD e L) λp g=>by
  obtain⟨x,_,rfl⟩:=cc.mp g;show Mi.keyT (Mi.tkD (x.1.tk e))=_;rw[x.1.tkD,x.1.keyT],oS1,lM1,ak (by unfold FD;rw[lM1];lia)]
 have:jY (FD e L)=FD e L:=by
  unfold jY;rw[rQ _ _ (by rw[cW];exact hnd),cW]
 rw[this,Bf]
theorem Gc{e:E4}{L:List Rw}{k:Ky}:mS e (MK e L) (BM k)=Hy (mS e L k):=by
 unfold mS MK;rw[List.find?_append,List.find?_eq_none.mpr (λp a=>?_),Option.none_or,List.find?_map]
 ·have:(L.find? ((fun p:Rw=>decide (p.1.code e=(BM k).code e))∘B5))=L.find? fun p=>decide (p.1.code e=k.code e):=by
   apply iW;intro p a;simp only[Function.comp];rw[bQ,al,al];show(BM p.1).code e=_↔_;rw[jy,jy];lia
  rw[this];cases L.find? λp=>decide (p.1.code e=k.code e)with
  |none=>rfl
  |some p=>rfl
 ·obtain⟨l,b,rfl⟩:=cc.mp a;rw[al];show¬ l.code e=_;rw[jy];have:=xl b;lia
theorem Aa{e:E4}{k:Ky}(h:k.m=0):(Ho e k).code e=k.code e:=by
 obtain⟨m,x,y,z,w⟩:=k;obtain⟨a,b,c,d⟩:=e;dsimp only at h;subst h;cases a<;>cases b<;>cases c<;>cases d<;>rfl
theorem C0{e:E4}{L:List Rw}{k:Ky}(h:k.m=0)(hs:Ew e k):mS e (MK e L) k=An:=by
 unfold mS MK;rw[List.find?_append];obtain⟨q,a⟩:∃q,((SG e).map λk=>((k,An):Rw)).find? (λp=>decide (p.1.code e=k.code e))=some q:=by
  refine aQ.mp (List.find?_isSome.mpr ⟨(Ho e k,An),cc.mpr ⟨_,z9 hs,O⟩,?_⟩);exact ah (Aa h)
 rw[a];obtain⟨l,_,rfl⟩:=cc.mp (dw a);rfl
noncomputable def uo(u:Wk):Wk:=(u.1,u.2.1,u.2.2+1)
noncomputable def pu(a:Wh):Wh:=(a.1.map uo,a.2)
theorem Bg{ws:List Wk}{r:Nat}:crowd (ws.map uo) r=crowd ws r:=by
 unfold crowd;rw[List.filter_map,lM1];rfl
theorem IF{w:eB}{ws:List Wk}{cs:List Nat}{u:Wk}:ky w (ws.map uo) cs (uo u)=BM (ky w ws cs u):=by
 unfold ky BM;rw[Bg];rfl
theorem IZ{x:D}:dt (Hy x)=dt x:=by
 show dt (.tup [_,_,tD (dt x)])=_;cases dt x<;>rfl
theorem Cb{w:eB}{u:Wk}{x:D}:e6 w (uo u) (Hy x)=uo (e6 w u x):=by
 unfold e6;rw[IZ];cases dt x with
 |none=>rfl
 |some t=>
  show(match (w[u.1]?).bind (·[t]?)with|some p=>_|none=>_)=uo (match (w[u.1]?).bind (·[t]?)with|some p=>_|none=>_);cases(w[u.1]?).bind (·[t]?)<;>rfl
theorem ww{ws:List Wk}{f g:Wk->D}{h:Str}{r:Nat}(hd:∀u∈ws,dh (f (uo u))=dh (g u)):ig (ws.map uo) f h r=ig ws g h r:=by
 unfold ig;rw[List.any_map];refine iG λu a=>?_;show((uo u).1 == r&&dh (f (uo u)) == h)=_;rw[hd u a];rfl
theorem Bk{m:Nat}{ws:List Wk}{f g:Wk->D}{cs:List Nat}(hd:∀u∈ws,dh (f (uo u))=dh (g u)):ej m (ws.map uo) f cs=ej m ws g cs:=by
 unfold ej;refine List.filter_congr λr _=>?_;rw[ww hd,ww hd]
theorem DX{m:Nat}{w:eB}{e:E4}{F:List (TK×D)}{L:List Rw}{a:Wh}(h:i3 m w a.1 a.2)(d:RL e (gi F) L)(f:RN e F):jr m w (pu a).1 (pu a).2 e (MK e L)=im (pu (ip m w e F a)):=by
 have c:∀u∈a.1,ddW w (a.1.map uo) a.2 e (MK e L) (uo u)=Hy (En w e F a u):=λu b=>by
  unfold ddW En;rw[IF,Gc,d.due f (h.ky u b)]
 unfold jr im pu ip;dsimp only;rw[Bk (g:=En w e F a) λu b=>by rw[c u b];rfl,bu,bu]
 congr 1
 refine de λu b=>?_;simp only[Function.comp];rw[c u b,Cb]
theorem vB{m:Nat}{w:eB}{e:E4}{L:List Rw}{rs cs:List Nat}(h:i3 m w (fb rs cs).1 cs):jr m w (fb rs cs).1 cs e (MK e L)=im (pu (fb rs ((af m).filter λr=>rs.contains r||cs.contains r))):=by
 have f:∀u∈(fb rs cs).1,ddW w (fb rs cs).1 cs e (MK e L) u=An:=λu a=>by
  unfold ddW;have d:=h.ky u a;obtain⟨r,j,rfl⟩:=cc.mp a;refine C0 O ⟨d.x,λ_=>?_,d.z,λ_=>?_⟩
  ·show(if cs.contains r then 1 else 0)<=1;split<;>lia
  ·show(if 1<crowd (fb rs cs).1 r then 1 else 0)<=1;split<;>lia
 have c:∀b r,ig (fb rs cs).1 (ddW w (fb rs cs).1 cs e (MK e L)) b r=((fb rs cs).1.any λu=>u.1 == r&&"mark" == b):=λb r=>by
  unfold ig;refine iG λu a=>?_;rw[f u a];rfl
 unfold jr im pu ej;dsimp only
 congr 1
 ·show _=(fb rs cs).1.map uo;refine de λu a=>?_;rw[f u a];obtain⟨r,_,rfl⟩:=cc.mp a;rfl
 ·refine List.filter_congr λr _=>?_;rw[c,c];have i:(("mark":Str) == "mark")=M:=by decide+kernel
  have g:(("mark":Str) == "wipe")=J:=by decide+kernel
  have h1:((fb rs cs).1.any λu=>u.1 == r&&("mark":Str) == "mark")=rs.contains r:=by
   unfold fb;rw[List.any_map,List.contains_eq_any_beq];refine iG λx _=>?_;show(x == r&&(("mark":Str) == "mark"))=(r == x);rw[i,bN,bQ,beq_iff_eq,beq_iff_eq];exact eq_comm
  have h2:((fb rs cs).1.any λu=>u.1 == r&&("mark":Str) == "wipe")=J:=by
   rw[List.any_eq_false];intro u _;rw[g,Bool.and_false];decide
  rw[h1,h2,ci,bN]
theorem Jk{m:FA}{k:Nat}{r:Ev}{S S1:Sto}{Q:D×Sto->Prop}(hm:m r S=Z ([.int (k:Nat)],S1))(hk:k<=1000)(q:Q (.ref S1.length,S1++[.lst (gP 0 k)])):W (x5 m r S) Q:=by
 refine W.of ?_ q;unfold x5;rw[hm,oS1];dsimp only;rw[ak (by
  unfold vZ;simp only[bA1,al];lia),Int.toNat_natCast]
theorem y3{c:FT}{b:FS}{Q:Fl×Ev×Sto->Prop}(I:Nat->Ev->Sto->Prop)(step:∀k r S,I k r S->W (c r S) fun p=>if p.1=true then 0<k/\W (b r p.2) fun q=>q.1 = .nx/\I (k-1) q.2.1 q.2.2 else Q (.nx,r,p.2)):
  ∀(a k:Nat) (r:Ev) (S:Sto),k<a->I k r S->W (yS c b a r S) Q
 |0,k,r,S,hf,_=>by lia
 |a+1,k,r,S,hf,hi=>by
  rw[yS];dsimp only;rw[ee];obtain⟨⟨t,m⟩,e,h⟩:=step k r S hi;refine⟨_,e,?_⟩;dsimp only at h ⊢;cases t with
  |true=>
   rw[ak O]at h ⊢;obtain⟨n,⟨f,i,j⟩,l,g,d⟩:=h;dsimp only at g d;subst g;rw[l,oS1];exact y3 I step a (k-1) i j (by lia) d
  |false=>
   rw[aj (by decide)]at h ⊢;exact ew.mpr h
theorem Ac(rs:List Nat)(i:Nat):(fA rs).eraseIdx i=fA (rs.eraseIdx i):=by
 unfold fA;simp[cH,List.map_take,List.map_drop]
theorem uJ{m most n:Nat}{o:Ob}{T:Sto}{Q:D×Sto->Prop}(wq:0<m)(hm:m<=8)(S:0<most)(N:most<=8)(ho:gA o n)(hn:n<=2^40)(hT:T.all (Ob.und (T.length+1))=M)(q:∀rs f o',uh m rs f->rs≠[]->rs.length<=most->gA o' (n+100)->Q (standD rs f,o'::T)):W (dX 3 fz [.ref 0,.int m,.int most] (o::T)) Q:=by
 refine xa O O hT ?_;unfold fz;refine mR ?_;unfold iZ;have tl:∀(a b:Ob),(a::(T++[b]))[T.length+1]?=Z b:=λa b=>by rw[gC1,eM];rfl
 have U:∀(a b c:Ob),(a::(T++[b])).set (T.length+1) c=a::(T++[c]):=λa b c=>by rw[c7,cZ _ _ (nR1 _),cM];rfl
 refine eZ (λr V=>V=o::(T++[.lst (fA (af m))])/\r=[Z (.ref 0),Z (.int (m:Nat)),Z (.int (most:Nat)),Z (.ref (T.length+1)),Y]) ?_ ?_
 ·unfold eE;rw[ee];refine Jk (k:=m) (S1:=o::T) O (by lia) ?_;rw[mx];exact W.of O ⟨O,O,O⟩
 rintro r V ⟨rfl,rfl⟩;refine eZ (λr V=>∃rs o',rs≠[]/\rs.length<=most/\rs.length<=m/\(∀x∈rs,x<m)/\gA o' (n+50)/\V=o'::(T++[.lst (fA rs)])/\r=[Z (.ref 0),Z (.int (m:Nat)),Z (.int (most:Nat)),Z (.ref (T.length+1)),Y]) ?_ ?_
 ·refine y3 (λk r V=>∃rs o',rs.length=k+1/\k+1<=m/\(∀x∈rs,x<m)/\gA o' (n+2*(m-(k+1)))/\V=o'::(T++[.lst (fA rs)])/\r=[Z (.ref 0),Z (.int (m:Nat)),Z (.int (most:Nat)),Z (.ref (T.length+1)),Y]) ?_ 100000 (m-1) _ _ (by lia) ⟨af m,o,by rw[dy];lia,by lia,λx am=>aB.mp am,ho.more (by lia),O,O⟩;rintro k r V ⟨rs,P,E,R,j,u,rfl,rfl⟩;unfold hE;walk_at"w";refine eN (tl P (.lst (fA rs))) ?_;walk_at"w";refine fF u (by lia) (by lia) (by lia) λt C g au=>?_;walk_at"w";rw[lU,E];by_cases z:1+t<k+1
  ·rw[ak (by rw[al];push_cast;lia)];refine⟨by lia,?_⟩;unfold hC fV;rw[ee];refine lE ?_;walk_at"w";refine⟨T.length+1,fA rs,O,tl _ _,?_⟩
   try walk_at"w"
   refine eN (tl C (.lst (fA rs))) ?_
   try walk_at"w"
   rw[lU,E];refine fF g (by lia) (by push_cast;lia) (by push_cast;lia) λi p h hi=>?_
   try walk_at"w"
   have w:i<rs.length:=by rw[E];lia
   refine G6 (xs:=fA rs) (x:=.int (rs[i]'(w):Nat)) (tl _ _) (by unfold fA;rw[gP1,gG1 w];rfl) (by lia) ?_;rw[U,Ac];refine⟨rs.eraseIdx i,p,by rw[cF w];lia,by lia,λx am=>j x (List.mem_of_mem_eraseIdx am),h.more (by lia),O,trivial⟩
  ·rw[aj (by rw[al];push_cast;lia)];exact⟨rs,C,λz=>(by rw[z]at E;cases E),by lia,by lia,j,g.more (by lia),O,trivial⟩
 rintro r V ⟨rs,P,I,v,aq,j,u,rfl,rfl⟩;refine eZ (λr V=>∃(a:Nat) (o':Ob),a<2/\gA o' (n+51)/\V=o'::(T++[.lst (fA rs)])/\r=[Z (.ref 0),Z (.int (m:Nat)),Z (.int (most:Nat)),Z (.ref (T.length+1)),Z (.int (a:Nat))]) ?_ ?_
 ·walk_at"w";refine fF u (by lia) (by lia) (by lia) λt C g au=>?_;exact⟨t,C,by lia,g,O,O⟩
 rintro r V ⟨a,C,ha,g,rfl,rfl⟩;walk_at"w";refine eN (tl _ _) ?_;walk_at"w";rw[Int.toNat_natCast];refine⟨gx (by lia),?_⟩;refine jH (λi G r V=>∃f p x,i<=m/\G=fA f/\f.length<=i/\(∀y∈f,y<m)/\gA p (n+51+i)/\V=p::(T++[.lst (fA rs)])/\r=[x,Z (.int (a:Nat)),Z (.ref 0)]) _ 0 [] _ _ ⟨[],C,_,bi _,O,nR1 _,λy A=>(by cases A),g,O,O⟩ (λ_ _ _ _ _=>rfl) ?_ ?_
 ·rintro i d s G r V ⟨f,p,x,hi,rfl,K,l,h,rfl,rfl⟩;have B:=(gE1.mp s).1;rw[f0]at B;rw[cY]at *
  have L:d = .int (i:Nat):=by
   rw[mx,gP1,cI B]at s;exact(Option.some.inj s).symm
  subst L;walk_at"w";refine fF h (by lia) (by lia) (by lia) λt ao F au=>?_;have X:∀H,jP (.int (a:Int)) (.int (t:Int)) H=Z (.int ((a:Int)*(t:Int)),H):=λH=>by
   simp only[jP];rw[ak (pP (by lia) (by lia))]
  ((try walk_at"w");repeat(simp only[X];try walk_at"w"))
  split
  ·exact ⟨f++[i],ao,_,by lia,by simp [fA],by rw [lA1];simp;lia,fun y A=>by
    rcases aG.mp A with A|A
    ·exact l y A
    ·rw[cU.mp A];exact B,F.more (by lia),O,O⟩
  ·exact⟨f,ao,_,by lia,O,by lia,l,F.more (by lia),O,O⟩
 ·rintro xs r V ⟨f,p,x,hi,e,K,l,h,rfl,rfl⟩;rw[cW]at e;subst e;rw[f0,cY]at *
  walk_at"w";refine⟨ed (by rw[lU];lia),?_⟩;refine eN (xs:=fA f) (by rw[gC1,gF];rfl) ?_;exact⟨standD rs f,p,[.lst (fA rs),.lst (fA f)],by simp[standD],lK rs f 0,h.und,q rs f p ⟨by lia,by lia,j,l⟩ I v (h.more (by lia))⟩
theorem u8{m:Nat}{rs cs:List Nat}(h1:∀r∈rs,r<m)(h2:∀r∈cs,r<m)(a:rs.length+cs.length<64)(S:Sto):iC (.tup (fA rs++fA cs)) S=Z (.ref S.length,S++[.lst (fA ((af m).filter λr=>rs.contains r||cs.contains r))]):=by
 have h:∀r,r∈rs++cs↔r<m/\(rs.contains r||cs.contains r)=M:=λr=>by
  rw[aG,bO,cN,cN];exact⟨λz=>⟨z.elim (h1 r) (h2 r),z⟩,λz=>z.2⟩
 rw[F0];unfold iC;rw[ra];dsimp only;rw[Ds,oS1,ak (by rw[lM1,lA1];exact a),Cc h,bu];rfl
noncomputable def pH(u:Wk):D:=.tup [.int u.1,.int u.2.1]
theorem GR{n:Nat}{u:Wk}{S:Sto}:fW S (n+2) (pH u) (pH u)=Z M:=by
 unfold pH;have e:∀(x:Nat),fW S (n+1) (.int x) (.int x)=Z M:=λx=>by
  show Z (((x:Nat):Int) == (x:Int))=_;rw[beq_self_eq_true]
 rw[Ht,ll,e,oS1,ll,e,oS1,ll];rfl
theorem wZ{n:Nat}{S:Sto}:∀ws:List Wk,ll (fW S (n+2)) (ws.map pH) (ws.map pH)=Z M
 |[]=>rfl
 |u::ws=>by rw[mP1,ll,GR,oS1,wZ ws];rfl
theorem D2{a b:Wh}{S:Sto}{Q:D×Sto->Prop}(m:a.1.length<=8)(h1:a.1.map pH=b.1.map pH)(h2:a.2=b.2)(q:Q (.bl M,S)):W (dX 2 gf [im a,im b] S) Q:=by
 refine hK O (by rw[D.unds,qy,D.unds,qy];rfl) ?_;have j:b.1.length<=8:=by
  have:=congrArg List.length h1;rw[lM1,lM1]at this;lia
 unfold gf;refine mR ?_;unfold lB im
 ((try walk_at"w");repeat(simp only[nw,y2];try walk_at"w"))
 obtain⟨c,e⟩:=a;obtain⟨h,k⟩:=b;dsimp only at *
 subst h2;have d:∀(u:Wk) (x:Option D) (V:Sto),Av (mV 0) pO (pN (mC (D.int 2))) [Z (gZ u)] V=Z (pH u,V):=λ_ _ _=>rfl;generalize l:Av (mV 0) pO (pN (mC (D.int 2)))=ao at *
 refine gO.mpr ?_;refine n3 (f:=gZ) pH (λr=>∃x,r=[x]) O c _ ⟨_,O⟩ ?_ ?_
 ·rintro u i r ⟨x,rfl⟩
  ((try walk_at"w");repeat(simp only[d u x];try walk_at"w"))
  first|exact⟨_,rfl⟩|exact⟨rfl,_,rfl⟩
 rintro n _;refine⟨ed (by rw[lM1];lia),?_⟩;refine gO.mpr ?_;refine n3 (f:=gZ) pH (λr=>∃x,r=[x]) O h _ ⟨_,O⟩ ?_ ?_
 ·rintro u i r ⟨x,rfl⟩
  ((try walk_at"w");repeat(simp only[d u x];try walk_at"w"))
  first|exact⟨_,rfl⟩|exact⟨rfl,_,rfl⟩
 rintro r2 _;refine⟨ed (by rw[lM1];lia),?_⟩;dsimp only;rw[<- h1];have g:wU (.ref 0) (.ref 1) [Ob.lst (c.map pH),Ob.lst (c.map pH)]=Z (.bl M,[Ob.lst (c.map pH),Ob.lst (c.map pH)]):=by
  show(fW _ (57+2+1) (.ref 0) (.ref 1)).map _=_;rw[fW];simp only[d5,di,gC1,if_true];rw[aj (by simp),wZ];rfl
 refine W.of g ?_;dsimp only;rw[ak O];refine W.of (x:=(.bl M,[Ob.lst (c.map pH),Ob.lst (c.map pH)])) ?_ ⟨O,q⟩;show(fW _ (57+2+1) (.tup (fA e)) (.tup (fA e))).map _=_;rw[Ht];have:∀xs:List Nat,ll (fW [Ob.lst (c.map pH),Ob.lst (c.map pH)] (57+2)) (fA xs) (fA xs)=Z M:=λxs=>by
  unfold fA
  induction xs with
  |nil=>rfl
  |cons x xs ih=>
   rw[mP1,ll,show fW _ (57+2) (.int (x:Nat)) (.int (x:Nat))=Z (((x:Nat):Int) == (x:Int))from rfl,beq_self_eq_true,oS1,ih];rfl
 rw[this];rfl
theorem Bz{S:Sto}{n k:Nat}(h:S.all (Ob.und n)=M)(hk:n<=k):S.all (Ob.und k)=M:=by
 rw[bC]at h ⊢;exact λx a=>kW hk (h x a)
theorem El{e:E4}{S:Sto}:Hr (eyD e) (eyD e) S=Z (.bl J,S):=by
 obtain⟨a,b,c,d⟩:=e;cases a<;>cases b<;>cases c<;>cases d<;>rfl
theorem EC(a:Wh):(pu a).1.map pH=a.1.map pH:=by
 unfold pu;rw[bu];rfl
theorem ED{m:Nat}{w:eB}{a:Wh}(h:i3 m w a.1 a.2)(e:∀u∈a.1,u.2.2<3999):i3 m w (pu a).1 (pu a).2:=by
 refine⟨h.web,h.m8,by show(a.1.map _).length<=8;rw[lM1];exact h.few,h.cl,λu d=>?_,h.ch⟩;obtain⟨v,c,rfl⟩:=cc.mp d;obtain⟨b,h1,h2,f⟩:=h.wk v c;exact⟨b,h1,h2,by show v.2.2+1<4000;have:=e v c;lia⟩
noncomputable def Al(m:Nat)(rs cs:List Nat):List Nat:=(af m).filter λr=>rs.contains r||cs.contains r
noncomputable def Hu(rs cs:List Nat)(Ws:List Wh):Nat->Wh
 |0=>fb rs cs
 |i+1=>pu (Ws.getD i ([],[]))
theorem Jq{e:E4}{L:List Rw}(hi:BJ e L)(ok:∀p∈L,g9 p):RW e (FD e L):=by
 refine⟨λp g=>?_,?_⟩
 ·obtain⟨x,c,rfl⟩:=cc.mp g;exact⟨x.1,(ok x c).1,O,(ok x c).2⟩
 ·unfold FD;rw[bu];refine dg.mpr (List.Pairwise.imp_of_mem (λ{a b} d f z h=>?_) hi);have:=(kB (ok a d).1 (ok b f).1).mp h;lia
theorem zz{m:Nat}{w:eB}{e:E4}{F:List (TK×D)}{L:List Rw}{rs cs:List Nat}{c:List Wh}{j:Nat}{S:Sto}{Q:D×Sto->Prop}(hst:uh m rs cs)(H:RN e F)(hL:L.length<=3000)(z:RL e (gi F) L)(A:rY m w e F rs.length c)(h0:c[0]? = Z (fb rs (Al m rs cs)))(N:S[j]?=Z (.lst (c.map im)))(y:S.all (Ob.und S.length)=M)(q:Q (.bl M,S)):W (dX 5 gb [webD w,eyD e,standD rs cs,mcD e (MK e L),.ref j] S) Q:=by
 have ok:=λp B=>(BI z H (p:=p) B).1;have ky:=λp B=>(BI z H (p:=p) B).2;have f:=Hl z.inc;have o:=Hk (e:=e) hL;have E:=RL.of f ok o;have v:=(A.ok _ (gM1 h0)).1;have au:=xh v.web v.m8 hst;have T:=hst.few;refine oD O (by simp[D.unds,D.und]) ?_;unfold gb;refine mR ?_;unfold lz;have R:∀V,d0 (mcD e (MK e L)) (.int 0) V=Z (eyD e,V):=λ_=>rfl;have i1:∀V,d0 (mcD e (MK e L)) (.int 1) V=Z (.tup ((MK e L).map (eI e)),V):=λ_=>rfl;have it:∀V,ka .tuple (mV 3) [Z (webD w),Z (eyD e),Z (standD rs cs),Z (mcD e (MK e L)),Z (.ref j),Y,Y,Y] V=Z (.bl M,V):=λ_=>rfl;have um:=λ{S:Sto} {Q} q=>x4 (S:=S) (Q:=Q) ok ky o f q;have am:(D.tup ((MK e L).map (eI e))).und 0=M:=i8 ok 0;generalize hMC:mcD e (MK e L)=MC at *
 refine eZ (λr V=>V=S/\r=[Z (webD w),Z (eyD e),Z (standD rs cs),Z MC,Z (.ref j),Y,Y,Y]) ?_ ?_
 ·((try walk_at"w");repeat(simp only[it,R,El];try walk_at"w"))
  refine um ?_
  ((try walk_at"w");repeat(simp only[R,El];try walk_at"w"))
  refine W.of (x:=(.bl J,S)) O (W.of (x:=(J,S)) O ?_);dsimp only;rw[aj aK];exact⟨O,trivial⟩
 rintro r V ⟨rfl,rfl⟩;refine eZ (λr h=>h=V++[.lst ((MK e L).map (eI e)),dO (FD e (MK e L))]/\r=[Z (webD w),Z (eyD e),Z (standD rs cs),Z MC,Z (.ref j),Z (.ref (V.length+1)),Y,Y]) ?_ ?_
 ·((try walk_at"w");repeat(simp only[i1];try walk_at"w"))
  refine W.of (x:=(.ref V.length,V++[.lst ((MK e L).map (eI e))])) O ?_;dsimp only;refine GV f ok o (by rw[eM];rfl) ?_;dsimp only;rw[lA1,bH];exact⟨O,O⟩
 rintro r h ⟨rfl,rfl⟩;have s:(eU (fb rs []).1).length=rs.length:=by rw[ku];exact lM1 _
 refine eZ (λr h=>h=V++[.lst ((MK e L).map (eI e)),dO (FD e (MK e L)),.lst (eU (fb rs []).1)]/\r=[Z (webD w),Z (eyD e),Z (standD rs cs),Z MC,Z (.ref j),Z (.ref (V.length+1)),Z (im (fb rs cs)),Y]) ?_ ?_
 ·((try walk_at"w");repeat(simp only[uL,uK];try walk_at"w"))
  rw[gO];refine xg λr'=>?_;walk_at"w";refine⟨ed (by rw[s];lia),?_⟩;refine eN (xs:=eU (fb rs []).1) (by rw[gF];rfl) ?_;rfl
 rintro r h ⟨rfl,rfl⟩;have hj:=(gE1.mp N).1;generalize k:V++[Ob.lst ((MK e L).map (eI e)),dO (FD e (MK e L)),.lst (eU (fb rs []).1)]=V2;have wq:V2.length=V.length+3:=by rw[<- k,lA1];rfl
 have g1:V2[V.length+1]?=Z (dO (FD e (MK e L))):=by rw[<- k,gF];rfl
 have U:V2[j]?=Z (.lst (c.map im)):=by rw[<- k,gL1 hj];exact N
 have C:RW e (FD e (MK e L)):=Jq f ok;have G:V2.all (Ob.und V2.length)=M:=by
  rw[wq,<- k,dz,Bz y (by lia),bP,bP,bP,Ob.und,Ob.und,C.und];have X:=fE (n:=V.length+3) am;rw[D.und]at X;have u2:D.unds (V.length+3) (eU (fb rs []).1)=M:=Mi.eR λu _=>rfl;rw[X,u2];rfl
 refine eZ (λr h=>h=V2 /\ ∃ao t,r=[Z (webD w),Z (eyD e),Z (standD rs cs),Z MC,Z (.ref j),Z (.ref (V.length+1)),ao,t]) ?_ ?_
 ·walk_at"w";refine eN U ?_;refine gr (λi r h=>h=V2 /\ ∃t,i<=c.length/\r=[Z (webD w),Z (eyD e),Z (standD rs cs),Z MC,Z (.ref j),Z (.ref (V.length+1)),Z (im (Hu rs cs c i)),t]) _ 0 _ _ ⟨O,_,bi _,O⟩ (λi r V ⟨aq,_⟩=>by rw[aq];exact kU U) ?_ ?_
  ·rintro i d P r h ⟨rfl,t,hi,rfl⟩;rw[cY]at *
   rw[gP1]at P;obtain⟨b,g,rfl⟩:=oM1.mp P;have hlt:=(gE1.mp g).1;obtain⟨b1,b2,b3⟩:=A.ok b (gM1 g);walk_at"w";unfold ja;have l:i3 m w (Hu rs cs c i).1 (Hu rs cs c i).2/\jr m w (Hu rs cs c i).1 (Hu rs cs c i).2 e (MK e L)=im (pu b):=by
    cases i with
    |zero=>
     rw[h0]at g;cases g;exact⟨au,vB au⟩
    |succ i=>
     obtain⟨a,I⟩:∃a,c[i]?=some a:=⟨_,gG1 (by lia)⟩;have he:c.getD i ([],[])=a:=by rw[bK,I];rfl
     obtain⟨a1,a2,a3⟩:=A.ok a (gM1 I);show i3 m w (pu (c.getD i ([],[]))).1 (pu (c.getD i ([],[]))).2/\jr m w (pu (c.getD i ([],[]))).1 (pu (c.getD i ([],[]))).2 e (MK e L)=im (pu b);rw[he];refine⟨ED a1 a3,?_⟩;rw[DX a1 z H,<- (A.nx i a b I g).1]
   refine eZ (λr K=>K=h/\r=[Z (webD w),Z (eyD e),Z (standD rs cs),Z MC,Z (.ref j),Z (.ref (V.length+1)),Z (im (pu b)),Z (im b)]) ?_ ?_
   ·walk_at"w";refine wE l.1 E g1 G ?_;rw[l.2];walk_at"w"
   rintro r K ⟨rfl,rfl⟩;walk_at"w";refine D2 (by show(b.1.map _).length<=8;rw[lM1];exact b1.few) (EC b) O ?_;walk_at"w";refine⟨Z (im b),by lia,?_⟩;have:Hu rs cs c (i+1)=pu b:=by
    show pu (c.getD i ([],[]))=_;rw[bK,g];rfl
   rw[this]
  ·rintro r h ⟨rfl,t,hi,rfl⟩;exact⟨O,O,_,_,O⟩
 rintro r h ⟨rfl,ao,t,rfl⟩;walk_at"w";rw[<- k,vj (d:=.bl M) O y];exact q
theorem wa{b:Bool}{x:Nat}(h:x<=4):m5 (pt b x)=M/\ij (pt b x)=0/\o5 (pt b x)=0:=by
 unfold pt;split
 ·refine⟨?_,by simp only[ij],by simp only[o5]⟩;unfold m5;rw[al];lia
 ·exact⟨by simp only[m5],by simp only[ij],by simp only[o5]⟩
theorem AL{x:Nat}(h:x<4000):m5 (.int (x:Nat))=M:=by
 unfold m5;rw[al];lia
theorem DJ{x:D}(h:gp x):m5 x=M/\ij x<=3/\o5 x<=1:=by
 obtain⟨m,y,t,rfl,c,h1,h2⟩:=h.is;have a:m5 y=M/\ij y=0/\o5 y=0:=by
  simp only[iB,aF,bM,or_false]at h1;rcases h1 with rfl|rfl|rfl<;>exact⟨by decide+kernel,by simp only[ij],by simp only[o5]⟩
 have b:m5 t=M/\ij t=0/\o5 t=0:=by
  simp only[io,aF,bM,or_false]at h2;rcases h2 with rfl|rfl|rfl|rfl|rfl<;>exact⟨by decide+kernel,by simp only[ij],by simp only[o5]⟩
 refine⟨?_,?_,?_⟩
 ·simp only[m5,lM,a.1,b.1,bN,Bool.true_and];exact AL c
 ·simp only[ij,jn,a.2.1,b.2.1];lia
 ·simp only[o5,mT,a.2.2,b.2.2];lia
theorem uP{e:E4}{p:Rw}(h:g9 p):m5 (eI e p)=M/\ij (eI e p)<=20/\o5 (eI e p)<=5:=by
 obtain⟨c,m,l⟩:=DJ h.2;obtain⟨a1,a2,a3⟩:=wa (b:=e.1) h.1.x;obtain⟨b1,b2,b3⟩:=wa (b:=e.2.1) h.1.y;obtain⟨g,f,a⟩:=wa (b:=e.2.2.1) h.1.z;obtain⟨d,i,k⟩:=wa (b:=e.2.2.2) h.1.w;have j:=AL h.1.m;unfold eI Ky.d Ky.sg Jw;refine⟨?_,?_,?_⟩
 ·rw[m5];simp only[lM];rw[c,m5];simp only[lM];rw[j,m5];simp only[lM];rw[a1,b1,g,d];rfl
 ·simp only[ij,jn,a2,b2,f,i];lia
 ·simp only[o5,mT,a3,b3,a,k];lia
theorem IX(e:E4):m5 (eyD e)=M/\ij (eyD e)<=10/\o5 (eyD e)<=2:=by
 obtain⟨a,b,c,d⟩:=e;cases a<;>cases b<;>cases c<;>cases d<;>decide+kernel
theorem C7{e:E4}{L:List Rw}(ok:∀p∈L,g9 p)(g:L.length<=500):∃t,∀S,oo (mcD e L) S=Z (.str t,S):=by
 obtain⟨b,d,c⟩:=IX e;have a1:=sw (f:=eI e) (l:=L) λp a=>(uP (ok p a)).1;have a2:=qj (f:=eI e) (k:=20) (l:=L) λp a=>(uP (ok p a)).2.1;have a3:=tU (f:=eI e) (k:=5) (l:=L) λp a=>(uP (ok p a)).2.2;unfold mcD;refine Cj ?_ ?_ ?_
 ·simp only[lM,m5,b,a1,db]
 ·simp only[jn,ij];lia
 ·simp only[mT,o5];lia
theorem xj{f:FN}{n h:Nat}{es:List D}{o:Ob}{S:Sto}{Q:D×Sto->Prop}(hn:es.length+1=n)(he:D.unds 0 es=M)(i:S[h]? = Z o)(ho:o.und 0=M)(q:W (dX n f (.ref 0::es) [o]) λp=>∃o' G,p.2=o'::G/\o'.und 0=M/\(if p.1.und 0=M then G=[]/\Q (p.1,S.set h o')else(p.1.mv h S.length).und S.length=J/\Q (p.1.mv h S.length,S.set h o'++G.map (Ob.mv h S.length)))):W (dX n (apart f) (.ref h::es) S) Q:=by
 obtain⟨⟨d,j⟩,e,o',G,g,b,a⟩:=q;dsimp only at g a;subst g;unfold dX at e ⊢;rw[ak (by simpa using hn)]at e ⊢;have c:D.unds 0 (.ref h::es)=J:=by simp[D.unds,D.und]
 unfold mH;rw[aj (by rw[c];decide)];unfold apart;dsimp only;rw[ak he,i,oS1,ak ho,e,oS1];dsimp only;rw[ak b];cases hd:d.und 0 with
 |true=>
  rw[hd,ak O]at a;rw[ak O,oP1,gc_same (by simp)];exact⟨_,O,a.2⟩
 |false=>
  rw[hd,aj (by decide)]at a;rw[aj (by decide),oP1];have:gc S.length (d.mv h S.length,S.set h o'++G.map (Ob.mv h S.length))=(d.mv h S.length,S.set h o'++G.map (Ob.mv h S.length)):=by
   unfold gc;rw[a.1];rfl
  rw[this];exact⟨_,O,a.2⟩
mutual
theorem n0{h n:Nat}:∀{d:D},d.und 0=M->d.mv h n=d
 | .non,_=>rfl
 | .bl _,_=>rfl
 | .int _,_=>rfl
 | .str _,_=>rfl
 | .tup xs,q=>by rw[D.und]at q;rw[D.mv,ng q]
 | .rol xs,q=>by rw[D.und]at q;rw[D.mv,ng q]
 | .fn _,_=>rfl
 | .ref k,q=>by simp[D.und]at q
theorem ng{h n:Nat}:∀{ds:List D},D.unds 0 ds=M->D.mvs h n ds=ds
 |[],_=>rfl
 |d::ds,q=>by
  rw[D.unds,bA1]at q;rw[D.mvs,n0 q.1,ng q.2]
end
theorem zY{h n:Nat}:∀{o:Ob},o.und 0=M->o.mv h n=o
 | .lst xs,q=>by rw[Ob.und]at q;rw[Ob.mv,ng q]
 | .dct xs,q=>by
  rw[Ob.und]at q;rw[Ob.mv]
  congr 1
  induction xs with
  |nil=>rfl
  |cons p xs ih=>rw[mP1,D.unds,bA1]at q;rw[mP1,n0 q.1,ih q.2]
 | .dcT xs,q=>by
  rw[Ob.und]at q;rw[Ob.mv]
  congr 1
  induction xs with
  |nil=>rfl
  |cons p xs ih=>rw[mP1,D.unds,bA1]at q;rw[mP1,n0 q.1,ih q.2]
 | .dcF xs,q=>by
  rw[Ob.und]at q;rw[Ob.mv]
  congr 1
  induction xs with
  |nil=>rfl
  |cons p xs ih=>rw[mP1,D.unds,bA1]at q;rw[mP1,n0 q.1,ih q.2]
 | .iset _,_=>rfl
 | .tst _,_=>rfl
theorem wo{h n:Nat}:∀{G:Sto},G.all (Ob.und 0)=M->G.map (Ob.mv h n)=G
 |[],_=>rfl
 |o::G,q=>by
  rw[bP,bA1]at q;rw[mP1,zY q.1,wo q.2]
theorem DZ{S:Sto}{n i:Nat}{o:Ob}(h:S.all (Ob.und n)=M)(ho:o.und n=M):(S.set i o).all (Ob.und n)=M:=by
 rw[bC]at h ⊢;intro x a;rcases List.mem_or_eq_of_mem_set a with z|z
 ·exact h x z
 ·rw[z];exact ho
theorem lC{f:FN}{n h:Nat}{es:List D}{o:Ob}{S:Sto}{Q:D×Sto->Prop}(hn:es.length+1=n)(he:D.unds 0 es=M)(a:S[h]? = Z o)(ho:o.und 0=M)(q:W (dX n f (.ref 0::es) [o]) λp=>∃o',p.2=[o']/\o'.und 0=M/\p.1.und 0=M/\Q (p.1,S.set h o')):W (dX n (apart f) (.ref h::es) S) Q:=
 xj hn he a ho (q.mono λp ⟨o',e,h1,h2,b⟩=>⟨o',[],e,h1,by rw[ak h2];exact⟨O,b⟩⟩)
theorem B8{h n:Nat}{k:Int}{o:Ob}{S:Sto}{Q:D×Sto->Prop}(e:S[h]? = Z o)(ho:gA o n)(hn:n<=2^50)(hk:0<k)(b:k<1073741824)(q:∀(d:Nat) o',gA o' (n+1)->(d:Int)<k->Q (.int d,S.set h o')):W (dX 2 (apart dY) [.ref h,.int k] S) Q:=by
 refine lC O O e ho.und ?_;refine fF ho hn hk b λd o' a c=>?_;exact⟨o',O,a.und,O,q d o' a c⟩
theorem Gb{m:Nat}{rs cs:List Nat}(hm:m<=8)(h:uh m rs cs):uh m rs (Al m rs cs):=by
 refine⟨h.few,?_,h.rs,λr a=>aB.mp (aA.mp a).1⟩;have:=dj (λr=>rs.contains r||cs.contains r) (af m);rw[dy]at this;show(List.filter _ _).length<=8;lia
theorem Ba{m:Nat}{w:eB}{e:E4}{rs cs:List Nat}{o:Ob}{n b:Nat}{V:Sto}{Q:D×Sto->Prop}(h0:V[0]? = some o)(r:V.all (Ob.und V.length)=true)(hw:oN m w)(hm:m<=8)(hst:uh m rs cs)(ho:gA o n)(hn:n<=2^35)(hb:b<=400){c:Nat}(g:b*rs.length<=c)(a:c<=3000)(q:∀F L f h j,RN e F->L.length<=c->RL e (gi F) L->rY m w e F rs.length f->f[0]?=some (fb rs cs)->h.all (Ob.und h.length)=true->h[j]?=some (.lst (f.map im))->Q (.tup [mcD e L,.ref j],h)):
  W (dX 5 (apart eQ) [.ref 0,webD w,eyD e,standD rs cs,.int b] V) Q:=by
 refine xj O (by simp[D.unds,kw,gH,lK];rfl) h0 ho.und ?_;refine DI hw hm hst ho hn hb g a λF L f o' G t i p v x k d l h2=>?_;refine⟨o',G,O,d.und,?_⟩;have u:(D.tup [mcD e L,.ref 3]).und 0=J:=by simp[D.und,D.unds]
 rw[u,aj (by decide)];have s:(D.tup [mcD e L,.ref 3]).mv 0 V.length = .tup [mcD e L,.ref (V.length+2)]:=by
  rw[D.mv,D.mvs,D.mvs,D.mvs,n0 (nh p.ok)];rfl
 rw[s,wo l];refine⟨by simp[D.und,D.unds],?_⟩;refine q F L f (V.set 0 o'++G) (V.length+2) t i p v k ?_ ?_
 ·rw[dz,lA1,aW,Bz (DZ r d.und) (by lia),Jf l];rfl
 ·rw[gR1 (by rw[aW];lia),aW,show V.length+2-V.length=2 by lia];exact h2
theorem EG(ns:List Int)(k:Int)(h0:0<=k)(hk:k<63):W (ro [Z (.rol (ns.map D.int)),Z (.int k),Y,Y,Y,Y,Y,Y,Y,Y] []) λp=>p.1 = .nx /\ ∃au,p.2.1=Z (.rol (ns.map D.int))::au/\au.length=9:=by
 unfold ro;generalize hN:D.rol (ns.map D.int)=N;refine eZ (λr S=>∃o,gA o 0/\S=[o]/\r=[Z N,Z (.int k),Z (.ref 0),Y,Y,Y,Y,Y,Y,Y]) ?_ ?_
 ·obtain⟨o,e,l⟩:=Dx ns k h0 hk;rw[hN]at e
  ((try walk_at"w");repeat(simp only[e];try walk_at"w"))
  exact⟨o,l,O,trivial⟩
 rintro r S ⟨o,l,rfl,rfl⟩;refine eZ (λr S=>∃(m:Nat) (w:eB) (e:E4) (o:Ob),0<m/\m<=8/\oN m w/\gA o 200/\S=[o]/\r=[Z N,Z (.int k),Z (.ref 0),Z (webD w),Z (eyD e),Y,Y,Y,Y,Y]) ?_ ?_
 ·walk_at"w";refine lC (h:=0) (o:=o) O O O l.und ?_;refine Hw (T:=[]) l (by lia) O λm w n s B C f=>?_;refine⟨n,O,f.und,kw w,?_⟩;walk_at"w";refine lC (h:=0) (o:=n) O O O f.und ?_;refine GQ (T:=[]) f (by lia) O λa b c d ao A=>?_;refine⟨ao,O,A.und,gH (a,b,c,d),?_⟩;exact⟨m,w,(a,b,c,d),ao,s,B,C,A.more (by lia),O,O⟩
 rintro r S ⟨m,w,e,o,s,B,C,l,rfl,rfl⟩;refine eZ (λr S=>∃(rs g:List Nat) (o:Ob),uh m rs g/\rs.length<=4/\gA o 400/\S=[o]/\r=[Z N,Z (.int k),Z (.ref 0),Z (webD w),Z (eyD e),Z (standD rs g),Y,Y,Y,Y]) ?_ ?_
 ·((try walk_at"w");repeat(simp only[wC];try walk_at"w"))
  rw[C.len];refine lC (h:=0) (o:=o) O O O l.und ?_;refine uJ (T:=[]) (most:=4) s B (by lia) (by lia) l (by lia) O λrs g n i aq wq f=>?_;refine⟨n,O,f.und,lK rs g 0,?_⟩;exact⟨rs,g,n,i,wq,f.more (by lia),O,O⟩
 rintro r S ⟨rs,g,o,i,am,l,rfl,rfl⟩;have P:=i.few;have hcl:=i.cl;have x:=Gb B i;refine eZ (λr S=>S=[o,.lst (fA (Al m rs g))]/\r=[Z N,Z (.int k),Z (.ref 0),Z (webD w),Z (eyD e),Z (standD rs g),Z (standD rs (Al m rs g)),Y,Y,Y]) ?_ ?_
 ·((try walk_at"w");repeat(simp only[uL,uK];try walk_at"w"))
  refine⟨ed (by rw[lU,lU];lia),?_⟩;refine W.of (u8 i.rs i.cs (by lia) [o]) ?_;dsimp only;refine eN (xs:=fA (Al m rs g)) O ?_;exact⟨O,O⟩
 rintro r S ⟨rfl,rfl⟩;refine eZ (λr S=>∃F L v j,RN e F/\L.length<=100/\RL e (gi F) L/\rY m w e F rs.length v/\v[0]?=Z (fb rs (Al m rs g))/\S.all (Ob.und S.length)=M/\S[j]?=Z (.lst (v.map im))/\r=[Z N,Z (.int k),Z (.ref 0),Z (webD w),Z (eyD e),Z (standD rs g),Z (standD rs (Al m rs g)),Z (mcD e L),Z (.ref j),Y]) ?_ ?_
 ·walk_at"w";refine B8 (h:=0) (o:=o) O l (by lia) (by lia) (by lia) λt n f Q=>?_;walk_at"w";have z:t*rs.length<=100:=aC (Nat.mul_le_mul (show t<=20 by lia) am) (by decide);have R:(Ob.lst (fA (Al m rs g))).und 2=M:=by rw[Ob.und];exact Mi.eR λ_ _=>rfl
  refine Ba (V:=[n,.lst (fA (Al m rs g))]) O (by show(n.und 2&&((Ob.lst (fA (Al m rs g))).und 2&&M))=M;rw[R,f.und];rfl) C B x f (by lia) (by lia) z (by lia) λF L v V' j E y u I q G K=>?_;walk_at"w";exact⟨F,L,v,j,E,y,u,I,q,G,K,O⟩
 rintro r S ⟨F,L,v,j,E,y,u,I,q,X,K,rfl⟩;have ok:=λp U=>(BI u E (p:=p) U).1;refine eZ (λr V=>V=S/\r=[Z N,Z (.int k),Z (.ref 0),Z (webD w),Z (eyD e),Z (standD rs g),Z (standD rs (Al m rs g)),Z (mcD e L),Z (.ref j),Z (mcD e (MK e L))]) ?_ ?_
 ·walk_at"w";refine pR u.ok (by lia) ok ?_;walk_at"w"
 rintro r V ⟨rfl,rfl⟩;have H:(MK e L).length<=500:=by
  have:=BG e;unfold MK;rw[lA1,lM1,lM1];lia
 obtain⟨t,Q⟩:=C7 (e:=e) ok H;walk_at"w";refine zz i E (by lia) u I q K X ?_;walk_at"w";refine pR u.ok (by lia) ok ?_
 ((try walk_at"w");repeat(simp only[Q];try walk_at"w"))
 have et:(t == t)=M:=beq_self_eq_true t;rw[et,aj (by simp)];exact⟨_,O,O⟩
theorem truth(ns:List Int)(L:ns.length<=63):∃S,m_law [.rol (ns.map D.int)] []=Z (.bl M,S):=by
 have key:W (m_law [.rol (ns.map D.int)] []) λp=>p.1 = .bl M:=by
  unfold m_law;refine mR ?_;unfold Bu;have F:(D.rol (ns.map D.int)).und 0=M:=by simp[D.und,lJ]
  have H:=λk G z=>EG ns k G z;generalize I:D.rol (ns.map D.int)=N at *
  have b:fv N []=Z (.int ns.length,[]):=by rw[<- I];simp[fv,d5]
  refine eZ (λr S=>S=[]/\r=[Z N,Y,Y,Y,Y,Y,Y,Y,Y,Y]) ?_ ?_
  ·simp only [gM,mP1,aZ,lC1,bf,Nat.reduceAdd,Nat.reduceSub,KJ,bj,cW,jg,ee,Es,dV,mN,mC,mV,dW,b1,b2,DB,DA,b,ew,oS1,di,HY];have A:∃ t:Nat,t<=4/\(if (if (ns.length:Int)<4 then (ns.length:Int) else 4)>1 then (if (ns.length:Int)<4 then (ns.length:Int) else 4) else 1)=(t:Int):=by
    by_cases h1:(ns.length:Int)<4
    ·rw[ak h1];by_cases h2:(ns.length:Int)>1
     ·rw[ak h2];exact⟨ns.length,by lia,O⟩
     ·rw[aj h2];exact⟨1,by lia,O⟩
    ·rw[aj h1];exact⟨4,by lia,by decide⟩
   obtain⟨t,K,te⟩:=A;rw[te,Int.toNat_natCast];refine⟨gx (by lia),?_⟩;refine gr (λ_ r S=>S=[]/\r=[Z N,Y,Y,Y,Y,Y,Y,Y,Y,Y]) _ 0 _ _ ⟨O,O⟩ (λ_ _ _ _=>rfl) ?_ ?_
   ·rintro i d C r S ⟨rfl,rfl⟩;obtain ⟨k,e,E,ao⟩:=tj (gM1 C);subst e;simp only [gN,c7,c5,ew];obtain ⟨⟨f,r2,am⟩,B,w,v,a,s⟩:=H k E (by lia);dsimp only at w a;subst w;subst a;obtain ⟨j,g,n,m,c,q,o,l,u,y⟩:∃ j g n m c q o l u,v=[j,g,n,m,c,q,o,l,u]:=by
     match v,s with
     |[j,g,n,m,c,q,o,l,u],_=>exact⟨_,_,_,_,_,_,_,_,_,O⟩
    subst y;refine W.of (x:=(.nx,[Z N,Y,Y,Y,Y,Y,Y,Y,Y,Y],[])) ?_ ⟨O,O,O⟩;unfold wl pS;simp[fO,kG,D.und,F,B]
   ·rintro r S ⟨rfl,rfl⟩;exact⟨O,O,O⟩
  ·rintro r S ⟨rfl,rfl⟩;simp only[e0,mC,oS1,ew]
 obtain⟨⟨d,S⟩,e,h⟩:=key;dsimp only at h;exact⟨S,by rw[e,h]⟩
end Law
end
open PySem PySem.W PyProof.Rows
def PySem.W.Fast.tw711569579713402727 := ()
def PySem.W.Fast.tw6124433588189255371 := ()
def PySem.W.Fast.tw1438634167038892703 := ()
def PySem.W.Fast.tw173238890778797267 := ()
def PySem.W.Fast.tw887191188554620634 := ()
def PySem.W.Fast.tw17710521591315943955 := ()
def PySem.W.Fast.tw12546462654964094439 := ()
def PySem.W.Fast.tw10488096462862073252 := ()
def PySem.W.Fast.tw11909081641792429899 := ()
def PySem.W.Fast.tw6713026482489991581 := ()
def PySem.W.Fast.tw12680446764945428376 := ()
def PySem.W.Fast.tw10893060531402898446 := ()
def PySem.W.Fast.tw4302906372925717866 := ()
def PySem.W.Fast.tw8548352702182362403 := ()
def PySem.W.Fast.tw5960986924933267972 := ()
def PySem.W.Fast.tw2428541927754760757 := ()
def PySem.W.Fast.tw12468755008113490212 := ()
def PySem.W.Fast.tw6346179162172330322 := ()
def PySem.W.Fast.tw829588140990415014 := ()
def PySem.W.Fast.tw15788227074771699317 := ()
def PySem.W.Fast.tw15556293988692071808 := ()
def PySem.W.Fast.tw16822683054661844744 := ()
def PySem.W.Fast.tw937530213102174430 := ()
def PySem.W.Fast.tw11116030455971152075 := ()
def PySem.W.Fast.tw16914776156106932981 := ()
def PySem.W.Fast.tw15258578602547211859 := ()
def PySem.W.Fast.tw2932741163086711832 := ()
def PySem.W.Fast.tw49643600574645471 := ()
def PySem.W.Fast.tw3131310560746281496 := ()
def PySem.W.Fast.tw17956700535036908594 := ()
def PySem.W.Fast.tw11515049658996114999 := ()
def PySem.W.Fast.tw14980591532958265026 := ()
def PySem.W.Fast.tw12000813651592501898 := ()
def PySem.W.Fast.tw4492649194742106755 := ()
def PySem.W.Fast.tw10820123361088373271 := ()
def PySem.W.Fast.tw16135340764487971380 := ()
def PySem.W.Fast.tw4031312431836733366 := ()
def PySem.W.Fast.tw4386001618691549770 := ()
def PySem.W.Fast.tw8135778911680693625 := ()
def PySem.W.Fast.tw2912047768054025070 := ()
def PySem.W.Fast.tw15032521268987908400 := ()
def PySem.W.Fast.tw15837746796958323981 := ()
def PySem.W.Fast.tw16716809003867651973 := ()
def PySem.W.Fast.tw6902766758712737001 := ()
def PySem.W.Fast.tw1204975136729068523 := ()
def PySem.W.Fast.tw3519737705531178719 := ()
def PySem.W.Fast.tw18199604213189760130 := ()
def PySem.W.Fast.tw13397707342019550185 := ()
def PySem.W.Fast.tw11260425280739451664 := ()
def PySem.W.Fast.tw7105754516496016462 := ()
def PySem.W.Fast.tw14629982172682054458 := ()
def PySem.W.Fast.tw4690634710002497531 := ()
def PySem.W.Fast.tw16077516079136192313 := ()
def PySem.W.Fast.tw10971608684094542770 := ()
def PySem.W.Fast.tw8209798363464893437 := ()
def PySem.W.Fast.tw17768492919555012168 := ()
def PySem.W.Fast.tw10302627834872469165 := ()
def PySem.W.Fast.tw18137689273114986889 := ()
def PySem.W.Fast.tw13065058987679608452 := ()
def PySem.W.Fast.tw7936775618042065075 := ()
def PySem.W.Fast.tw11984421578401608534 := ()
def PySem.W.Fast.tw728228749426776171 := ()
def PySem.W.Fast.tw16086143344834066470 := ()
def PySem.W.Fast.tw2381071717802135922 := ()
def PySem.W.Fast.tw1475890432848990853 := ()
def PySem.W.Fast.tw10918697660819790426 := ()
def PySem.W.Fast.tw13384519272046433201 := ()
def PySem.W.Fast.tw10200329824251173204 := ()
def PySem.W.Fast.tw14869412672969560654 := ()
def PySem.W.Fast.tw15660641846978465711 := ()
def PySem.W.Fast.tw6909164694537385206 := ()
def PySem.W.Fast.tw2443640993147464981 := ()
def PySem.W.Fast.tw18087332545169960601 := ()
def PySem.W.Fast.tw11155713835799292678 := ()
def PySem.W.Fast.tw17526629096935860983 := ()
def PySem.W.Fast.tw16112395776883455136 := ()
def PySem.W.Fast.tw8246577941103735287 := ()
def PySem.W.Fast.tw14329206707305507226 := ()
def PySem.W.Fast.tw14702155530432175186 := ()
def PySem.W.Fast.tw2362447192942210739 := ()
def PySem.W.Fast.tw6180135207840609650 := ()
def PySem.W.Fast.tw12177758036218055673 := ()
def PySem.W.Fast.tw1402497998097514800 := ()
def PySem.W.Fast.tw4286677218101540947 := ()
def PySem.W.Fast.tw4342748648005395156 := ()
def PySem.W.Fast.tw16375325596603853591 := ()
def PySem.W.Fast.tw3613719391496952954 := ()
def PySem.W.Fast.tw17588275621579929627 := ()
def PySem.W.Fast.tw1966780525758254841 := ()
def PySem.W.Fast.tw5667874349948869981 := ()
def PySem.W.Fast.tw772689486026006886 := ()
def PySem.W.Fast.tw10639906834512691443 := ()
def PySem.W.Fast.tw10138928377332041469 := ()
def PySem.W.Fast.tw3697766806844238597 := ()
def PySem.W.Fast.tw7044182481017031426 := ()
def PySem.W.Fast.tw17895268076360563556 := ()
def PySem.W.Fast.tw13417272709755336802 := ()
def PySem.W.Fast.tw17054053831083460735 := ()
def PySem.W.Fast.tw13645368526651669531 := ()
def PySem.W.Fast.tw17059559184280788470 := ()
def PySem.W.Fast.tw7294538271143604201 := ()
def PySem.W.Fast.tw1304779060488019624 := ()
def PySem.W.Fast.tw13162158916843423009 := ()
def PySem.W.Fast.tw17157112693609334259 := ()
def PySem.W.Fast.tw12555694199266991082 := ()
def PySem.W.Fast.tw16261991743095776670 := ()
def PySem.W.Fast.tw17397858630091096199 := ()
def PySem.W.Fast.tw16396903510473111859 := ()
def PySem.W.Fast.tw5236365896297400152 := ()
def PySem.W.Fast.tw15869209151028862481 := ()
def PySem.W.Fast.tw15515211429241306302 := ()
def PySem.W.Fast.tw16298263776276659768 := ()
def PySem.W.Fast.tw14665595732844653019 := ()
def PySem.W.Fast.tw4742190558108403708 := ()
def PySem.W.Fast.tw7436424764778211663 := ()
def PySem.W.Fast.tw12002073820682944822 := ()
def PySem.W.Fast.tw14687669913672992989 := ()
def PySem.W.Fast.tw14071031212236234169 := ()
def PySem.W.Fast.tw7305919436263844797 := ()
def PySem.W.Fast.tw17953582148881877928 := ()
def PySem.W.Fast.tw3428786823474109321 := ()
def PySem.W.Fast.tw11218046115794976665 := ()
def PySem.W.Fast.tw8984538448105335214 := ()
def PySem.W.Fast.tw17045521999483560459 := ()
def PySem.W.Fast.tw7076484687173777938 := ()
def PySem.W.Fast.tw13275254435389691906 := ()
def PySem.W.Fast.tw2057753698073414975 := ()
def PySem.W.Fast.tw14574591130389642972 := ()
def PySem.W.Fast.tw6278474703941314200 := ()
def PySem.W.Fast.tw3944955126592658097 := ()
def PySem.W.Fast.tw6856173988141953491 := ()
def PySem.W.Fast.tw7510332252131753376 := ()
def PySem.W.Fast.tw3461503918434258883 := ()
def PySem.W.Fast.tw12438772292148093113 := ()
def PySem.W.Fast.tw14315840881374507108 := ()
def PySem.W.Fast.tw2715310170576819371 := ()
def PySem.W.Fast.tw7812491320063484191 := ()
set_option maxRecDepth 100000 in
set_option maxHeartbeats 0 in
theorem PySem.Challenge.cw_ringmeet_k33_marking_first_holds : PySem.Challenge.rw_ringmeet_k33_marking_first.Holds := by
 w_on;refine PySem.W.holds_law (by decide+kernel) fun d=>?_;k_head;(case hw=>w_witness2)
 k_fill
 refine Mi.walk_m (l:=PySem.Challenge.rw_ringmeet_k33_marking_first) (m:=Law.m_law) (k:=9) (x:="_law_script") rfl rfl ⟨rfl,by decide,by decide,rfl⟩ (fun w h Y=>PySem.W.kIn_of Y) Law.truth ?F
 case F=>
  intro w mg f h e G b;refine' Law.all_mk e G b ?a1 ?a2 ?a3 ?a4 ?a5 ?a6 ?a7 ?a8 ?a9 ?a10 ?a11 ?a12 ?a13 ?a14 ?a15 ?a16 ?a17 ?a18 ?a19 ?a20 ?a21 ?a22 ?a23 ?a24 ?a25 ?a26 ?a27 ?a28 ?a29 ?a30 ?a31 ?a32 ?e_HANDS ?h1 ?e_MOODS ?e_MOST_ROWS ?e_PARTS ?h7 ?h8 ?h11 ?h14 ?h17 ?e_STEPS ?z
  all_goals try (refine' Mi.IW ?a ?l ?c ?k;(case a=>k_is);(case l=>k_is);(case c=>k_is);(case k=>k_is))
  (case e_HANDS=>k_is)
  (case h1=>k_is)
  (case e_MOODS=>k_is)
  (case e_MOST_ROWS=>k_is)
  (case e_PARTS=>k_is)
  (case h7=>k_is)
  (case h8=>k_is)
  (case h11=>k_is)
  (case h14=>k_is)
  (case h17=>k_is)
  (case e_STEPS=>k_is)
  (case z=>exact ⟨by k_is,by k_is,by k_is,by k_is,by k_is,by k_is,by k_is,by k_is,by k_is,by k_is,by k_is,by k_is,by k_is,by k_is,by k_is,by k_is,trivial⟩)

